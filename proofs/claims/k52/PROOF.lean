import PyProof.Rows.All
import Wide.All
import OpenK.AllK
import Wide.FinOn
import Lean
import PyProof.EqAt
import PyProof.EqKinds
import PyProof.TupleCall
import PySem.Challenge.RW_stormpost_k52_whole_no_way_is_shorter
set_option Elab.async false
set_option linter.all false
set_option maxRecDepth 100000
namespace L2
open PySem PySem.Spec PyProof.Rows
abbrev Key:=Sum Int Str
def keyIs:Key→Value→Bool
 | .inl k,v=>Value.isInt k v
 | .inr x,v=>Value.isStrOf x v
def keyH (w:World):Key→Int
 | .inl k=>hashInt k
 | .inr x=>hashStr w x
theorem keyIs_shape:∀ {k:Key} {v:Value},keyIs k v=true→(∃ i t,k=Sum.inl i∧v=Value.int i t)∨(∃ x t,k=Sum.inr x∧v=Value.str x t)
 | .inl i,v,h=>by
  obtain ⟨t,e⟩:=Value.isInt_shape (k:=i) (v:=v) h
  exact .inl ⟨i,t,rfl,e⟩
 | .inr x,v,h=>by
  obtain ⟨t,e⟩:=Value.isStrOf_shape (x:=x) (v:=v) h
  exact .inr ⟨x,t,rfl,e⟩
theorem keyIs_int (i:Int) (t:Tok):keyIs (.inl i) (.int i t)=true:=by simp [keyIs,Value.isInt]
theorem keyIs_str (x:Str) (t:Tok):keyIs (.inr x) (.str x t)=true:=by simp [keyIs,Value.isStrOf]
theorem key_ll (a b:Int):decide ((Sum.inl a:Key)=Sum.inl b)=(a == b):=by
 by_cases e:a=b
 ·subst e;simp
 ·have h:¬ (Sum.inl a:Key)=Sum.inl b:=fun q=>e (Sum.inl.inj q)
  rw [decide_eq_false h]
  exact (beq_eq_false_iff_ne.mpr e).symm
theorem key_rr (a b:Str):decide ((Sum.inr a:Key)=Sum.inr b)=decide (a=b):=by
 by_cases e:a=b
 ·subst e;simp
 ·have h:¬ (Sum.inr a:Key)=Sum.inr b:=fun q=>e (Sum.inr.inj q)
  rw [decide_eq_false h,decide_eq_false e]
theorem key_lr (a:Int) (b:Str):decide ((Sum.inl a:Key)=Sum.inr b)=false:=decide_eq_false (fun q=>nomatch q)
theorem key_rl (a:Str) (b:Int):decide ((Sum.inr a:Key)=Sum.inl b)=false:=decide_eq_false (fun q=>nomatch q)
def mixKind (prog:Program) (w:World):PySem.KeyKind prog w Key where
 is:=keyIs
 hash:=keyH w
 inj:=fun v a b ha hb=>by
  rcases keyIs_shape ha with ⟨i,t,rfl,rfl⟩ | ⟨x,t,rfl,rfl⟩
  ·rcases keyIs_shape hb with ⟨j,u,rfl,e⟩ | ⟨y,u,rfl,e⟩
   ·injection e with e1 _;rw [e1]
   ·exact nomatch e
  ·rcases keyIs_shape hb with ⟨j,u,rfl,e⟩ | ⟨y,u,rfl,e⟩
   ·exact nomatch e
   ·injection e with e1 _;rw [e1]
 byValue:=fun k v h=>by
  rcases keyIs_shape h with ⟨i,t,rfl,rfl⟩ | ⟨x,t,rfl,rfl⟩ <;> rfl
 pyHash:=fun hv h=>by
  rcases keyIs_shape hv with ⟨i,t,rfl,rfl⟩ | ⟨x,t,rfl,rfl⟩
  ·exact wpAny_pyHash_int h
  ·exact wpAny_pyHash_str h
 eqBool:=fun hu hv h=>by
  rcases keyIs_shape hu with ⟨i,t,rfl,rfl⟩ | ⟨x,t,rfl,rfl⟩
  ·rcases keyIs_shape hv with ⟨j,u,rfl,rfl⟩ | ⟨y,u,rfl,rfl⟩
   ·rw [key_ll] at h;exact wpAny_eqBool_int h
   ·rw [key_lr] at h;exact SeqAt.EqAt.int_str i t y u _ _ _ _ h
  ·rcases keyIs_shape hv with ⟨j,u,rfl,rfl⟩ | ⟨y,u,rfl,rfl⟩
   ·rw [key_rl] at h;exact SeqAt.EqAt.str_int x t j u _ _ _ _ h
   ·rw [key_rr] at h;exact wpAny_eqBool_str h
 «strs»:=fun k x t v h=>by
  rcases keyIs_shape h with ⟨i,u,rfl,e⟩ | ⟨y,u,rfl,e⟩
  ·exact nomatch e
  ·injection e with e1 _
   subst e1
   cases v <;> rfl
theorem mixKind_int (prog:Program) (w:World) (i:Int) (t:Tok):(mixKind prog w).is (.inl i) (.int i t)=true:=keyIs_int i t
theorem mixKind_str (prog:Program) (w:World) (x:Str) (t:Tok):(mixKind prog w).is (.inr x) (.str x t)=true:=keyIs_str x t
end L2
namespace L2
open PySem PySem.Spec PyProof.Rows
inductive V where
 | non | bl (b:Bool) | int (i:Int) | str (x:Str) | byt (b:Array UInt8) | flt (b:UInt64) | ref (a:Addr) | ty (n:String)
 deriving DecidableEq
def RelV:V→Value→Prop
 | .non,u=>u=Value.none
 | .bl b,u=>u=Value.bool b
 | .int i,u=>∃ t,u=Value.int i t
 | .str x,u=>∃ t,u=Value.str x t
 | .byt b,u=>∃ t,u=Value.bytes b t
 | .flt b,u=>∃ t,u=Value.float b t
 | .ref a,u=>u=Value.ref a
 | .ty n,u=>u=Value.type n
abbrev Vals:List V→List Value→Prop:=Paired RelV
theorem Vals.length {xs:List V} {us:List Value} (r:Vals xs us):xs.length=us.length:=Paired.length r
theorem Vals.get:∀ {xs:List V} {us:List Value} {i:Nat} {x:V},Vals xs us→xs[i]?=some x→∃ u,us[i]?=some u∧RelV x u
 | _,_,_,_,.nil,e=>by simp at e
 | _,_,0,_,.cons r _,e=>by simp at e;subst e;exact ⟨_,rfl,r⟩
 | _,_,i+1,x,.cons _ t,e=>by
  obtain ⟨u,h1,h2⟩:=Vals.get (i:=i) (x:=x) t (by simpa using e)
  exact ⟨u,by simpa using h1,h2⟩
theorem Vals.append:∀ {xs ys:List V} {us ws:List Value},Vals xs us→Vals ys ws→Vals (xs ++ ys) (us ++ ws)
 | _,_,_,_,.nil,s=>s
 | _,_,_,_,.cons r t,s=>.cons r (Vals.append t s)
theorem Vals.take:∀ {xs:List V} {us:List Value} (n:Nat),Vals xs us→Vals (xs.take n) (us.take n)
 | _,_,0,_=>.nil
 | _,_,_+1,.nil=>.nil
 | _,_,n+1,.cons r t=>.cons r (Vals.take n t)
theorem Vals.drop:∀ {xs:List V} {us:List Value} (n:Nat),Vals xs us→Vals (xs.drop n) (us.drop n)
 | _,_,0,r=>r
 | _,_,_+1,.nil=>.nil
 | _,_,n+1,.cons _ t=>Vals.drop n t
def RelO:Option V→Option Value→Prop
 | some v,some u=>RelV v u
 | none,none=>True
 | _,_=>False
def KV {κ:Type}:List (κ × V)→List (κ × Value)→Prop:=Paired fun (p:κ × V) (q:κ × Value)=>p.1=q.1∧RelV p.2 q.2
def kV:Key→V
 | .inl i=>.int i
 | .inr x=>.str x
inductive HO where
 | lst (xs:List V)
 | tup (xs:List V)
 | dK (kvs:List (Key × V)) | dT (kvs:List (List Key × V))
 | set (S:Int→Bool) (n:Nat)
 | ins (C dx:Addr) (fs:List (Str × V))
 | own (x:Addr)
 | xd (fs:List (Str × V))
 | met (f x:Addr)
 | rng (lo hi:Int)
 | frz (o:Obj) (u:HO)
 | tbl (ps:Array Value)
 | ext (φ:Heap→Prop)
abbrev Hp:=Addr→Option HO
def upd (H:Hp) (a:Addr) (o:HO):Hp:=fun b=>if b=a then some o else H b
theorem upd_same {H:Hp} {a:Addr} {o:HO}:upd H a o a=some o:=by unfold upd;rw [if_pos rfl]
theorem upd_ne {H:Hp} {a b:Addr} {o:HO} (h:b≠a):upd H a o b=H b:=by unfold upd;rw [if_neg h]
theorem ne_of {H:Hp} {a b:Addr} {o u:HO} (h:H a=some o) (h':H b=some u) (d:o≠u):a≠b:=by
 intro e;subst e;rw [h] at h';exact d (Option.some.inj h')
theorem ne_of_none {H:Hp} {a b:Addr} {o:HO} (h:H a=some o) (h':H b=none):a≠b:=by
 intro e;subst e;rw [h] at h';cases h'
section
variable (P:Program) (w:World)
def ObjOk (H:Hp) (h:Heap) (a:Addr):HO→Prop
 | .lst xs=>xs.length≤sizeLine∧∃ (its:List Value) (n:Nat),Vals xs its∧h.get? a=some { cls:=.type "list",data:=.seq its.toArray n }
 | .tup xs=>xs.length≤sizeLine∧∃ its:List Value,Vals xs its∧IsTup h a its.toArray
 | .dK kvs=>kvs.length≤sizeLine∧(a == sysModules)=false∧∃ vs,KV kvs vs∧h.DictOf (mixKind P w) a vs
 | .dT kvs=>kvs.length≤sizeLine∧(a == sysModules)=false∧∃ xs:List (List Key × Addr × Value),
   Paired (fun (p:List Key × V) (q:List Key × Addr × Value)=>p.1=q.1∧H q.2.1=some (.tup (p.1.map kV))∧RelV p.2 q.2.2) kvs xs ∧
   ∃ o es ep,h.get? a=some o∧o.ExactDict∧o.data=.dict es ep∧es.toList=xs.map (entryOfKey (tupleKind (mixKind P w)))∧(xs.map (·.1)).Nodup
 | .set S n=>h.SetOf (intKind P w) a S n
 | .ins C dx fs=>H dx=some (.own a)∧fs.length≤1000∧dx≠a∧h.get? a=some (PySem.W.instObj C dx) ∧
   ∃ mA,h.Ns1 dx mA∧(∀ f,RelO (fs.lookup f) (mA f))∧PySem.Within mA (fs.map (·.1))
 | .own _=>∃ o,h.get? a=some o
 | .xd fs=>∃ mA,h.Ns1 a mA∧∀ f,RelO (fs.lookup f) (mA f)
 | .rng lo hi=>∃ t u v,h.get? a=some { cls:=.type "range",data:=.fields #[.int lo t,.int hi u,.int 1 v] }
 | .frz o u=>h.get? a=some o∧ObjOk H h a u
 | .tbl ps=>h.get? a=some { cls:=.none,data:=.fields ps }
 | .met f x=>h.get? a=some (PySem.W.methodObj (.ref f) (.ref x))
 | .ext φ=>φ h∧(∃ o,h.get? a=some o)∧∀ h1 h2:Heap,φ h1→(∀ o,h1.get? a=some o→h2.get? a=some o)→φ h2
def HOk (H:Hp) (h:Heap):Prop:=∀ a o,H a=some o→ObjOk P w H h a o
end
section
variable {P:Program} {w:World} {H H':Hp} {h h':Heap} {a:Addr} {o:HO}
theorem ObjOk.lt (x:ObjOk P w H h a o):a < h.objs.size:=by
 cases o with
 | lst xs=>obtain ⟨_,_,_,_,e⟩:=x;exact Heap.lt_size e
 | tup xs=>obtain ⟨_,_,_,p⟩:=x;exact p.lt
 | dK kvs=>obtain ⟨_,_,_,_,o,_,_,e,_⟩:=x;exact Heap.lt_size e
 | dT kvs=>obtain ⟨_,_,_,_,o,_,_,e,_⟩:=x;exact Heap.lt_size e
 | set S n=>obtain ⟨o,_,_,_,e,_⟩:=x;exact Heap.lt_size e
 | ins C dx fs=>obtain ⟨_,_,_,e,_⟩:=x;exact Heap.lt_size e
 | own y=>obtain ⟨_,e⟩:=x;exact Heap.lt_size e
 | xd fs=>obtain ⟨_,⟨_,_,_,e,_⟩,_⟩:=x;exact Heap.lt_size e
 | rng lo hi=>obtain ⟨_,_,_,e⟩:=x;exact Heap.lt_size e
 | frz ob u=>obtain ⟨e,_⟩:=x;exact Heap.lt_size e
 | tbl ps=>exact Heap.lt_size (show h.get? a=some _ from x)
 | met f y=>exact Heap.lt_size (show h.get? a=some _ from x)
 | ext φ=>obtain ⟨_,⟨_,e⟩,_⟩:=x;exact Heap.lt_size e
theorem Paired.mapP {α β:Type} {F G:α→β→Prop}:∀ {l₁:List α} {l₂:List β},Paired F l₁ l₂→(∀ a b,F a b→G a b)→Paired G l₁ l₂
 | _,_,.nil,_=>.nil
 | _,_,.cons r t,f=>.cons (f _ _ r) (Paired.mapP t f)
theorem ObjOk.stay (x:ObjOk P w H h a o) (k:∀ b u,(b=a∨H b=some (.own a))→h.get? b=some u→h'.get? b=some u)
  (ho:∀ b,H b=some (.own a)→H' b=some (.own a)) (ht:∀ b xs,H b=some (.tup xs)→H' b=some (.tup xs)):ObjOk P w H' h' a o:=by
 induction o with
 | lst xs=>obtain ⟨z,its,n,r,e⟩:=x;exact ⟨z,its,n,r,k _ _ (.inl rfl) e⟩
 | tup xs=>obtain ⟨z,its,r,ob,e,c⟩:=x;exact ⟨z,its,r,ob,k _ _ (.inl rfl) e,c⟩
 | dK kvs=>obtain ⟨z,y,vs,r,ob,es,ep,e,c⟩:=x;exact ⟨z,y,vs,r,ob,es,ep,k _ _ (.inl rfl) e,c⟩
 | dT kvs =>
  obtain ⟨z,y,xs,r,ob,es,ep,e,c⟩:=x
  exact ⟨z,y,xs,Paired.mapP r fun p q z=>⟨z.1,ht _ _ z.2.1,z.2.2⟩,ob,es,ep,k _ _ (.inl rfl) e,c⟩
 | set S n=>obtain ⟨ob,es,ep,t,e,c⟩:=x;exact ⟨ob,es,ep,t,k _ _ (.inl rfl) e,c⟩
 | ins C dx fs =>
  obtain ⟨d,z,ne,e,mA,⟨od,es,ep,e2,c⟩,r⟩:=x
  exact ⟨ho _ d,z,ne,k _ _ (.inl rfl) e,mA,⟨od,es,ep,k _ _ (.inr d) e2,c⟩,r⟩
 | own y=>obtain ⟨ob,e⟩:=x;exact ⟨ob,k _ _ (.inl rfl) e⟩
 | xd fs=>obtain ⟨mA,⟨od,es,ep,e,c⟩,r⟩:=x;exact ⟨mA,⟨od,es,ep,k _ _ (.inl rfl) e,c⟩,r⟩
 | rng lo hi=>obtain ⟨t,u,v,e⟩:=x;exact ⟨t,u,v,k _ _ (.inl rfl) e⟩
 | frz ob u ih=>obtain ⟨e,q⟩:=x;exact ⟨k _ _ (.inl rfl) e,ih q⟩
 | tbl ps =>
  have e:h.get? a=some { cls:=.none,data:=.fields ps }:=x
  show h'.get? a=some { cls:=.none,data:=.fields ps }
  exact k a _ (.inl rfl) e
 | met f y =>
  have e:h.get? a=some (PySem.W.methodObj (.ref f) (.ref y)):=x
  show h'.get? a=some (PySem.W.methodObj (.ref f) (.ref y))
  exact k a _ (.inl rfl) e
 | ext φ=>obtain ⟨p,⟨o,e⟩,st⟩:=x;exact ⟨st _ _ p fun o q=>k _ _ (.inl rfl) q,⟨o,k _ _ (.inl rfl) e⟩,st⟩
theorem HOk.lt (x:HOk P w H h) (e:H a=some o):a < h.objs.size:=(x a o e).lt
theorem HOk.fresh (x:HOk P w H h) (e:h.objs.size≤a):H a=none:=by
 cases q:H a with
 | none=>rfl
 | some u=>exact absurd (Nat.lt_of_lt_of_le (x.lt q) e) (Nat.lt_irrefl _)
theorem HOk.kept (x:HOk P w H h) (k:∀ b u,h.get? b=some u→h'.get? b=some u):HOk P w H h':=fun a o e =>
 (x a o e).stay (fun b u _ q=>k b u q) (fun _ q=>q) fun _ _ q=>q
theorem HOk.laid (x:HOk P w H h) (k:∀ b u,h.get? b=some u→h'.get? b=some u) (hp:h.objs.size≤a) (new:ObjOk P w (upd H a o) h' a o):HOk P w (upd H a o) h':=fun b u e=>by
 have hn:=x.fresh hp
 by_cases hb:b=a
 ·subst hb;rw [upd_same] at e;cases e;exact new
 ·rw [upd_ne hb] at e
  exact (x b u e).stay (fun c v _ q=>k c v q) (fun c q=>by rw [upd_ne (ne_of_none q hn)];exact q) fun c xs q=>by rw [upd_ne (ne_of_none q hn)];exact q
end
def Rd (H:Hp) (a:Addr) (u:HO):Prop:=H a=some u∨∃ o,H a=some (.frz o u)
theorem Rd.ok {P:Program} {w:World} {H:Hp} {h:Heap} {a:Addr} {u:HO} (r:Rd H a u) (x:HOk P w H h):ObjOk P w H h a u:=by
 rcases r with r | ⟨o,r⟩
 ·exact x a u r
 ·obtain ⟨_,q⟩:=x a _ r
  exact q
def Mut:Option HO→Prop
 | some (.lst _)=>True
 | some (.dK _)=>True
 | some (.dT _)=>True
 | some (.set _ _)=>True
 | some (.ins _ _ _)=>True
 | some (.ext _)=>True
 | _=>False
section
variable {P:Program} {w:World} {H:Hp} {h h':Heap} {x e:Addr} {o':HO}
theorem HOk.write (ok:HOk P w H h) (mu:Mut (H x)) (he:e=x∨H e=some (.own x)) (k:∀ b u,b≠e→h.get? b=some u→h'.get? b=some u) (heo:∃ u,h'.get? e=some u)
  (new:ObjOk P w (upd H x o') h' x o'):HOk P w (upd H x o') h':=fun b u q=>by
 have nown:∀ c y,H c=some (.own y)→c≠x:=fun c y r z=>by subst z;rw [r] at mu;exact mu
 have ntup:∀ c xs,H c=some (.tup xs)→c≠x:=fun c xs r z=>by subst z;rw [r] at mu;exact mu
 by_cases hb:b=x
 ·subst hb;rw [upd_same] at q;cases q;exact new
 ·rw [upd_ne hb] at q
  by_cases hbe:b=e
  ·have q':H b=some (.own x):=by
    rcases he with z | z
    ·exact absurd (hbe.trans z) hb
    ·rw [hbe];exact z
   rw [q] at q';cases q'
   obtain ⟨v,hv⟩:=heo
   exact ⟨v,by rw [hbe];exact hv⟩
  ·refine (ok b u q).stay (fun c v hc r=>k c v ?_ r) (fun c r=>by rw [upd_ne (nown c b r)];exact r) fun c xs r=>by rw [upd_ne (ntup c xs r)];exact r
   rcases hc with rfl | hc
   ·exact hbe
   ·rintro rfl
    rcases he with z | z
    ·exact nown c b hc z
    ·rw [hc] at z;cases z;exact hb rfl
end
structure Un (fs ex:List Addr) (H H':Hp) (h h':Heap):Prop where
 keep:∀ b o,h.get? b=some o→H b=none→b ∉ fs→b ∉ ex→h'.get? b=some o
 slot:∀ b o,h.get? b=some o→H b=none→b ∈ fs→b ∉ ex→∃ sl,h'.get? b=some { o with slots:=sl }
 free:∀ b o,h.get? b=some o→H b=none→b ∉ ex→H' b=none
 there:∀ b o,h.get? b=some o→b ∉ ex→∃ o',h'.get? b=some o'
 tups:∀ b xs,H b=some (.tup xs)→H' b=some (.tup xs)
 frzs:∀ b o u,H b=some (.frz o u)→H' b=some (.frz o u)
 tbls:∀ b ps,H b=some (.tbl ps)→∃ more,H' b=some (.tbl (ps ++ more))
section
variable {fs fs' ex ex':List Addr} {H H1 H2:Hp} {h h1 h2 h':Heap} {a x e:Addr} {o:HO}
theorem Un.any (u:Un fs ex H H1 h h1) {b:Addr} {ob:Obj} (q:h.get? b=some ob) (n:H b=none) (hx:b ∉ ex):∃ sl,h1.get? b=some { ob with slots:=sl }:=by
 by_cases hb:b ∈ fs
 ·exact u.slot b ob q n hb hx
 ·exact ⟨ob.slots,u.keep b ob q n hb hx⟩
theorem Un.kept (k:∀ b u,h.get? b=some u→h'.get? b=some u):Un fs ex H H h h' :=
 ⟨fun b ob q _ _ _=>k b ob q,fun b ob q _ _ _=>⟨ob.slots,k b ob q⟩,fun _ _ _ n _=>n,fun b ob q _=>⟨ob,k b ob q⟩,fun _ _ q=>q,fun _ _ _ q=>q,fun _ ps q=>⟨#[],by rw [q];simp⟩⟩
theorem Un.refl:Un fs ex H H h h:=Un.kept fun _ _ q=>q
theorem Un.laid (k:∀ b u,h.get? b=some u→h'.get? b=some u) (hp:h.objs.size≤a) (hn:H a=none):Un fs ex H (upd H a o) h h' where
 keep:=fun b u q _ _ _=>k b u q
 slot:=fun b u q _ _ _=>⟨u.slots,k b u q⟩
 free:=fun b u q n _=>by rw [upd_ne (Nat.ne_of_lt (Nat.lt_of_lt_of_le (Heap.lt_size q) hp))];exact n
 there:=fun b u q _=>⟨u,k b u q⟩
 tups:=fun b xs q=>by rw [upd_ne (ne_of_none q hn)];exact q
 frzs:=fun b u xs q=>by rw [upd_ne (ne_of_none q hn)];exact q
 tbls:=fun b ps q=>⟨#[],by rw [upd_ne (ne_of_none q hn),q];simp⟩
theorem Un.write (mu:Mut (H x)) (he:e=x∨H e=some (.own x)) (k:∀ b u,b≠e→h.get? b=some u→h'.get? b=some u) (heo:∃ u,h'.get? e=some u):Un fs ex H (upd H x o) h h':=by
 have hx:∀ b,H b=none→b≠x:=fun b n z=>by subst z;rw [n] at mu;exact mu
 have hb:∀ b,H b=none→b≠e:=fun b n z=>by
  subst z
  rcases he with r | r
  ·exact hx b n r
  ·rw [n] at r;cases r
 have hm:∀ b u,H b=some u→¬ Mut (some u)→b≠x:=fun b u q nm z=>by subst z;rw [q] at mu;exact nm mu
 refine ⟨fun b u q n _ _=>k b u (hb b n) q,fun b u q n _ _=>⟨u.slots,k b u (hb b n) q⟩,fun b u q n _=>by rw [upd_ne (hx b n)];exact n,fun b u q _=>?_,
  fun b xs q=>by rw [upd_ne (hm b _ q fun z=>z)];exact q,fun b u xs q=>by rw [upd_ne (hm b _ q fun z=>z)];exact q,fun b ps q=>⟨#[],by rw [upd_ne (hm b _ q fun z=>z),q];simp⟩⟩
 by_cases hbe:b=e
 ·subst hbe;exact heo
 ·exact ⟨u,k b u hbe q⟩
end
def trk (h:Heap) (H:Hp):List Addr:=(List.range h.objs.size).filter fun a=>(H a).isSome
def hidT (h:Heap) (H:Hp):Heap:=PySem.W.hideAll h (trk h H)
theorem hidT_size (h:Heap) (H:Hp):(hidT h H).objs.size=h.objs.size:=PySem.W.hideAll_size _ _
theorem hidT_get {h:Heap} {H:Hp} {b:Addr} {o:Obj} (e:h.get? b=some o) (n:H b=none):(hidT h H).get? b=some o :=
 PySem.W.hideAll_get _ e fun hm=>by
  have q:(H b).isSome=true:=(List.mem_filter.mp hm).2
  rw [n] at q;simp at q
theorem of_hidT {h:Heap} {H:Hp} {b:Addr} {o:Obj} (e:(hidT h H).get? b=some o):h.get? b=some o∧H b=none:=by
 have e':h.get? b=some o:=PySem.W.of_hideAll (trk h H) e
 refine ⟨e',?_⟩
 cases q:H b with
 | none=>rfl
 | some x =>
  have hm:b ∈ trk h H:=List.mem_filter.mpr ⟨List.mem_range.mpr (Heap.lt_size e'),by simp [q]⟩
  have z:(hidT h H).get? b=none:=PySem.W.hideAll_none (trk h H) hm
  rw [z] at e;cases e
end L2
namespace L2
open PySem PySem.Spec PyProof.Rows
structure Mod (K:PySem.W.Frag) (mg:Str→Option Value) (base:Heap):Prop where
 kin:K.In base
 glob:base.Ns mainGlobals mg
 blt:∃ mb,base.Ns builtinsNs mb∧∀ x:Str,x≠"__name__"→mb x=bootBuiltins x
 nolimit:base.NoLimit
structure Cx where
 prog:Program
 w:World
 K:PySem.W.Frag
 mg:Str→Option Value
 base:Heap
 A:Around
 N:List Str
 s₀:Shared
 H₀:Hp
 env:Env
 outer:List Env
 stack:List Env
 ex:List Addr
 fn:Str→Bool
 calm:Bool
 pn:List (Addr × Obj)
 xe:Value→Shared→Prop
def frs (l:List Env):List Addr:=l.filterMap (·.frame)
abbrev Cx.fs (X:Cx):List Addr:=frs X.outer
def Vis (sc:Scope) (x:Str):Prop:=sc.names.lookup x=some .local∨sc.names.lookup x=some .cell∨sc.names.lookup x=some .free
def Loc (sc:Scope) (x:Str):Prop:=sc.names.lookup x=some .local∨sc.names.lookup x=some .cell
def Look (env:Env) (h:Heap) (m:Str→Option Value) (x:Str) (u:Value):Prop :=
 (env.kindOf x=some .local∧m x=some u)∨((env.kindOf x=some .cell∨env.kindOf x=some .free)∧∃ c,env.cells.lookup x=some c∧h.IsCell c (some u))
structure Cx.Ok (X:Cx):Prop where
 mod:Mod X.K X.mg X.base
 kind:X.env.scope.kind=.function
 glob:X.env.globals=mainGlobals
 blt:X.env.builtins=builtinsNs
 above:X.s₀.heap.objs.size≤X.env.locals
 inj:∀ x y c,X.env.cells.lookup x=some c→X.env.cells.lookup y=some c→x=y
 has:∀ x,(X.env.kindOf x=some .cell∨X.env.kindOf x=some .free)→∃ c,X.env.cells.lookup x=some c
 cab:∀ x c,X.fn x=true→X.env.cells.lookup x=some c→X.s₀.heap.objs.size≤c
 hd:X.calm=true→X.A.handled=none
 frames:X.A.frames=some X.stack
 stk:X.stack=X.outer∨(X.stack=X.env :: X.outer∧X.env.frame=some X.env.locals)
 exf:∀ b ∈ X.ex,b≠X.env.locals∧∀ x c,X.env.cells.lookup x=some c→c≠b
 bs:∀ b o,X.base.get? b=some o→X.s₀.heap.get? b=some o∧X.H₀ b=none
 bsz:X.base.objs.size≤X.s₀.heap.objs.size
 noex:∀ b o,X.base.get? b=some o→b ∉ X.ex
 exfs:∀ b ∈ X.ex,b ∉ X.fs
 funs:X.s₀.heap.FunFrames X.base X.outer
 frf:∀ b ∈ X.fs,X.H₀ b=none
structure Inv (X:Cx) (pins:List (Addr × Obj)) (σ:List (Option V)) (H:Hp) (s:Shared):Prop where
 ok:X.Ok
 os:s.os=X.s₀.os
 bare:AllBare s.gens
 base:Un X.fs X.ex X.H₀ H X.s₀.heap s.heap
 loc:∃ m,s.heap.Ns X.env.locals m∧∀ (i:Nat) (x:Str) (v:V),X.N[i]?=some x→σ[i]?=some (some v)→Vis X.env.scope x→∃ u,RelV v u∧Look X.env s.heap m x u
 cell:∀ x c,X.env.cells.lookup x=some c→∃ v,s.heap.IsCell c v
 free:H X.env.locals=none
 freeC:∀ x c,X.env.cells.lookup x=some c→H c=none
 pin:∀ p ∈ X.pn ++ pins,s.heap.get? p.1=some p.2∧H p.1=none∧p.1≠X.env.locals∧p.1 ∉ X.fs∧∀ v,p.2.data≠.cell v
 hok:HOk X.prog X.w H s.heap
 len:σ.length=X.N.length
section
variable {X:Cx} {pins:List (Addr × Obj)} {σ:List (Option V)} {H H':Hp} {s:Shared} {h':Heap}
theorem Cx.Ok.nofr (ok:X.Ok) {b:Addr} {o:Obj} (e:X.base.get? b=some o):b ∉ X.fs:=fun hb=>by
 have:=(ok.funs.mem hb).1
 rw [e] at this;cases this
theorem Inv.bs (I:Inv X pins σ H s):∀ b o,X.base.get? b=some o→s.heap.get? b=some o∧H b=none:=fun b o e =>
 ⟨I.base.keep b o (I.ok.bs b o e).1 (I.ok.bs b o e).2 (I.ok.nofr e) (I.ok.noex b o e),I.base.free b o (I.ok.bs b o e).1 (I.ok.bs b o e).2 (I.ok.noex b o e)⟩
theorem Inv.bk (I:Inv X pins σ H s):∀ b o,X.base.get? b=some o→s.heap.get? b=some o:=fun b o e=>(I.bs b o e).1
theorem Inv.mod (I:Inv X pins σ H s):Mod X.K X.mg X.base:=I.ok.mod
theorem Inv.kIn (I:Inv X pins σ H s):X.K.In s.heap:=I.ok.mod.kin.keeps I.bk
theorem Inv.lt (I:Inv X pins σ H s):X.env.locals < s.heap.objs.size:=let ⟨_,hn,_⟩:=I.loc;hn.lt
theorem Inv.sz (I:Inv X pins σ H s):X.s₀.heap.objs.size≤s.heap.objs.size:=Nat.le_trans I.ok.above (Nat.le_of_lt I.lt)
theorem Inv.nofs (I:Inv X pins σ H s) {a:Addr} (h:s.heap.objs.size≤a):a ∉ X.fs:=fun hb=>by
 obtain ⟨_,o,ho,_⟩:=I.ok.funs.mem hb
 exact absurd (Nat.lt_of_lt_of_le (Heap.lt_size ho) (Nat.le_trans I.sz h)) (Nat.lt_irrefl _)
theorem Inv.cne (I:Inv X pins σ H s):∀ x c,X.env.cells.lookup x=some c→c≠X.env.locals:=fun x c e z=>by
 obtain ⟨v,o,ho,hd⟩:=I.cell x c e
 obtain ⟨m,⟨o',es,ep,ho',hd',_⟩,_⟩:=I.loc
 rw [z,ho'] at ho;cases ho;rw [hd'] at hd;cases hd
theorem Inv.funs (I:Inv X pins σ H s):s.heap.FunFrames X.base X.outer:=by
 have all:∀ (l:List Env),(∀ b ∈ frs l,b ∈ X.fs)→X.s₀.heap.FunFrames X.base l→s.heap.FunFrames X.base l:=by
  intro l
  induction l with
  | nil=>intro _ _;trivial
  | cons env r ih =>
   intro hs hl
   obtain ⟨hk,⟨L,o,hf,hn,ho,hd⟩,hr⟩:=hl
   have hL:L ∈ X.fs:=hs L (by unfold frs;rw [List.filterMap_cons,hf];exact List.mem_cons_self)
   obtain ⟨sl,e⟩:=I.base.slot L o ho (I.ok.frf L hL) hL fun z=>I.ok.exfs L z hL
   exact ⟨hk,⟨L,_,hf,hn,e,hd⟩,ih (fun b hb=>hs b (by unfold frs;rw [List.filterMap_cons,hf];exact List.mem_cons_of_mem _ hb)) hr⟩
 exact all X.outer (fun _ hb=>hb) I.ok.funs
theorem Inv.stack (I:Inv X pins σ H s):s.heap.FunFrames X.base X.stack:=by
 rcases I.ok.stk with e | ⟨e,hf⟩
 ·rw [e];exact I.funs
 ·rw [e]
  obtain ⟨m,hn,_⟩:=I.loc
  refine .cons (by rw [I.ok.kind];decide) hf hn ?_ I.funs
  exact Heap.get?_none_of_le (Nat.le_trans I.ok.bsz I.ok.above)
theorem Inv.stkSub (I:Inv X pins σ H s):∀ b ∈ frs X.stack,b ∈ X.env.locals :: X.fs:=fun b hb=>by
 rcases I.ok.stk with e | ⟨e,hf⟩
 ·rw [e] at hb;exact List.mem_cons_of_mem _ hb
 ·rw [e] at hb
  unfold frs at hb
  rw [List.filterMap_cons,hf] at hb
  exact hb
theorem Inv.stkFree (I:Inv X pins σ H s):∀ b ∈ frs X.stack,H b=none:=fun b hb=>by
 rcases List.mem_cons.mp (I.stkSub b hb) with e | hb
 ·rw [e];exact I.free
 ·obtain ⟨_,o,ho,_⟩:=I.ok.funs.mem hb
  exact I.base.free b o ho (I.ok.frf b hb) fun z=>I.ok.exfs b z hb
theorem Inv.step {g':Array GenState} {t':Nat} {d':Drawn} {ch:List Addr} (I:Inv X pins σ H s)
  (hch:∀ b ∈ ch,(b ∈ X.ex∨X.s₀.heap.objs.size≤b)∧b≠X.env.locals∧(∀ x c,X.env.cells.lookup x=some c→c≠b)∧∀ p ∈ X.pn ++ pins,p.1≠b)
  (keep:∀ b o,b≠X.env.locals→b ∉ X.fs→b ∉ ch→s.heap.get? b=some o→H b=none→h'.get? b=some o)
  (slot:∀ b o,b≠X.env.locals→b ∈ X.fs→b ∉ ch→s.heap.get? b=some o→H b=none→∃ sl,h'.get? b=some { o with slots:=sl }) (free:∀ b o,b ∉ ch→s.heap.get? b=some o→H b=none→H' b=none)
  (there:∀ b o,b ∉ ch→s.heap.get? b=some o→∃ o',h'.get? b=some o')
  (tups:∀ b xs,H b=some (.tup xs)→H' b=some (.tup xs)) (frzs:∀ b o u,H b=some (.frz o u)→H' b=some (.frz o u)) (tbls:∀ b ps,H b=some (.tbl ps)→∃ more,H' b=some (.tbl (ps ++ more)))
  (ns:∀ m,s.heap.Ns X.env.locals m→h'.Ns X.env.locals m) (hok:HOk X.prog X.w H' h') (hg:AllBare g') :
  Inv X pins σ H' { s with heap:=h',gens:=g',drawn:=d',toks:=t' }:=by
 have neL:∀ b o,X.s₀.heap.get? b=some o→b≠X.env.locals:=fun b o e=>Nat.ne_of_lt (Nat.lt_of_lt_of_le (Heap.lt_size e) I.ok.above)
 have neC:∀ b o,X.s₀.heap.get? b=some o→b ∉ X.ex→b ∉ ch:=fun b o e hx hb=>by
  rcases (hch b hb).1 with z | z
  ·exact hx z
  ·exact absurd (Nat.lt_of_lt_of_le (Heap.lt_size e) z) (Nat.lt_irrefl _)
 have cellK:∀ x c,X.env.cells.lookup x=some c→∀ v,s.heap.IsCell c v→h'.IsCell c v:=fun x c e v ⟨o,ho,hd⟩=>by
  have nch:c ∉ ch:=fun z=>(hch c z).2.2.1 x c e rfl
  by_cases hc:c ∈ X.fs
  ·obtain ⟨sl,q⟩:=slot c o (I.cne x c e) hc nch ho (I.freeC x c e)
   exact ⟨_,q,hd⟩
  ·exact ⟨o,keep c o (I.cne x c e) hc nch ho (I.freeC x c e),hd⟩
 refine ⟨I.ok,I.os,hg,⟨fun b o e n hb hx=>?_,fun b o e n hb hx=>?_,fun b o e n hx=>?_,fun b o e hx=>?_,fun b xs e=>tups b xs (I.base.tups b xs e),fun b o xs e=>frzs b o xs (I.base.frzs b o xs e),fun b ps e=>?_⟩,?_,fun x c e=>?_,?_,fun x c e=>?_,fun p hp=>?_,hok,I.len⟩
 ·exact keep b o (neL b o e) hb (neC b o e hx) (I.base.keep b o e n hb hx) (I.base.free b o e n hx)
 ·obtain ⟨sl,e1⟩:=I.base.slot b o e n hb hx
  obtain ⟨sl',e2⟩:=slot b _ (neL b o e) hb (neC b o e hx) e1 (I.base.free b o e n hx)
  exact ⟨sl',e2⟩
 ·obtain ⟨o',e1⟩:=I.base.there b o e hx
  exact free b o' (neC b o e hx) e1 (I.base.free b o e n hx)
 ·obtain ⟨o',e1⟩:=I.base.there b o e hx
  exact there b o' (neC b o e hx) e1
 ·obtain ⟨m1,e1⟩:=I.base.tbls b ps e
  obtain ⟨m2,e2⟩:=tbls b _ e1
  exact ⟨m1 ++ m2,by rw [e2,Array.append_assoc]⟩
 ·obtain ⟨m,hn,hl⟩:=I.loc
  refine ⟨m,ns m hn,fun i x v e1 e2 e3=>?_⟩
  obtain ⟨u,r,l⟩:=hl i x v e1 e2 e3
  refine ⟨u,r,?_⟩
  rcases l with l | ⟨k,c,e,z⟩
  ·exact .inl l
  ·exact .inr ⟨k,c,e,cellK x c e _ z⟩
 ·obtain ⟨v,z⟩:=I.cell x c e
  exact ⟨v,cellK x c e v z⟩
 ·obtain ⟨m,⟨o,_,_,ho,_⟩,_⟩:=I.loc
  exact free _ o (fun z=>(hch _ z).2.1 rfl) ho I.free
 ·obtain ⟨v,o,ho,hd⟩:=I.cell x c e
  exact free c o (fun z=>(hch c z).2.2.1 x c e rfl) ho (I.freeC x c e)
 ·obtain ⟨e,n,ne,nf,d⟩:=I.pin p hp
  have nch:p.1 ∉ ch:=fun z=>(hch p.1 z).2.2.2 p hp rfl
  exact ⟨keep p.1 p.2 ne nf nch e n,free p.1 p.2 nch e n,ne,nf,d⟩
theorem Inv.un {t':Nat} (I:Inv X pins σ H s) (u:Un X.fs [] H H' s.heap h') (hok:HOk X.prog X.w H' h'):Inv X pins σ H' { s with heap:=h',toks:=t' }:=by
 obtain ⟨m,⟨o,es,ep,ho,r⟩,_⟩:=id I.loc
 obtain ⟨sl,hL⟩:=u.any ho I.free (by simp)
 exact I.step (g':=s.gens) (d':=s.drawn) (ch:=[]) (fun _ z=>nomatch z) (fun b o _ hb _ e n=>u.keep b o e n hb (by simp)) (fun b o _ hb _ e n=>u.slot b o e n hb (by simp)) (fun b o _ e n=>u.free b o e n (by simp)) (fun b o _ e=>u.there b o e (by simp)) u.tups u.frzs u.tbls (fun m' hm=>by
  obtain ⟨o',es',ep',ho',r'⟩:=hm
  rw [ho] at ho';cases ho'
  exact ⟨_,es',ep',hL,r'⟩) hok I.bare
theorem Inv.call {g':Array GenState} {t':Nat} {d':Drawn} {ch:List Addr} (I:Inv X pins σ H s) (u:Un (frs X.stack) ch H H' s.heap h') (hok:HOk X.prog X.w H' h') (hg:AllBare g')
  (hch:∀ b ∈ ch,(b ∈ X.ex∨X.s₀.heap.objs.size≤b)∧b≠X.env.locals∧(∀ x c,X.env.cells.lookup x=some c→c≠b)∧∀ p ∈ X.pn ++ pins,p.1≠b) :
  Inv X pins σ H' { s with heap:=h',gens:=g',drawn:=d',toks:=t' }:=by
 obtain ⟨m,⟨o,es,ep,ho,r⟩,_⟩:=id I.loc
 obtain ⟨sl,hL⟩:=u.any ho I.free fun z=>(hch _ z).2.1 rfl
 exact I.step (ch:=ch) hch (fun b o hL hb hc e n=>u.keep b o e n (fun z=>(List.mem_cons.mp (I.stkSub b z)).elim hL hb) hc) (fun b o _ _ hc e n=>u.any e n hc) (fun b o hc e n=>u.free b o e n hc) (fun b o hc e=>u.there b o e hc) u.tups u.frzs u.tbls (fun m' hm=>by
  obtain ⟨o',es',ep',ho',r'⟩:=hm
  rw [ho] at ho';cases ho'
  exact ⟨_,es',ep',hL,r'⟩) hok hg
theorem Inv.turned {t':Nat} {it:Addr} (I:Inv X pins σ H s) (k:∀ b o,b≠it→s.heap.get? b=some o→h'.get? b=some o) (hn:H it=none) (hL:it≠X.env.locals)
  (h1:it ∈ X.ex∨X.s₀.heap.objs.size≤it) (h2:∀ x c,X.env.cells.lookup x=some c→c≠it) (h3:∀ p ∈ X.pn ++ pins,p.1≠it):Inv X pins σ H { s with heap:=h',toks:=t' }:=by
 have nit:∀ b u,H b=some u→b≠it:=fun b u e z=>by rw [z,hn] at e;cases e
 refine I.step (g':=s.gens) (d':=s.drawn) (ch:=[it]) (fun b hb=>?_) (fun b o _ _ hc e _=>k b o (fun z=>hc (by simp [z])) e) (fun b o _ _ hc e _=>⟨o.slots,k b o (fun z=>hc (by simp [z])) e⟩) (fun _ _ _ _ n=>n)
  (fun b o hc e=>⟨o,k b o (fun z=>hc (by simp [z])) e⟩) (fun _ _ e=>e) (fun _ _ _ e=>e) (fun b ps e=>⟨#[],by rw [e];simp⟩) (fun m hm=>?_) (fun b u e=>?_) I.bare
 ·have e:b=it:=by simpa using hb
  subst e
  exact ⟨h1,hL,h2,h3⟩
 ·obtain ⟨o,es,ep,ho,r⟩:=hm
  exact ⟨o,es,ep,k _ o (Ne.symm hL) ho,r⟩
 ·refine (I.hok b u e).stay (fun c v hc q=>k c v ?_ q) (fun _ q=>q) fun _ _ q=>q
  rcases hc with z | z
  ·rw [z];exact nit b u e
  ·exact nit c _ z
theorem Inv.tok (I:Inv X pins σ H s) (t:Nat):Inv X pins σ H { s with toks:=t }:=I.un (h':=s.heap) (t':=t) Un.refl I.hok
theorem Inv.kept {t':Nat} (I:Inv X pins σ H s) (k:∀ b u,s.heap.get? b=some u→h'.get? b=some u):Inv X pins σ H { s with heap:=h',toks:=t' }:=I.un (Un.kept k) (I.hok.kept k)
theorem Inv.laid {a:Addr} {o:HO} {t':Nat} (I:Inv X pins σ H s) (k:∀ b u,s.heap.get? b=some u→h'.get? b=some u) (hp:s.heap.objs.size≤a) (new:ObjOk X.prog X.w (upd H a o) h' a o) :
  Inv X pins σ (upd H a o) { s with heap:=h',toks:=t' }:=I.un (Un.laid k hp (I.hok.fresh hp)) (I.hok.laid k hp new)
theorem Inv.write {x e:Addr} {o:HO} {t':Nat} (I:Inv X pins σ H s) (mu:Mut (H x)) (he:e=x∨H e=some (.own x)) (k:∀ b u,b≠e→s.heap.get? b=some u→h'.get? b=some u) (heo:∃ u,h'.get? e=some u)
  (new:ObjOk X.prog X.w (upd H x o) h' x o):Inv X pins σ (upd H x o) { s with heap:=h',toks:=t' }:=I.un (Un.write mu he k heo) (I.hok.write mu he k heo new)
theorem Inv.pins_of {pins':List (Addr × Obj)} (I:Inv X pins σ H s) (h:∀ p ∈ pins',s.heap.get? p.1=some p.2∧H p.1=none∧p.1≠X.env.locals∧p.1 ∉ X.fs∧∀ v,p.2.data≠.cell v):Inv X pins' σ H s :=
 ⟨I.ok,I.os,I.bare,I.base,I.loc,I.cell,I.free,I.freeC,fun p hp=>(List.mem_append.mp hp).elim (fun z=>I.pin p (List.mem_append_left _ z)) (h p),I.hok,I.len⟩
theorem nodup_ix {N:List Str} (hN:N.Nodup) {i j:Nat} {x:Str} (a:N[i]?=some x) (b:N[j]?=some x):i=j:=by
 obtain ⟨h1,e1⟩:=List.getElem?_eq_some_iff.mp a
 obtain ⟨h2,e2⟩:=List.getElem?_eq_some_iff.mp b
 exact (List.getElem_inj hN).mp (e1.trans e2.symm)
theorem store_ok2 {M:Model} {A:Around} {E:Value→Shared→Prop} {i:Nat} {x:Str} {v:V} {u:Value} {Q:Unit→Shared→Prop} (I:Inv X pins σ H s) (hN:X.N.Nodup) (hi:X.N[i]?=some x) (hx:Loc X.env.scope x) (r:RelV v u)
  (h:∀ s',Inv X pins (σ.set i (some v)) H s'→(∃ a,Heap.SameBut a s.heap s'.heap∧(a=X.env.locals∨X.env.cells.lookup x=some a))→Q () s') (hf:X.fn x=true∨X.env.scope.names.lookup x=some .local:=by first | exact .inl rfl | exact .inr rfl | assumption):wpAny M A (storeName X.env x u) Q E s:=by
 obtain ⟨m,hn,hl⟩:=id I.loc
 have hcls:(X.env.scope.kind == .class || (X.env.scope.kind == .module && X.env.locals != X.env.globals))=false:=by rw [I.ok.kind];rfl
 have hiσ:i < σ.length:=by rw [I.len];exact (List.getElem?_eq_some_iff.mp hi).1
 have cne:=I.cne
 have tracked:∀ {a:Addr} {h':Heap},(∃ o,s.heap.get? a=some o∧H a=none)→Heap.SameBut a s.heap h'→HOk X.prog X.w H h':=fun {a h'} ha hs b ob e=>by
  obtain ⟨_,_,hfree⟩:=ha
  refine (I.hok b ob e).stay (fun c w' hc q=>(hs.2 c ?_).trans q) (fun _ q=>q) fun _ _ q=>q
  rintro rfl
  rcases hc with rfl | hc
  ·rw [hfree] at e;cases e
  ·rw [hfree] at hc;cases hc
 rcases hx with hk | hk
 ·refine wpAny_storeName_local hk hn (fun h' hn' hs=>?_) hcls
  obtain ⟨oL,_,_,hoL,_⟩:=id hn
  refine h _ ⟨I.ok,I.os,I.bare,⟨fun b o e n hb hx=>?_,fun b o e n hb hx=>?_,I.base.free,fun b o e hx=>?_,I.base.tups,I.base.frzs,I.base.tbls⟩,⟨_,hn',fun j y v' e1 e2 e3=>?_⟩,fun y c e=>?_,I.free,I.freeC,fun p hp=>?_,tracked ⟨oL,hoL,I.free⟩ hs,by simpa using I.len⟩ ⟨_,hs,.inl rfl⟩
  ·exact (hs.2 b (Nat.ne_of_lt (Nat.lt_of_lt_of_le (Heap.lt_size e) I.ok.above))).trans (I.base.keep b o e n hb hx)
  ·obtain ⟨sl,e1⟩:=I.base.slot b o e n hb hx
   exact ⟨sl,(hs.2 b (Nat.ne_of_lt (Nat.lt_of_lt_of_le (Heap.lt_size e) I.ok.above))).trans e1⟩
  ·obtain ⟨o',e1⟩:=I.base.there b o e hx
   exact ⟨o',(hs.2 b (Nat.ne_of_lt (Nat.lt_of_lt_of_le (Heap.lt_size e) I.ok.above))).trans e1⟩
  ·by_cases hj:j=i
   ·subst hj
    rw [hi] at e1;cases e1
    rw [List.getElem?_set_self hiσ] at e2
    cases e2
    exact ⟨u,r,.inl ⟨hk,by simp⟩⟩
   ·rw [List.getElem?_set_ne (Ne.symm hj)] at e2
    obtain ⟨u',r',q⟩:=hl j y v' e1 e2 e3
    refine ⟨u',r',?_⟩
    rcases q with ⟨k,e⟩ | ⟨k,c,e,z⟩
    ·refine .inl ⟨k,?_⟩
     have:y≠x:=fun e=>hj (nodup_ix hN e1 (e ▸ hi))
     simp [this,e]
    ·exact .inr ⟨k,c,e,z.sameBut hs (cne y c e)⟩
  ·obtain ⟨w',z⟩:=I.cell y c e
   exact ⟨w',z.sameBut hs (cne y c e)⟩
  ·obtain ⟨e,n,ne,nf,d⟩:=I.pin p hp
   exact ⟨(hs.2 p.1 ne).trans e,n,ne,nf,d⟩
 ·have hfn:X.fn x=true:=by
   rcases hf with z | z
   ·exact z
   ·rw [z] at hk;cases hk
  obtain ⟨c,hc⟩:=I.ok.has x (.inl hk)
  obtain ⟨w',z⟩:=I.cell x c hc
  refine wpAny_storeName_cell I.ok.kind hk hc z (fun h' hc' hs=>?_)
  obtain ⟨oc,hoc,hocd⟩:=id z
  refine h { s with heap:=h' } ⟨I.ok,I.os,I.bare,⟨fun b o e n hb hx=>?_,fun b o e n hb hx=>?_,I.base.free,fun b o e hx=>?_,I.base.tups,I.base.frzs,I.base.tbls⟩,⟨m,hn.sameBut hs (Ne.symm (cne x c hc)),fun j y v' e1 e2 e3=>?_⟩,fun y c' e=>?_,I.free,I.freeC,fun p hp=>?_,tracked ⟨oc,hoc,I.freeC x c hc⟩ hs,by simpa using I.len⟩ ⟨c,hs,.inr hc⟩
  ·exact (hs.2 b (Nat.ne_of_lt (Nat.lt_of_lt_of_le (Heap.lt_size e) (I.ok.cab x c hfn hc)))).trans (I.base.keep b o e n hb hx)
  ·obtain ⟨sl,e1⟩:=I.base.slot b o e n hb hx
   exact ⟨sl,(hs.2 b (Nat.ne_of_lt (Nat.lt_of_lt_of_le (Heap.lt_size e) (I.ok.cab x c hfn hc)))).trans e1⟩
  ·obtain ⟨o',e1⟩:=I.base.there b o e hx
   exact ⟨o',(hs.2 b (Nat.ne_of_lt (Nat.lt_of_lt_of_le (Heap.lt_size e) (I.ok.cab x c hfn hc)))).trans e1⟩
  ·by_cases hj:j=i
   ·subst hj
    rw [hi] at e1;cases e1
    rw [List.getElem?_set_self hiσ] at e2
    cases e2
    exact ⟨u,r,.inr ⟨.inl hk,c,hc,hc'⟩⟩
   ·rw [List.getElem?_set_ne (Ne.symm hj)] at e2
    obtain ⟨u',r',q⟩:=hl j y v' e1 e2 e3
    refine ⟨u',r',?_⟩
    rcases q with q | ⟨k,c',e,z'⟩
    ·exact .inl q
    ·refine .inr ⟨k,c',e,z'.sameBut hs ?_⟩
     rintro rfl
     exact hj (nodup_ix hN e1 (I.ok.inj _ _ _ e hc ▸ hi))
  ·by_cases hcc:c'=c
   ·subst hcc;exact ⟨_,hc'⟩
   ·obtain ⟨w2,z2⟩:=I.cell y c' e
    exact ⟨w2,z2.sameBut hs hcc⟩
  ·obtain ⟨e,n,ne,nf,d⟩:=I.pin p hp
   refine ⟨(hs.2 p.1 ?_).trans e,n,ne,nf,d⟩
   intro q
   rw [q,hoc] at e
   have q':oc=p.2:=Option.some.inj e
   exact d w' (by rw [← q'];exact hocd)
theorem store_ok {M:Model} {A:Around} {E:Value→Shared→Prop} {i:Nat} {x:Str} {v:V} {u:Value} {Q:Unit→Shared→Prop} (I:Inv X pins σ H s) (hN:X.N.Nodup) (hi:X.N[i]?=some x) (hx:Loc X.env.scope x) (r:RelV v u)
  (h:∀ s',Inv X pins (σ.set i (some v)) H s'→Q () s') (hf:X.fn x=true∨X.env.scope.names.lookup x=some .local:=by first | exact .inl rfl | exact .inr rfl | assumption):wpAny M A (storeName X.env x u) Q E s :=
 store_ok2 I hN hi hx r (fun s' I' _=>h s' I') hf
theorem Inv.call' {s':Shared} {ch:List Addr} (I:Inv X pins σ H s) (ho:s'.os=s.os) (u:Un (frs X.stack) ch H H' s.heap s'.heap) (hok:HOk X.prog X.w H' s'.heap) (hg:AllBare s'.gens)
  (hch:∀ b ∈ ch,(b ∈ X.ex∨X.s₀.heap.objs.size≤b)∧b≠X.env.locals∧(∀ x c,X.env.cells.lookup x=some c→c≠b)∧∀ p ∈ X.pn ++ pins,p.1≠b):Inv X pins σ H' s':=by
 obtain ⟨h',g',d',t',o'⟩:=s'
 have e:o'=s.os:=ho
 subst e
 exact I.call (g':=g') (t':=t') (d':=d') u hok hg hch
end
abbrev XK:=Value→Option Addr→Hp→Prop
abbrev St:=List (Option V)
abbrev VK:=V→Hp→Prop
abbrev TE:=St→Hp→VK→Prop
abbrev TT:=St→Hp→(Bool→Hp→Prop)→Prop
abbrev TA:=St→Hp→(List V→Hp→Prop)→Prop
structure Ends where
 nx:St→Hp→Prop
 rt:VK
 bk:St→Hp→Prop:=fun _ _=>False
 ct:St→Hp→Prop:=fun _ _=>False
abbrev TS:=Ends→St→Hp→Prop
def EP (X:Cx) (pins:List (Addr × Obj)) (σ:St) (Q:VK) (u:Value) (s':Shared):Prop:=∃ v H',Inv X pins σ H' s'∧RelV v u∧Q v H'
def TP (X:Cx) (pins:List (Addr × Obj)) (σ:St) (Q:Bool→Hp→Prop) (b:Bool) (s':Shared):Prop:=∃ H',Inv X pins σ H' s'∧Q b H'
def AP (X:Cx) (pins:List (Addr × Obj)) (σ:St) (Q:List V→Hp→Prop) (us:List Value) (s':Shared):Prop:=∃ vs H',Inv X pins σ H' s'∧Vals vs us∧Q vs H'
def SP (X:Cx) (pins:List (Addr × Obj)) (D:Ends) (f:Flow) (s':Shared):Prop :=
 match f with
 | .next=>∃ σ' H',Inv X pins σ' H' s'∧D.nx σ' H'
 | .brk=>∃ σ' H',Inv X pins σ' H' s'∧D.bk σ' H'
 | .cont=>∃ σ' H',Inv X pins σ' H' s'∧D.ct σ' H'
 | .ret u=>∃ v σ' H',Inv X pins σ' H' s'∧RelV v u∧D.rt v H'
def PE (X:Cx) (e:Expr) (t:TE):Prop :=
 ∀ (pins:List (Addr × Obj)) (s:Shared) (σ:St) (H:Hp) (Q:VK),Inv X pins σ H s→t σ H Q→wpAny (model X.prog X.w) X.A (eval e X.env) (EP X pins σ Q) X.xe s
def PT (X:Cx) (e:Expr) (t:TT):Prop :=
 ∀ (pins:List (Addr × Obj)) (s:Shared) (σ:St) (H:Hp) (Q:Bool→Hp→Prop),Inv X pins σ H s→t σ H Q→wpAny (model X.prog X.w) X.A (isTrue e X.env (eval e X.env)) (TP X pins σ Q) X.xe s
def PW (X:Cx) (e:Expr) (t:TT):Prop :=
 ∀ (whole:Sem Value) (pins:List (Addr × Obj)) (s:Shared) (σ:St) (H:Hp) (Q:Bool→Hp→Prop),Inv X pins σ H s→t σ H Q→wpAny (model X.prog X.w) X.A (isTrue e X.env whole) (TP X pins σ Q) X.xe s
theorem PW.pt {X:Cx} {e:Expr} {t:TT} (h:PW X e t):PT X e t:=h _
def PA (X:Cx) (es:List Expr) (t:TA):Prop :=
 ∀ (pos:Pos) (pins:List (Addr × Obj)) (s:Shared) (σ:St) (H:Hp) (Q:List V→Hp→Prop),Inv X pins σ H s→t σ H Q→wpAny (model X.prog X.w) X.A (spliced (backTo pos (starEach es X.env))) (AP X pins σ Q) X.xe s
def PS (X:Cx) (st:Stmt) (t:TS):Prop :=
 ∀ (pins:List (Addr × Obj)) (s:Shared) (σ:St) (H:Hp) (D:Ends),Inv X pins σ H s→t D σ H→wpAny (model X.prog X.w) X.A (exec st X.env) (SP X pins D) X.xe s
def PSs (X:Cx) (st:List Stmt) (t:TS):Prop :=
 ∀ (pins:List (Addr × Obj)) (s:Shared) (σ:St) (H:Hp) (D:Ends),Inv X pins σ H s→t D σ H→wpAny (model X.prog X.w) X.A (execs st X.env) (SP X pins D) X.xe s
theorem thn {α:Type} {t:Sem α} {Q Q':α→Shared→Prop} {M:Model} {A:Around} {E:Value→Shared→Prop} {s:Shared} (h:wpAny M A t Q E s) (hQ:∀ a s,Q a s→Q' a s):wpAny M A t Q' E s:=wpAny_mono h hQ fun _ _ x=>x
end L2
namespace L2
open PySem PySem.Spec PyProof.Rows
section
variable {X:Cx}
def tVar (i:Nat):TE:=fun σ H Q=>∃ v,σ[i]?=some (some v)∧Q v H
def tC (v:V):TE:=fun _ H Q=>Q v H
theorem pe_var {i:Nat} {x:Str} {pos:Pos} (hN:X.N[i]?=some x) (hv:Vis X.env.scope x) (hd:(x == ("__debug__":Str))=false:=by decide) (hcd:(x == ("__classdict__":Str))=false:=by decide):PE X (.Name x pos) (tVar i):=by
 intro pins s σ H Q I h
 obtain ⟨v,e,h⟩:=h
 obtain ⟨m,hn,hl⟩:=I.loc
 obtain ⟨u,r,l⟩:=hl i x v hN e hv
 have fin:EP X pins σ Q u s:=⟨v,H,I,r,h⟩
 rcases l with ⟨hk,hm⟩ | ⟨hk,c,hc,hcell⟩
 ·exact wpAny_Name (wpAny_loadName_local I.ok.kind hk hn hm fin) hd
 ·rcases hk with hk | hk
  ·exact wpAny_Name (wpAny_loadName_cell I.ok.kind hk hc hcell fin) hd
  ·exact wpAny_Name (wpAny_loadName_free I.ok.kind hk hc hcell fin hcd) hd
theorem pe_int {i j pos}:PE X (.Constant (.int i) j pos) (tC (.int i)):=fun _ _ _ H _ I h=>wpAny_Constant_int ⟨.int i,H,I.tok _,⟨_,rfl⟩,h⟩
theorem pe_bl {b j pos}:PE X (.Constant (.bool b) j pos) (tC (.bl b)):=fun _ _ _ H _ I h=>Constant_bool ⟨.bl b,H,I,rfl,h⟩
theorem pe_non {j pos}:PE X (.Constant .none j pos) (tC .non):=fun _ _ _ H _ I h=>Constant_none ⟨.non,H,I,rfl,h⟩
theorem pe_str {x j pos}:PE X (.Constant (.str x) j pos) (tC (.str x)):=fun _ _ _ H _ I h=>Calls.Constant_str ⟨.str x,H,I.tok _,⟨_,rfl⟩,h⟩
def Gl (X:Cx) (x:Str):Prop:=X.env.kindOf x=some .globalImplicit
theorem ld_glob {E:Value→Shared→Prop} {pins:List (Addr × Obj)} {s:Shared} {σ:St} {H:Hp} {x:Str} {u:Value} {pos:Pos} {Q:Value→Shared→Prop} (I:Inv X pins σ H s) (hg:Gl X x) (hm:X.mg x=some u) (h:Q u s)
  (hd:(x == ("__debug__":Str))=false:=by decide):wpAny (model X.prog X.w) X.A (eval (.Name x pos) X.env) Q E s :=
 Calls.Name_function_global I.ok.kind hg (Calls.loadGlobal_global (by rw [I.ok.glob];exact I.mod.glob.keeps I.bk) hm h) hd
theorem ld_blt {E:Value→Shared→Prop} {pins:List (Addr × Obj)} {s:Shared} {σ:St} {H:Hp} {x:Str} {u:Value} {pos:Pos} {Q:Value→Shared→Prop} (I:Inv X pins σ H s) (hg:Gl X x) (hm:X.mg x=none) (hv:bootBuiltins x=some u) (h:Q u s)
  (hn:x≠"__name__":=by decide) (hd:(x == ("__debug__":Str))=false:=by decide):wpAny (model X.prog X.w) X.A (eval (.Name x pos) X.env) Q E s:=by
 obtain ⟨mb,h1,h2⟩:=I.mod.blt
 exact Calls.Name_function_global I.ok.kind hg (Calls.loadGlobal_builtin (by rw [I.ok.glob];exact I.mod.glob.keeps I.bk) hm (by rw [I.ok.blt];exact h1.keeps I.bk) ((h2 x hn).trans hv) h) hd
theorem pe_glob {x:Str} {v:V} {u:Value} {pos:Pos} (hg:Gl X x) (hm:X.mg x=some u) (r:RelV v u) (hd:(x == ("__debug__":Str))=false:=by decide):PE X (.Name x pos) (tC v) :=
 fun _ _ _ H _ I h=>ld_glob I hg hm ⟨v,H,I,r,h⟩ hd
variable {a b:Expr} {ta tb:TE} {pos:Pos}
def PC (X:Cx) (op:CmpOp) (a b:Expr) (t:TE):Prop :=
 ∀ (pins:List (Addr × Obj)) (s:Shared) (σ:St) (H:Hp) (Q:VK),Inv X pins σ H s→t σ H Q →
  wpAny (model X.prog X.w) X.A (eval a X.env) (fun v s₁=>wpAny (model X.prog X.w) X.A (eval b X.env) (fun u s₂=>wpAny (model X.prog X.w) X.A (compareOp op v u) (EP X pins σ Q) X.xe s₂) X.xe s₁) X.xe s
def tB (t:TE):TT:=fun σ H Q=>t σ H fun x H1=>∃ c,x=.bl c∧Q c H1
theorem pe_cmp {op:CmpOp} {t:TE} (h:PC X op a b t) (h1:behindInMarks op b=false:=by first | exact nobehind _ (by decide) (by decide) | rfl):PE X (.Compare a [op] [b] pos) t:=fun pins s σ H Q I hw=>wpAny_Compare1 (h pins s σ H Q I hw) h1
theorem pt_cmp {op:CmpOp} {t:TE} (h:PC X op a b t) (h1:behindInMarks op b=false:=by first | exact nobehind _ (by decide) (by decide) | rfl):PT X (.Compare a [op] [b] pos) (tB t):=by
 intro pins s σ H Q I hw
 refine wpAny_isTrue_Compare1 (thn (h pins s σ H _ I hw) fun v s1 h1=>thn h1 fun u s2 h2=>thn h2 fun c s3 ⟨x,H1,I1,r1,q1⟩=>?_) h1
 obtain ⟨d,rfl,q⟩:=q1
 cases r1
 exact wpAny_truthy_bool ⟨H1,I1,q⟩
theorem pt_val {e:Expr} {t:TE} (h:PE X e t) (he:∀ whole,isTrue e X.env whole=(do let v ← whole;standAt e.pos;holding [v] (truthy v)):=by intro _;rfl):PT X e (tB t):=by
 intro pins s σ H Q I hw
 refine isTrue_plain (thn (h pins s σ H _ I hw) fun v s1 ⟨x,H1,I1,r1,q1⟩=>?_) (he _)
 obtain ⟨d,rfl,q⟩:=q1
 cases r1
 exact wpAny_truthy_bool ⟨H1,I1,q⟩
variable {tA tB':TT} {rest:List Expr}
def tAnd (t u:TT):TT:=fun σ H Q=>t σ H fun c H1=>if c=true then u σ H1 Q else Q false H1
def tOr (t u:TT):TT:=fun σ H Q=>t σ H fun c H1=>if c=true then Q true H1 else u σ H1 Q
def tNot (t:TT):TT:=fun σ H Q=>t σ H fun c H1=>Q (!c) H1
theorem pw_and1 (ha:PT X a tA):PW X (.BoolOp .And [a] pos) tA:=by
 intro wh pins s σ H Q I h
 refine isTrue_and (thn (ha pins s σ H Q I h) fun c s1 e=>?_)
 cases c with
 | true=>exact isTrue_and_nil e
 | false=>exact e
theorem pw_or1 (ha:PT X a tA):PW X (.BoolOp .Or [a] pos) tA:=by
 intro wh pins s σ H Q I h
 refine isTrue_or (thn (ha pins s σ H Q I h) fun c s1 e=>?_)
 cases c with
 | false=>exact isTrue_or_nil e
 | true=>exact e
theorem pw_and (ha:PT X a tA) (hb:PW X (.BoolOp .And (b :: rest) pos) tB'):PW X (.BoolOp .And (a :: b :: rest) pos) (tAnd tA tB'):=by
 intro wh pins s σ H Q I h
 refine isTrue_and (thn (ha pins s σ H _ I h) fun c s1 ⟨H1,I1,q1⟩=>?_)
 cases c with
 | true=>exact hb wh pins s1 σ H1 Q I1 q1
 | false=>exact ⟨H1,I1,q1⟩
theorem pw_or (ha:PT X a tA) (hb:PW X (.BoolOp .Or (b :: rest) pos) tB'):PW X (.BoolOp .Or (a :: b :: rest) pos) (tOr tA tB'):=by
 intro wh pins s σ H Q I h
 refine isTrue_or (thn (ha pins s σ H _ I h) fun c s1 ⟨H1,I1,q1⟩=>?_)
 cases c with
 | true=>exact ⟨H1,I1,q1⟩
 | false=>exact hb wh pins s1 σ H1 Q I1 q1
theorem pt_not (ha:PT X a tA):PT X (.UnaryOp .Not a pos) (tNot tA):=by
 intro pins s σ H Q I h
 exact isTrue_not (ha pins s σ H (fun c H1=>Q (!c) H1) I h)
def tAndV (ta tb:TE):TE:=fun σ H Q=>ta σ H fun x H1=>∃ c,x=.bl c∧if c=true then tb σ H1 Q else Q (.bl false) H1
def tOrV (ta tb:TE):TE:=fun σ H Q=>ta σ H fun x H1=>∃ c,x=.bl c∧if c=true then Q (.bl true) H1 else tb σ H1 Q
theorem pe_one {op} {t:TE} (h:PE X a t):PE X (.BoolOp op [a] pos) t:=fun pins s σ H Q I hw=>BoolOp_one (h pins s σ H Q I hw)
theorem pe_and (ha:PE X a ta) (hb:PE X (.BoolOp .And (b :: rest) pos) tb):PE X (.BoolOp .And (a :: b :: rest) pos) (tAndV ta tb):=by
 intro pins s σ H Q I h
 refine BoolOp_and (thn (ha pins s σ H _ I h) fun v s1 ⟨x,H1,I1,r1,q1⟩=>?_)
 obtain ⟨c,rfl,q1⟩:=q1
 cases r1
 refine wpAny_truthy_bool ?_
 cases c with
 | true=>exact hb pins s1 σ H1 Q I1 q1
 | false=>exact ⟨.bl false,H1,I1,rfl,q1⟩
theorem pe_or (ha:PE X a ta) (hb:PE X (.BoolOp .Or (b :: rest) pos) tb):PE X (.BoolOp .Or (a :: b :: rest) pos) (tOrV ta tb):=by
 intro pins s σ H Q I h
 refine BoolOp_or (thn (ha pins s σ H _ I h) fun v s1 ⟨x,H1,I1,r1,q1⟩=>?_)
 obtain ⟨c,rfl,q1⟩:=q1
 cases r1
 refine wpAny_truthy_bool ?_
 cases c with
 | false=>exact hb pins s1 σ H1 Q I1 q1
 | true=>exact ⟨.bl true,H1,I1,rfl,q1⟩
end
end L2
namespace L2
open PySem PySem.Spec PyProof.Rows
def SqL (K:PySem.W.Frag) (H:Hp) (a:Addr) (xs:List V):Prop :=
 Rd H a (.lst xs) ∨
  ∃ (o:Obj) (its:Array Value) (n:Nat),K.lookup a=some o∧o.cls=.type "list"∧o.dict=none∧o.data=.seq its n∧its.size≤sizeLine∧Vals xs its.toList
def SqT (K:PySem.W.Frag) (H:Hp) (a:Addr) (xs:List V):Prop :=
 Rd H a (.tup xs) ∨
  ∃ (o:Obj) (its:Array Value) (n:Nat),K.lookup a=some o∧o.cls=.type "tuple"∧o.data=.seq its n∧its.size≤sizeLine∧Vals xs its.toList
def absV:Value→Option V
 | .none=>some .non
 | .bool b=>some (.bl b)
 | .int i _=>some (.int i)
 | .str x _=>some (.str x)
 | .bytes b _=>some (.byt b)
 | .float b _=>some (.flt b)
 | .ref a=>some (.ref a)
 | .type n=>some (.ty n)
 | _=>none
theorem RelV.abs {x:V} {u:Value} (r:RelV x u):absV u=some x:=by
 cases x with
 | non=>cases r;rfl
 | bl _=>cases r;rfl
 | int _=>obtain ⟨t,rfl⟩:=r;rfl
 | str _=>obtain ⟨t,rfl⟩:=r;rfl
 | byt _=>obtain ⟨t,rfl⟩:=r;rfl
 | flt _=>obtain ⟨t,rfl⟩:=r;rfl
 | ref _=>cases r;rfl
 | ty _=>cases r;rfl
theorem RelV.inj {x y:V} {u:Value} (r:RelV x u) (q:RelV y u):x=y:=Option.some.inj (r.abs.symm.trans q.abs)
theorem Vals.inj:∀ {xs ys:List V} {us:List Value},Vals xs us→Vals ys us→xs=ys
 | _,_,_,.nil,.nil=>rfl
 | _,_,_,.cons r t,.cons r' t'=>by rw [r.inj r',Vals.inj t t']
section
variable {X:Cx} {pins:List (Addr × Obj)} {σ:St} {H:Hp} {s:Shared} {a:Addr} {xs ys:List V}
theorem SqL.of {K:PySem.W.Frag} (h:H a=some (.lst xs)):SqL K H a xs:=.inl (.inl h)
theorem SqT.of {K:PySem.W.Frag} (h:H a=some (.tup xs)):SqT K H a xs:=.inl (.inl h)
theorem Inv.list (I:Inv X pins σ H s) (h:SqL X.K H a xs):∃ its:List Value,Vals xs its∧PlainL s.heap a its.toArray∧xs.length≤sizeLine:=by
 rcases h with h | ⟨o,its,n,hk,hc,hd,hs,hz,r⟩
 ·obtain ⟨z,its,n,r,e⟩:=h.ok I.hok
  exact ⟨its,r,⟨_,n,e,rfl,rfl,rfl⟩,z⟩
 ·refine ⟨its.toList,r,⟨o,n,I.kIn a o hk,hc,hd,by simpa using hs⟩,?_⟩
  have e:=r.length
  simp only [Array.length_toList] at e
  omega
theorem Inv.tuple (I:Inv X pins σ H s) (h:SqT X.K H a xs):∃ its:List Value,Vals xs its∧IsTup s.heap a its.toArray∧xs.length≤sizeLine:=by
 rcases h with h | ⟨o,its,n,hk,hc,hs,hz,r⟩
 ·obtain ⟨z,its,r,p⟩:=h.ok I.hok
  exact ⟨its,r,p,z⟩
 ·refine ⟨its.toList,r,⟨o,I.kIn a o hk,hc,n,by simpa using hs⟩,?_⟩
  have e:=r.length
  simp only [Array.length_toList] at e
  omega
theorem Inv.list_inj (I:Inv X pins σ H s) (h:SqL X.K H a xs) (h':SqL X.K H a ys):xs=ys:=by
 obtain ⟨its,r,⟨o,n,e,_,_,d⟩,_⟩:=I.list h
 obtain ⟨its',r',⟨o',n',e',_,_,d'⟩,_⟩:=I.list h'
 rw [e] at e';cases e'
 rw [d] at d'
 injection d' with d1 _
 have:its=its':=by simpa using congrArg Array.toList d1
 subst this
 exact r.inj r'
theorem Inv.tuple_inj (I:Inv X pins σ H s) (h:SqT X.K H a xs) (h':SqT X.K H a ys):xs=ys:=by
 obtain ⟨its,r,⟨o,e,_,n,d⟩,_⟩:=I.tuple h
 obtain ⟨its',r',⟨o',e',_,n',d'⟩,_⟩:=I.tuple h'
 rw [e] at e';cases e'
 rw [d] at d'
 injection d' with d1 _
 have:its=its':=by simpa using congrArg Array.toList d1
 subst this
 exact r.inj r'
end
abbrev Cx.wish (X:Cx) (E:Value→Shared→Prop):Cx:={ X with xe:=E }
abbrev Cx.nox (X:Cx):Cx:=X.wish fun _ _=>False
theorem Cx.Ok.wish {X:Cx} (ok:X.Ok) (E:Value→Shared→Prop):(X.wish E).Ok :=
 ⟨ok.mod,ok.kind,ok.glob,ok.blt,ok.above,ok.inj,ok.has,ok.cab,ok.hd,ok.frames,ok.stk,ok.exf,ok.bs,ok.bsz,ok.noex,ok.exfs,ok.funs,ok.frf⟩
theorem Cx.Ok.unwish {X:Cx} {E:Value→Shared→Prop} (ok:(X.wish E).Ok):X.Ok :=
 ⟨ok.mod,ok.kind,ok.glob,ok.blt,ok.above,ok.inj,ok.has,ok.cab,ok.hd,ok.frames,ok.stk,ok.exf,ok.bs,ok.bsz,ok.noex,ok.exfs,ok.funs,ok.frf⟩
section
variable {X:Cx} {pins:List (Addr × Obj)} {σ:St} {H:Hp} {s:Shared} {E:Value→Shared→Prop}
theorem Inv.wish (I:Inv X pins σ H s) (E:Value→Shared→Prop):Inv (X.wish E) pins σ H s:=⟨I.ok.wish E,I.os,I.bare,I.base,I.loc,I.cell,I.free,I.freeC,I.pin,I.hok,I.len⟩
theorem Inv.unwish (I:Inv (X.wish E) pins σ H s):Inv X pins σ H s:=⟨I.ok.unwish,I.os,I.bare,I.base,I.loc,I.cell,I.free,I.freeC,I.pin,I.hok,I.len⟩
theorem SP.unwish {D:Ends} {f:Flow} {s':Shared} (h:SP (X.wish E) pins D f s'):SP X pins D f s':=by
 cases f with
 | next=>obtain ⟨σ',H',I,q⟩:=h;exact ⟨σ',H',I.unwish,q⟩
 | brk=>obtain ⟨σ',H',I,q⟩:=h;exact ⟨σ',H',I.unwish,q⟩
 | cont=>obtain ⟨σ',H',I,q⟩:=h;exact ⟨σ',H',I.unwish,q⟩
 | ret u=>obtain ⟨v,σ',H',I,r,q⟩:=h;exact ⟨v,σ',H',I.unwish,r,q⟩
end
section
variable {X:Cx} {st:Stmt} {rest:List Stmt} {t u:TS} {e:Expr} {te:TE} {pos:Pos}
def tNext:TS:=fun D σ H=>D.nx σ H
def tSeq (t u:TS):TS:=fun D σ H=>t { D with nx:=u D } σ H
theorem pss_nil:PSs X [] tNext:=fun _ _ σ H _ I h=>wpAny_execs_nil ⟨σ,H,I,h⟩
theorem pss_cons (h1:PS X st t) (h2:PSs X rest u):PSs X (st :: rest) (tSeq t u):=by
 intro pins s σ H D I h
 refine wpAny_execs_cons (thn (h1 pins s σ H { D with nx:=u D } I h) fun f s1 q=>?_)
 cases f with
 | next =>
  obtain ⟨σ',H',I',q⟩:=q
  exact h2 pins s1 σ' H' D I' q
 | ret v=>exact q
 | brk=>exact q
 | cont=>exact q
theorem pss_one (h1:PS X st t):PSs X [st] t:=by
 intro pins s σ H D I h
 refine wpAny_execs_cons (thn (h1 pins s σ H D I h) fun f s1 q=>?_)
 cases f with
 | next=>exact wpAny_execs_nil q
 | ret v=>exact q
 | brk=>exact q
 | cont=>exact q
theorem Inv.quiet {pins:List (Addr × Obj)} {σ:St} {H:Hp} {s:Shared} (I:Inv X pins σ H s):interactive X.env=false:=by simp [interactive,I.ok.kind]
def tDrop (te:TE):TS:=fun D σ H=>te σ H fun _ H1=>D.nx σ H1
theorem ps_expr (he:PE X e te) (hs:swapsWith e none pos.line X.env=pure false:=by rfl):PS X (.Expr e pos) (tDrop te):=by
 intro pins s σ H D I h
 exact wpAny_Expr_any (thn (he pins s σ H _ I h) fun v s1 ⟨x,H1,I1,r1,q1⟩=>⟨σ,H1,I1,q1⟩) I.quiet hs
def tRet (te:TE):TS:=fun D σ H=>te σ H D.rt
theorem ps_ret (he:PE X e te):PS X (.Return (some e) pos) (tRet te):=by
 intro pins s σ H D I h
 exact wpAny_Return_some (thn (he pins s σ H _ I h) fun v s1 ⟨x,H1,I1,r1,q1⟩=>⟨x,σ,H1,I1,r1,q1⟩)
def tIfS (c:TT) (t u:TS):TS:=fun D σ H=>c σ H fun b H1=>if b=true then t D σ H1 else u D σ H1
theorem ps_if {c:Expr} {a b:List Stmt} {tc:TT} (hc:PT X c tc) (ha:PSs X a t) (hb:PSs X b u):PS X (.If c a b pos) (tIfS tc t u):=by
 intro pins s σ H D I h
 refine wpAny_If (thn (hc pins s σ H _ I h) fun d s1 ⟨H1,I1,q1⟩=>?_)
 cases d with
 | true=>exact ha pins s1 σ H1 D I1 q1
 | false=>exact hb pins s1 σ H1 D I1 q1
end
abbrev TG:=V→St→Hp→(St→Hp→Prop)→Prop
abbrev TGs:=List V→St→Hp→(St→Hp→Prop)→Prop
def PG (X:Cx) (target:Expr) (t:TG):Prop :=
 ∀ (pins:List (Addr × Obj)) (s:Shared) (σ:St) (H:Hp) (v:V) (u:Value) (Q:St→Hp→Prop),Inv X pins σ H s→RelV v u→t v σ H Q →
  wpAny (model X.prog X.w) X.A (assign target X.env u) (fun _ s'=>∃ σ' H',Inv X pins σ' H' s'∧Q σ' H') X.xe s
def PGs (X:Cx) (ts:List Expr) (t:TGs):Prop :=
 ∀ (pins:List (Addr × Obj)) (s:Shared) (σ:St) (H:Hp) (vs:List V) (us:List Value) (Q:St→Hp→Prop),Inv X pins σ H s→Vals vs us→t vs σ H Q →
  wpAny (model X.prog X.w) X.A (assignInOrder ((assignEach ts X.env).map (·.2)) us) (fun _ s'=>∃ σ' H',Inv X pins σ' H' s'∧Q σ' H') X.xe s
abbrev TIp:=V→V→Hp→VK→Prop
def PIp (X:Cx) (op:Operator) (t:TIp):Prop :=
 ∀ (pins:List (Addr × Obj)) (s:Shared) (σ:St) (H:Hp) (x y:V) (v u:Value) (Q:VK),Inv X pins σ H s→RelV x v→RelV y u→t x y H Q →
  wpAny (model X.prog X.w) X.A (inplaceOp op v u) (EP X pins σ Q) X.xe s
section
variable {X:Cx} {pos:Pos}
def gName (i:Nat):TG:=fun v σ H Q=>Q (σ.set i (some v)) H
theorem pg_name {i:Nat} {x:Str} (hN:X.N.Nodup) (hi:X.N[i]?=some x) (hx:Loc X.env.scope x) (hf:X.fn x=true∨X.env.scope.names.lookup x=some .local:=by first | exact .inl rfl | exact .inr rfl | assumption):PG X (.Name x pos) (gName i):=by
 intro pins s σ H v u Q I r h
 exact wpAny_assign_Name (store_ok I hN hi hx r (fun s' I'=>⟨_,H,I',h⟩) hf)
def gNil:TGs:=fun vs σ H Q=>vs=[]∧Q σ H
def gCons (t:TG) (u:TGs):TGs:=fun vs σ H Q=>∃ v r,vs=v :: r∧t v σ H fun σ' H'=>u r σ' H' Q
theorem pgs_nil:PGs X [] gNil:=by
 intro pins s σ H vs us Q I r h
 obtain ⟨e,h⟩:=h
 subst e
 cases r
 exact assignInOrder_nil ⟨σ,H,I,h⟩
theorem pgs_cons {e:Expr} {es:List Expr} {t:TG} {u:TGs} (h1:PG X e t) (h2:PGs X es u)
  (hs:(assignEach (e :: es) X.env).map (·.2)=assign e X.env :: (assignEach es X.env).map (·.2):=by rfl):PGs X (e :: es) (gCons t u):=by
 intro pins s σ H vs us Q I r h
 obtain ⟨v,vr,e1,h⟩:=h
 subst e1
 cases r with
 | cons r rr =>
  rw [hs]
  refine assignInOrder_cons (thn (h1 pins s σ H _ _ _ I r h) fun _ s1 ⟨σ1,H1,I1,q1⟩=>?_)
  exact h2 pins s1 σ1 H1 _ _ Q I1 rr q1
def gTup (K:PySem.W.Frag) (n:Nat) (t:TGs):TG:=fun v σ H Q=>∃ a xs,v=.ref a∧SqT K H a xs∧xs.length=n∧t xs σ H Q
theorem pg_tup {es:List Expr} {k:Nat} {t:TGs} {n:Nat} (hc:X.calm=true) (h:PGs X es t)
  (hn:(assignEach es X.env).length=n:=by rfl) (hst:(assignEach es X.env).findIdx? (·.1)=none:=by rfl):PG X (.Tuple es k pos) (gTup X.K n t):=by
 intro pins s σ H v u Q I r hw
 obtain ⟨a,xs,e1,hq,hl,hw⟩:=hw
 subst e1
 cases r
 obtain ⟨its,rv,ht,hz⟩:=I.tuple hq
 refine assign_Tuple_tuple (I.ok.hd hc) ht (by simp [hn,← hl,rv.length]) hst fun h' hx=>?_
 have I1:Inv X pins σ H { s with heap:=h' }:=I.kept (t':=s.toks) fun b o e=>hx b o (Nat.ne_of_lt (Heap.lt_size e)) e
 exact h pins _ σ H xs _ Q I1 (by simpa using rv) hw
def tAsg (te:TE) (g:TG):TS:=fun D σ H=>te σ H fun x H1=>g x σ H1 D.nx
theorem ps_asg {tg e:Expr} {te:TE} {g:TG} (he:PE X e te) (hg:PG X tg g) (hs:swapsWithSole [tg] e pos.line X.env=pure false:=by rfl) (hw:swappedStores [tg] e X.env=pure none:=by rfl)
  (h1:(assignEach [tg] X.env).map (·.2)=[assign tg X.env]:=by rfl):PS X (.Assign [tg] e pos) (tAsg te g):=by
 intro pins s σ H D I h
 refine wpAny_Assign_stores (thn (he pins s σ H _ I h) fun v s1 ⟨x,H1,I1,r1,q1⟩=>?_) hs hw
 rw [h1]
 exact thn (hg pins s1 σ H1 x v _ I1 r1 q1) fun _ s2 q=>q
theorem ps_set {i:Nat} {x:Str} {e:Expr} {te:TE} {pos':Pos} (hN:X.N.Nodup) (hi:X.N[i]?=some x) (hx:Loc X.env.scope x) (he:PE X e te) (hs:swapsWith e (some (.Name x pos')) pos.line X.env=pure false:=by rfl) (hf:X.fn x=true∨X.env.scope.names.lookup x=some .local:=by first | exact .inl rfl | exact .inr rfl | assumption) :
  PS X (.Assign [.Name x pos'] e pos) (tAsg te (gName i)):=by
 intro pins s σ H D I h
 refine wpAny_Assign_Name (thn (he pins s σ H _ I h) fun v s1 ⟨y,H1,I1,r1,q1⟩=>?_) hs
 exact store_ok I1 hN hi hx r1 (fun s2 I2=>⟨_,H1,I2,q1⟩) hf
def tAug (i:Nat) (te:TE) (ti:TIp):TS:=fun D σ H=>∃ x,σ[i]?=some (some x)∧te σ H fun y H1=>ti x y H1 fun z H2=>D.nx (σ.set i (some z)) H2
theorem ps_aug {i:Nat} {x:Str} {e:Expr} {te:TE} {op:Operator} {ti:TIp} {pos':Pos} (hN:X.N.Nodup) (hi:X.N[i]?=some x) (hx:Loc X.env.scope x) (he:PE X e te) (ho:PIp X op ti) (hf:X.fn x=true∨X.env.scope.names.lookup x=some .local:=by first | exact .inl rfl | exact .inr rfl | assumption) :
  PS X (.AugAssign (.Name x pos') op e pos) (tAug i te ti):=by
 intro pins s σ H D I h
 obtain ⟨v,e1,h⟩:=h
 obtain ⟨m,hn,hl⟩:=I.loc
 have vis:Vis X.env.scope x:=by rcases hx with k | k;exact .inl k;exact .inr (.inl k)
 obtain ⟨u,r,l⟩:=hl i x v hi e1 vis
 refine wpAny_AugAssign_Name ?_
 have go:wpAny (model X.prog X.w) X.A (eval e X.env) (fun w s₂=>wpAny (model X.prog X.w) X.A (inplaceOp op u w) (fun r s₃=>wpAny (model X.prog X.w) X.A (storeName X.env x r) (fun _=>SP X pins D .next) X.xe s₃) X.xe s₂) X.xe s:=by
  refine thn (he pins s σ H _ I h) fun w s1 ⟨y,H1,I1,r1,q1⟩=>?_
  refine thn (ho pins s1 σ H1 v y u w _ I1 r r1 q1) fun z s2 ⟨zv,H2,I2,r2,q2⟩=>?_
  exact store_ok I2 hN hi hx r2 (fun s3 I3=>⟨_,H2,I3,q2⟩) hf
 rcases l with ⟨hk,hm⟩ | ⟨hk,c,hc,hcell⟩
 ·exact wpAny_loadName_local I.ok.kind hk hn hm go
 ·rcases hk with hk | hk
  ·exact wpAny_loadName_cell I.ok.kind hk hc hcell go
  ·rcases hx with k | k
   ·have:X.env.scope.names.lookup x=some .free:=hk
    rw [k] at this;cases this
   ·have:X.env.scope.names.lookup x=some .free:=hk
    rw [k] at this;cases this
def ipI (f:Int→Int→Int):TIp:=fun x y H Q=>∃ i j,x=.int i∧y=.int j∧Q (.int (f i j)) H
theorem ip_add:PIp X .Add (ipI fun i j=>i+j):=by
 intro pins s σ H x y v u Q I r1 r2 h
 obtain ⟨i,j,e1,e2,q⟩:=h
 subst e1;subst e2
 obtain ⟨t,rfl⟩:=r1
 obtain ⟨t',rfl⟩:=r2
 exact iadd_int ⟨.int _,H,I.tok _,⟨_,rfl⟩,q⟩
end
section
variable {X:Cx} {pos:Pos}
def tWhile (c:TT) (tb:TS):TS:=fun D σ H=>∃ W:Nat→St→Hp→Prop,(∃ m,W m σ H)∧∀ m σ H,W m σ H →
 c σ H fun b H1=>if b=true then ∃ N:St→Hp→Prop,(∀ σ' H',N σ' H'→∃ m',m' < m∧W m' σ' H')∧tb { D with nx:=N,ct:=N,bk:=D.nx } σ H1 else D.nx σ H1
theorem ps_while {c:Expr} {body:List Stmt} {tc:TT} {tb:TS} (hp:PassesOwn (model X.prog X.w) X.A X.env X.xe) (hc:PT X c tc) (hb:PSs X body tb):PS X (.While c body [] pos) (tWhile tc tb):=by
 intro pins s σ H D I h
 obtain ⟨W,⟨m0,w0⟩,turn⟩:=h
 refine wpAny_While (codeAny_whileLoop (fun n s'=>∃ σ' H',Inv X pins σ' H' s'∧W n σ' H') ?_ m0 ⟨σ,H,I,w0⟩)
 rintro n s1 ⟨σ1,H1,I1,w1⟩
 refine wpAny_passesOwn hp (thn (hc pins s1 σ1 H1 _ I1 (turn n σ1 H1 w1)) fun b s2 ⟨H2,I2,q2⟩=>?_)
 cases b with
 | true =>
  obtain ⟨N,hN,q2⟩:=q2
  rw [if_pos rfl]
  refine wpAny_passesOwn hp (thn (hb pins s2 σ1 H2 _ I2 q2) fun f s3 q3=>?_)
  cases f with
  | next =>
   obtain ⟨σ3,H3,I3,n3⟩:=q3
   obtain ⟨m',hm,w3⟩:=hN σ3 H3 n3
   exact ⟨m',hm,σ3,H3,I3,w3⟩
  | cont =>
   obtain ⟨σ3,H3,I3,n3⟩:=q3
   obtain ⟨m',hm,w3⟩:=hN σ3 H3 n3
   exact ⟨m',hm,σ3,H3,I3,w3⟩
  | brk=>exact q3
  | ret v=>exact q3
 | false =>
  rw [if_neg Bool.false_ne_true]
  exact wpAny_execs_nil ⟨σ1,H2,I2,q2⟩
end
structure It where
 go:Nat→Hp→Prop
 yld:Nat→Hp→V→Hp→Prop
 stop:Nat→Hp→Prop
def FpOk (X:Cx) (pins:List (Addr × Obj)) (H:Hp) (b:Addr):Prop :=
 H b=none∧b≠X.env.locals∧b ∉ X.fs∧(b ∈ X.ex∨X.s₀.heap.objs.size≤b)∧(∀ x c,X.env.cells.lookup x=some c→c≠b)∧∀ p ∈ X.pn ++ pins,p.1≠b
theorem Inv.fpOk {X:Cx} {pins:List (Addr × Obj)} {σ:St} {H H':Hp} {s:Shared} {b:Addr} (I:Inv X pins σ H s) (hb:s.heap.objs.size≤b) (hn:H' b=none):FpOk X pins H' b:=by
 refine ⟨hn,Nat.ne_of_gt (Nat.lt_of_lt_of_le I.lt hb),I.nofs hb,.inr (Nat.le_trans I.sz hb),fun x c e z=>?_,fun p hp z=>?_⟩
 ·obtain ⟨v,q⟩:=I.cell x c e
  exact absurd (Nat.lt_of_lt_of_le q.lt (by rw [z];exact hb)) (Nat.lt_irrefl _)
 ·exact absurd (Nat.lt_of_lt_of_le (Heap.lt_size (I.pin p hp).1) (by rw [z];exact hb)) (Nat.lt_irrefl _)
structure Turn (P:Program) (w:World) (K:PySem.W.Frag) (tg:Expr) (J:It) (fp:List Addr) (it:Addr) (tn:Nat→Heap→Prop):Prop where
 mem:it ∈ fp
 obj:∀ i h,tn i h→∀ b ∈ fp,∃ o,h.get? b=some o∧∀ v,o.data≠.cell v
 keep:∀ i h h',tn i h→(∀ b ∈ fp,∀ o,h.get? b=some o→h'.get? b=some o)→tn i h'
 item:∀ (X:Cx),X.prog=P→X.w=w→X.K=K→X.calm=true→∀ (i:Nat) (pins:List (Addr × Obj)) (s:Shared) (σ:St) (H:Hp) (E:Value→Shared→Prop),Inv X pins σ H s→(∀ b ∈ fp,FpOk X pins H b)→tn i s.heap→J.go i H →
  wpAny (model P w) X.A (pyNext (.ref it)) (fun r s1=>∃ u,r=some u ∧
   wpAny (model P w) X.A (letOwnedTupleGo tg (.ref it) u) (fun _ s2=>∃ x H',Inv X pins σ H' s2∧RelV x u∧J.yld i H x H'∧tn (i+1) s2.heap∧∀ b ∈ fp,H' b=none) E s1) E s
 done:∀ (X:Cx),X.prog=P→X.w=w→X.K=K→X.calm=true→∀ (i:Nat) (pins:List (Addr × Obj)) (s:Shared) (σ:St) (H:Hp) (E:Value→Shared→Prop),Inv X pins σ H s→(∀ b ∈ fp,FpOk X pins H b)→tn i s.heap→J.stop i H →
  wpAny (model P w) X.A (pyNext (.ref it)) (fun r s1=>r=none∧Inv X pins σ H s1) E s
 self:∀ (A:Around) (i:Nat) (s:Shared) (Q:Value→Shared→Prop) (E:Value→Shared→Prop),tn i s.heap→Q (.ref it) s→wpAny (model P w) A (pyIter (.ref it)) Q E s
abbrev TI:=St→Hp→(It→Hp→Prop)→Prop
def PIE (X:Cx) (pins:List (Addr × Obj)) (σ:St) (tg:Expr) (R:It→Hp→Prop) (itv:Value) (s2:Shared):Prop :=
 ∃ (it:Addr) (fp:List Addr) (tn:Nat→Heap→Prop) (J:It) (H':Hp),itv=.ref it∧Inv X pins σ H' s2∧Turn X.prog X.w X.K tg J fp it tn∧tn 0 s2.heap∧(∀ b ∈ fp,FpOk X pins H' b)∧R J H'
def PI (X:Cx) (tg iter:Expr) (wi:TI):Prop :=
 ∀ (pins:List (Addr × Obj)) (s:Shared) (σ:St) (H:Hp) (R:It→Hp→Prop),Inv X pins σ H s→wi σ H R →
  wpAny (model X.prog X.w) X.A (eval iter X.env) (fun v s1=>wpAny (model X.prog X.w) X.A (pyIter v) (PIE X pins σ tg R) X.xe s1) X.xe s
theorem go_of {M:Model} {A:Around} {E:Value→Shared→Prop} {s:Shared} {tg:Expr} {it:Addr} {u:Value} {o:Obj} {n:String} {vs:Array Value} {Q:Unit→Shared→Prop} (ho:s.heap.get? it=some o) (hc:o.cls=.type n) (hd:o.data=.fields vs)
  (hn:["enumerate","zip","dict_itemiterator","dict_reverseitemiterator","odict_iterator","itertools.zip_longest","itertools.pairwise"].contains n=false) (hQ:Q () s):wpAny M A (letOwnedTupleGo tg (.ref it) u) Q E s:=by
 unfold letOwnedTupleGo
 cases tg <;> first
  | exact wpAny_pure hQ
  | (cases u <;> first
    | exact wpAny_pure hQ
    | (refine wpAny_bind (wpAny_load ho ?_)
       rw [hc,hd]
       show wpAny M A (if (["enumerate","zip","dict_itemiterator","dict_reverseitemiterator","odict_iterator","itertools.zip_longest","itertools.pairwise"].contains n && vs[0]? == some (rawInt _))=true then _ else _) Q E s
       rw [if_neg (by intro h;rw [hn,Bool.false_and] at h;cases h)]
       exact wpAny_pure hQ))
def Itl (K:PySem.W.Frag) (a:Addr):It :=
 ⟨fun i H=>∃ xs x,SqL K H a xs∧xs[i]?=some x,fun i H x H'=>H'=H∧∀ xs,SqL K H a xs→xs[i]?=some x,fun i H=>∃ xs,SqL K H a xs∧xs.length≤i⟩
def Itt (K:PySem.W.Frag) (a:Addr):It :=
 ⟨fun i H=>∃ xs x,SqT K H a xs∧xs[i]?=some x,fun i H x H'=>H'=H∧∀ xs,SqT K H a xs→xs[i]?=some x,fun i H=>∃ xs,SqT K H a xs∧xs.length≤i⟩
def Itr (lo:Int) (n:Nat):It:=⟨fun i _=>i < n,fun i H x H'=>H'=H∧x=.int (lo+i),fun i _=>n≤i⟩
theorem turn_list {P:Program} {w:World} {K:PySem.W.Frag} {tg:Expr} (a it:Addr):Turn P w K tg (Itl K a) [it] it (fun i h=>h.IsListIter it a i) where
 mem:=by simp
 obj:=fun i h st b hb=>by
  have e:b=it:=by simpa using hb
  subst e
  obtain ⟨o,e,c,d⟩:=st
  exact ⟨o,e,fun v z=>by rw [d] at z;cases z⟩
 keep:=fun i h h' st k=>st.at fun o e=>k it (by simp) o e
 item:=by
  intro X hP hw hK hc i pins s σ H E I hf st hg
  subst hP hw hK
  obtain ⟨xs,x,hq,hx⟩:=hg
  obtain ⟨its,rv,p,hz⟩:=I.list hq
  obtain ⟨u,hu,ru⟩:=rv.get hx
  obtain ⟨f0,f1,f2,f3,f4,f5⟩:=hf it (by simp)
  refine wpAny_pyNext_list_item st p.isList (x:=u) (by simpa using hu) fun h' st' sb=>?_
  have I1:Inv X pins σ H { s with heap:=h' }:=I.turned (t':=s.toks) (fun b o hb e=>(sb.2 b hb).trans e) f0 f1 f3 f4 f5
  obtain ⟨o,e,c,d⟩:=id st'
  exact ⟨u,rfl,go_of (s:={ s with heap:=h' }) e c d (by decide) ⟨x,H,I1,ru,⟨rfl,fun ys hy=>by rw [I.list_inj hy hq];exact hx⟩,st',fun b hb=>(hf b hb).1⟩⟩
 done:=by
  intro X hP hw hK hc i pins s σ H E I hf st hg
  subst hP hw hK
  obtain ⟨xs,hq,hx⟩:=hg
  obtain ⟨its,rv,p,hz⟩:=I.list hq
  obtain ⟨f0,f1,f2,f3,f4,f5⟩:=hf it (by simp)
  have hl:=rv.length
  exact wpAny_pyNext_list_end (I.ok.hd hc) st p.isList (by simp;omega) fun h' eb=>⟨rfl,I.turned (t':=s.toks) (fun b o hb e=>eb b o hb e) f0 f1 f3 f4 f5⟩
 self:=fun _ _ _ _ _ st h=>wpAny_pyIter_listiter st h
theorem turn_tuple {P:Program} {w:World} {K:PySem.W.Frag} {tg:Expr} (a it:Addr):Turn P w K tg (Itt K a) [it] it (fun i h=>h.IsTupleIter it a i) where
 mem:=by simp
 obj:=fun i h st b hb=>by
  have e:b=it:=by simpa using hb
  subst e
  obtain ⟨o,e,c,d⟩:=st
  exact ⟨o,e,fun v z=>by rw [d] at z;cases z⟩
 keep:=fun i h h' st k=>st.at fun o e=>k it (by simp) o e
 item:=by
  intro X hP hw hK hc i pins s σ H E I hf st hg
  subst hP hw hK
  obtain ⟨xs,x,hq,hx⟩:=hg
  obtain ⟨its,rv,p,hz⟩:=I.tuple hq
  obtain ⟨u,hu,ru⟩:=rv.get hx
  obtain ⟨f0,f1,f2,f3,f4,f5⟩:=hf it (by simp)
  refine wpAny_pyNext_tuple_item st (show s.heap.IsTuple a its.toArray from p) (x:=u) (by simpa using hu) fun h' st' sb=>?_
  have I1:Inv X pins σ H { s with heap:=h' }:=I.turned (t':=s.toks) (fun b o hb e=>(sb.2 b hb).trans e) f0 f1 f3 f4 f5
  obtain ⟨o,e,c,d⟩:=id st'
  exact ⟨u,rfl,go_of (s:={ s with heap:=h' }) e c d (by decide) ⟨x,H,I1,ru,⟨rfl,fun ys hy=>by rw [I.tuple_inj hy hq];exact hx⟩,st',fun b hb=>(hf b hb).1⟩⟩
 done:=by
  intro X hP hw hK hc i pins s σ H E I hf st hg
  subst hP hw hK
  obtain ⟨xs,hq,hx⟩:=hg
  obtain ⟨its,rv,p,hz⟩:=I.tuple hq
  obtain ⟨f0,f1,f2,f3,f4,f5⟩:=hf it (by simp)
  have hl:=rv.length
  exact wpAny_pyNext_tuple_end (I.ok.hd hc) st (show s.heap.IsTuple a its.toArray from p) (by simp;omega) fun h' eb=>⟨rfl,I.turned (t':=s.toks) (fun b o hb e=>eb b o hb e) f0 f1 f3 f4 f5⟩
 self:=fun _ _ _ _ _ st h=>wpAny_pyIter_tupleiter st h
theorem turn_range {P:Program} {w:World} {K:PySem.W.Frag} {tg:Expr} (it:Addr) (lo:Int) (n:Nat):Turn P w K tg (Itr lo n) [it] it (fun i h=>IsRangeIter h it (lo+(i:Nat) * 1) ((n:Int) - (i:Nat)) 1) where
 mem:=by simp
 obj:=fun i h st b hb=>by
  have e:b=it:=by simpa using hb
  subst e
  exact ⟨_,st,fun v z=>by
   have z':Data.fields _=Data.cell v:=z
   cases z'⟩
 keep:=fun i h h' st k=>k it (by simp) _ st
 item:=by
  intro X hP hw hK hc i pins s σ H E I hf st hg
  subst hP hw hK
  obtain ⟨f0,f1,f2,f3,f4,f5⟩:=hf it (by simp)
  have W:=Walks.range (prog:=X.prog) (w:=X.w) (I.ok.hd hc) it lo 1 n
  refine W.item i s _ _ hg st fun v h' tk hv st' kk=>?_
  obtain ⟨t,rfl⟩:=hv
  have I1:Inv X pins σ H { s with heap:=h',toks:=tk }:=I.turned (fun b o hb e=>kk b o (by simpa using hb) e) f0 f1 f3 f4 f5
  refine ⟨_,rfl,go_of (s:={ s with heap:=h',toks:=tk }) (n:="range_iterator") st' rfl rfl (by decide) ⟨.int (lo+i),H,I1,⟨t,?_⟩,⟨rfl,rfl⟩,st',fun b hb=>(hf b hb).1⟩⟩
  rw [Int.mul_one]
 done:=by
  intro X hP hw hK hc i pins s σ H E I hf st hg
  subst hP hw hK
  obtain ⟨f0,f1,f2,f3,f4,f5⟩:=hf it (by simp)
  exact wpAny_pyNext_range_end (I.ok.hd hc) st (by have:n≤i:=hg;omega) fun h' eb=>⟨rfl,I.turned (t':=s.toks) (fun b o hb e=>eb b o hb e) f0 f1 f3 f4 f5⟩
 self:=fun _ _ _ _ _ st h=>wpAny_pyIter_rangeiter st h
end L2
namespace L2
open PySem PySem.Spec PyProof.Rows
section
variable {X:Cx} {tg:Expr}
def iList (K:PySem.W.Frag) (tl:TE):TI:=fun σ H R=>tl σ H fun x H1=>∃ a,x=.ref a∧(∃ xs,SqL K H1 a xs)∧R (Itl K a) H1
def iTup (K:PySem.W.Frag) (tl:TE):TI:=fun σ H R=>tl σ H fun x H1=>∃ a,x=.ref a∧(∃ xs,SqT K H1 a xs)∧R (Itt K a) H1
theorem pi_list {l:Expr} {tl:TE} (hl:PE X l tl):PI X tg l (iList X.K tl):=by
 intro pins s σ H R I h
 refine thn (hl pins s σ H _ I h) fun v s1 ⟨x,H1,I1,r1,q1⟩=>?_
 obtain ⟨a,e,⟨xs,hq⟩,q⟩:=q1
 subst e
 cases r1
 obtain ⟨its,rv,p,hz⟩:=I1.list hq
 refine wpAny_pyIter_list p.isList ?_
 refine ⟨s1.heap.objs.size,[s1.heap.objs.size],_,_,H1,rfl,I1.kept (t':=s1.toks) fun b o e=>Heap.get?_push_of_some _ e,turn_list a _,⟨_,Heap.get?_push_size _ rfl,rfl,rfl⟩,fun b hb=>?_,q⟩
 have e:b=s1.heap.objs.size:=by simpa using hb
 subst e
 exact I1.fpOk (Nat.le_refl _) (I1.hok.fresh (Nat.le_refl _))
theorem pi_tup {l:Expr} {tl:TE} (hl:PE X l tl):PI X tg l (iTup X.K tl):=by
 intro pins s σ H R I h
 refine thn (hl pins s σ H _ I h) fun v s1 ⟨x,H1,I1,r1,q1⟩=>?_
 obtain ⟨a,e,⟨xs,hq⟩,q⟩:=q1
 subst e
 cases r1
 obtain ⟨its,rv,p,hz⟩:=I1.tuple hq
 refine wpAny_pyIter_tuple (show s1.heap.IsTuple a its.toArray from p) ?_
 refine ⟨s1.heap.objs.size,[s1.heap.objs.size],_,_,H1,rfl,I1.kept (t':=s1.toks) fun b o e=>Heap.get?_push_of_some _ e,turn_tuple a _,⟨_,Heap.get?_push_size _ rfl,rfl,rfl⟩,fun b hb=>?_,q⟩
 have e:b=s1.heap.objs.size:=by simpa using hb
 subst e
 exact I1.fpOk (Nat.le_refl _) (I1.hok.fresh (Nat.le_refl _))
theorem range_it {pins:List (Addr × Obj)} {σ:St} {H:Hp} {s:Shared} {R:It→Hp→Prop} {E:Value→Shared→Prop} {lo hi:Int} {t u v:Tok} {tk:Nat} (I:Inv X pins σ H s) (h1:-(2 ^ 62)≤lo) (h2:lo < 2 ^ 62) (h3:-(2 ^ 62)≤hi) (h4:hi < 2 ^ 62)
  (q:R (Itr lo (hi - lo).toNat) H):wpAny (model X.prog X.w) X.A (pyIter (.ref s.heap.objs.size)) (PIE X pins σ tg R) E { s with heap:=s.heap.push { cls:=.type "range",data:=.fields #[.int lo t,.int hi u,.int 1 v] },toks:=tk }:=by
 refine wpAny_pyIter_range (IsRange.new ..) (small_one h1 h2 h3 h4) ?_
 have I1:Inv X pins σ H { s with heap:=s.heap.push { cls:=.type "range",data:=.fields #[.int lo t,.int hi u,.int 1 v] },toks:=tk }:=I.kept fun b o e=>Heap.get?_push_of_some _ e
 refine ⟨(s.heap.push { cls:=.type "range",data:=.fields #[.int lo t,.int hi u,.int 1 v] }).objs.size,[(s.heap.push { cls:=.type "range",data:=.fields #[.int lo t,.int hi u,.int 1 v] }).objs.size],_,_,H,rfl,
  I1.kept (t':=tk) fun b o e=>Heap.get?_push_of_some _ e,turn_range _ lo (hi - lo).toNat,?_,fun b hb=>?_,q⟩
 ·have e1:lo+((0:Nat):Int) * 1=lo:=by simp
  have e2:(((hi - lo).toNat:Nat):Int) - ((0:Nat):Int)=Builtin.Range.rangeSize lo hi 1:=by rw [rangeSize_one];split <;> omega
  show IsRangeIter _ _ (lo+((0:Nat):Int) * 1) ((((hi - lo).toNat:Nat):Int) - ((0:Nat):Int)) 1
  rw [e1,e2]
  exact Heap.get?_push_size _ rfl
 ·have e:b=(s.heap.push { cls:=.type "range",data:=.fields #[.int lo t,.int hi u,.int 1 v] }).objs.size:=by simpa using hb
  subst e
  exact I1.fpOk (Nat.le_refl _) (I1.hok.fresh (Nat.le_refl _))
def iRng1 (ta:TA):TI:=fun σ H R=>ta σ H fun vs H1=>∃ j:Int,vs=[.int j]∧-(2 ^ 62)≤j∧j < 2 ^ 62∧R (Itr 0 j.toNat) H1
def iRng2 (ta:TA):TI:=fun σ H R=>ta σ H fun vs H1=>∃ i j:Int,vs=[.int i,.int j]∧(-(2 ^ 62)≤i∧i < 2 ^ 62∧-(2 ^ 62)≤j∧j < 2 ^ 62)∧R (Itr i (j - i).toNat) H1
theorem pi_range1 {a:Expr} {ta:TA} {p pos:Pos} (hg:Gl X "range") (hm:X.mg "range"=none) (ha:PA X [a] ta) (hs:starEach [a] X.env=[(false,eval a X.env)]:=by rfl):PI X tg (.Call (.Name "range" p) [a] [] pos) (iRng1 ta):=by
 intro pins s σ H R I h
 refine Call_ (ld_blt I hg hm boot_range (PyProof.Rows.callWith_type1 (thn (ha pos pins s σ H _ I h) fun us s1 ⟨vs,H1,I1,r1,q1⟩=>?_) hs rfl))
 obtain ⟨j,e,q1,q2,q⟩:=q1
 subst e
 cases r1 with
 | cons r rr =>
  cases rr
  obtain ⟨t,rfl⟩:=r
  exact call_range_1 (range_it I1 (by omega) (by omega) q1 q2 (by simpa using q))
theorem pi_range2 {a b:Expr} {ta:TA} {p pos:Pos} (hg:Gl X "range") (hm:X.mg "range"=none) (ha:PA X [a,b] ta) (hs:starEach [a,b] X.env=[(false,eval a X.env),(false,eval b X.env)]:=by rfl) (hs2:starEach [b] X.env=[(false,eval b X.env)]:=by rfl) :
  PI X tg (.Call (.Name "range" p) [a,b] [] pos) (iRng2 ta):=by
 intro pins s σ H R I h
 refine Call_ (ld_blt I hg hm boot_range (PyProof.Rows.callWith_type1 (thn (ha pos pins s σ H _ I h) fun us s1 ⟨vs,H1,I1,r1,q1⟩=>?_) (by rw [hs,hs2]) (by rw [hs2];rfl)))
 obtain ⟨i,j,e,⟨q1,q2,q3,q4⟩,q⟩:=q1
 subst e
 cases r1 with
 | cons r rr =>
  cases rr with
  | cons r' rr =>
   cases rr
   obtain ⟨t,rfl⟩:=r
   obtain ⟨t',rfl⟩:=r'
   exact call_range_2 (range_it I1 q1 q2 q3 q4 q)
def tFor (wi:TI) (g:TG) (tb:TS):TS:=fun D σ H=>wi σ H fun J H1=>∃ W:Nat→Nat→St→Hp→Prop,(∃ m,W 0 m σ H1)∧∀ i m σ H,W i m σ H →
 (J.stop i H∧D.nx σ H)∨(J.go i H∧∃ N:St→Hp→Prop,(∀ σ' H',N σ' H'→∃ m',m' < m∧W (i+1) m' σ' H')∧∀ x H',J.yld i H x H'→g x σ H' fun σ2 H2=>tb { D with nx:=N,ct:=N,bk:=D.nx } σ2 H2)
def pinsAt (fp:List Addr) (h:Heap):List (Addr × Obj):=fp.filterMap fun b=>(h.get? b).map fun o=>(b,o)
theorem mem_pinsAt {fp:List Addr} {h:Heap} {b:Addr} {o:Obj} (hb:b ∈ fp) (e:h.get? b=some o):(b,o) ∈ pinsAt fp h:=List.mem_filterMap.mpr ⟨b,hb,by rw [e];rfl⟩
theorem of_pinsAt {fp:List Addr} {h:Heap} {p:Addr × Obj} (hp:p ∈ pinsAt fp h):p.1 ∈ fp∧h.get? p.1=some p.2:=by
 obtain ⟨b,hb,e⟩:=List.mem_filterMap.mp hp
 cases q:h.get? b with
 | none=>rw [q] at e;cases e
 | some o =>
  rw [q] at e
  have e':(b,o)=p:=Option.some.inj e
  subst e'
  exact ⟨hb,q⟩
theorem Inv.pinned {pins:List (Addr × Obj)} {σ:St} {H:Hp} {s:Shared} {fp:List Addr} (I:Inv X pins σ H s) (hf:∀ b ∈ fp,FpOk X pins H b) (ho:∀ b ∈ fp,∃ o,s.heap.get? b=some o∧∀ v,o.data≠.cell v):Inv X (pins ++ pinsAt fp s.heap) σ H s :=
 I.pins_of fun p hp=>(List.mem_append.mp hp).elim (fun z=>I.pin p (List.mem_append_right _ z)) fun z=>by
  obtain ⟨hb,e⟩:=of_pinsAt z
  obtain ⟨f0,f1,f2,_⟩:=hf p.1 hb
  obtain ⟨o,e',d⟩:=ho p.1 hb
  rw [e] at e';cases e'
  exact ⟨e,f0,f1,f2,d⟩
theorem Inv.unpinned {pins pl:List (Addr × Obj)} {σ:St} {H:Hp} {s:Shared} (I:Inv X (pins ++ pl) σ H s):Inv X pins σ H s:=I.pins_of fun p hp=>I.pin p (List.mem_append_right _ (List.mem_append_left _ hp))
theorem ps_for {iter:Expr} {body:List Stmt} {wi:TI} {g:TG} {tb:TS} {pos:Pos} (hp:PassesOwn (model X.prog X.w) X.A X.env X.xe) (hc:X.calm=true) (hi:PI X tg iter wi) (hg:PG X tg g) (hb:PSs X body tb)
  (hs:∀ x,foldedSetIterable iter X.env x=pure x:=by intro _;rfl):PS X (.For tg iter body [] pos) (tFor wi g tb):=by
 intro pins s σ H D I h
 refine wpAny_For (thn (hi pins s σ H _ I h) fun v s1 h1=>thn h1 fun itv s2 h2=>?_) hs
 obtain ⟨it,fp,tn,J,H2,e,I2,T,st2,f2,W,⟨m0,w0⟩,turn⟩:=h2
 subst e
 have stat:∀ {H':Hp},(∀ b ∈ fp,H' b=none)→∀ b ∈ fp,FpOk X pins H' b:=fun hn b hb=>⟨hn b hb,(f2 b hb).2⟩
 refine codeAny_forLoop_any (fun n s'=>∃ i σ' H',Inv X pins σ' H' s'∧tn i s'.heap∧(∀ b ∈ fp,H' b=none)∧W i n σ' H') ?_ m0 ⟨0,σ,H2,I2,st2,fun b hb=>(f2 b hb).1,w0⟩
 rintro n s3 ⟨i,σ3,H3,I3,st3,fr3,w3⟩
 rcases turn i n σ3 H3 w3 with ⟨stop,qn⟩ | ⟨go,N,hN,step⟩
 ·refine wpAny_passesOwn hp (thn (T.done X rfl rfl rfl hc i pins s3 σ3 H3 X.xe I3 (stat fr3) st3 stop) fun r s4 ⟨hr,I4⟩=>?_)
  subst hr
  exact wpAny_execs_nil ⟨σ3,H3,I4,qn⟩
 ·refine wpAny_passesOwn hp (thn (T.item X rfl rfl rfl hc i pins s3 σ3 H3 X.xe I3 (stat fr3) st3 go) fun r s4 ⟨u,hr,h4⟩=>?_)
  subst hr
  refine wpAny_passesOwn hp (thn h4 fun _ s5 ⟨x,H5,I5,r5,y5,st5,fr5⟩=>?_)
  have I5':=I5.pinned (stat fr5) (T.obj _ _ st5)
  refine wpAny_passesOwn hp (thn (hg _ s5 σ3 H5 x u _ I5' r5 (step x H5 y5)) fun _ s6 ⟨σ6,H6,I6,q6⟩=>?_)
  refine wpAny_passesOwn hp (thn (hb _ s6 σ6 H6 _ I6 q6) fun f s7 q7=>?_)
  have again:∀ {σ7:St} {H7:Hp},Inv X (pins ++ pinsAt fp s5.heap) σ7 H7 s7→N σ7 H7→∃ m,m < n∧∃ i σ' H',Inv X pins σ' H' s7∧tn i s7.heap∧(∀ b ∈ fp,H' b=none)∧W i m σ' H':=fun {σ7 H7} I7 n7=>by
   obtain ⟨m',hm,w7⟩:=hN σ7 H7 n7
   refine ⟨m',hm,i+1,σ7,H7,I7.unpinned,T.keep _ _ _ st5 fun b hb o e=>(I7.pin (b,o) (List.mem_append_right _ (List.mem_append_right _ (mem_pinsAt hb e)))).1,fun b hb=>?_,w7⟩
   obtain ⟨o,e,d⟩:=T.obj _ _ st5 b hb
   exact (I7.pin (b,o) (List.mem_append_right _ (List.mem_append_right _ (mem_pinsAt hb e)))).2.1
  cases f with
  | next=>obtain ⟨σ7,H7,I7,n7⟩:=q7;exact again I7 n7
  | cont=>obtain ⟨σ7,H7,I7,n7⟩:=q7;exact again I7 n7
  | brk=>obtain ⟨σ7,H7,I7,q7⟩:=q7;exact ⟨σ7,H7,I7.unpinned,q7⟩
  | ret v=>obtain ⟨x7,σ7,H7,I7,r7,q7⟩:=q7;exact ⟨x7,σ7,H7,I7.unpinned,r7,q7⟩
end
theorem for_list {K:PySem.W.Frag} {a:Addr} {xs:List V} {g:TG} {tb:TS} {D:Ends} {σ:St} {H:Hp} (Pv:Nat→St→Hp→Prop) (h0:Pv 0 σ H) (hl:∀ i σ H,i≤xs.length→Pv i σ H→SqL K H a xs)
  (hs:∀ i x σ H,xs[i]?=some x→Pv i σ H→g x σ H fun σ2 H2=>tb { D with nx:=Pv (i+1),ct:=Pv (i+1),bk:=D.nx } σ2 H2) (hd:∀ σ H,Pv xs.length σ H→D.nx σ H) :
  ∃ W:Nat→Nat→St→Hp→Prop,(∃ m,W 0 m σ H)∧∀ i m σ H,W i m σ H →
   ((Itl K a).stop i H∧D.nx σ H)∨((Itl K a).go i H∧∃ N:St→Hp→Prop,(∀ σ' H',N σ' H'→∃ m',m' < m∧W (i+1) m' σ' H')∧∀ x H',(Itl K a).yld i H x H'→g x σ H' fun σ2 H2=>tb { D with nx:=N,ct:=N,bk:=D.nx } σ2 H2):=by
 refine ⟨fun i m σ H=>m=xs.length - i∧i≤xs.length∧Pv i σ H,⟨xs.length,by simp,Nat.zero_le _,h0⟩,?_⟩
 rintro i m σ H ⟨rfl,hi,p⟩
 have q:=hl i σ H hi p
 by_cases hlt:i < xs.length
 ·refine .inr ⟨⟨xs,xs[i],q,by simp [hlt]⟩,Pv (i+1),fun σ' H' p'=>⟨xs.length - (i+1),by omega,rfl,hlt,p'⟩,fun x H' y=>?_⟩
  obtain ⟨e,y⟩:=y
  subst e
  exact hs i x σ _ (y xs q) p
 ·have e:i=xs.length:=by omega
  subst e
  exact .inl ⟨⟨xs,q,Nat.le_refl _⟩,hd σ H p⟩
theorem for_tup {K:PySem.W.Frag} {a:Addr} {xs:List V} {g:TG} {tb:TS} {D:Ends} {σ:St} {H:Hp} (Pv:Nat→St→Hp→Prop) (h0:Pv 0 σ H) (hl:∀ i σ H,i≤xs.length→Pv i σ H→SqT K H a xs)
  (hs:∀ i x σ H,xs[i]?=some x→Pv i σ H→g x σ H fun σ2 H2=>tb { D with nx:=Pv (i+1),ct:=Pv (i+1),bk:=D.nx } σ2 H2) (hd:∀ σ H,Pv xs.length σ H→D.nx σ H) :
  ∃ W:Nat→Nat→St→Hp→Prop,(∃ m,W 0 m σ H)∧∀ i m σ H,W i m σ H →
   ((Itt K a).stop i H∧D.nx σ H)∨((Itt K a).go i H∧∃ N:St→Hp→Prop,(∀ σ' H',N σ' H'→∃ m',m' < m∧W (i+1) m' σ' H')∧∀ x H',(Itt K a).yld i H x H'→g x σ H' fun σ2 H2=>tb { D with nx:=N,ct:=N,bk:=D.nx } σ2 H2):=by
 refine ⟨fun i m σ H=>m=xs.length - i∧i≤xs.length∧Pv i σ H,⟨xs.length,by simp,Nat.zero_le _,h0⟩,?_⟩
 rintro i m σ H ⟨rfl,hi,p⟩
 have q:=hl i σ H hi p
 by_cases hlt:i < xs.length
 ·refine .inr ⟨⟨xs,xs[i],q,by simp [hlt]⟩,Pv (i+1),fun σ' H' p'=>⟨xs.length - (i+1),by omega,rfl,hlt,p'⟩,fun x H' y=>?_⟩
  obtain ⟨e,y⟩:=y
  subst e
  exact hs i x σ _ (y xs q) p
 ·have e:i=xs.length:=by omega
  subst e
  exact .inl ⟨⟨xs,q,Nat.le_refl _⟩,hd σ H p⟩
theorem for_range {lo:Int} {n:Nat} {g:TG} {tb:TS} {D:Ends} {σ:St} {H:Hp} (Pv:Nat→St→Hp→Prop) (h0:Pv 0 σ H)
  (hs:∀ i σ H,i < n→Pv i σ H→g (.int (lo+i)) σ H fun σ2 H2=>tb { D with nx:=Pv (i+1),ct:=Pv (i+1),bk:=D.nx } σ2 H2) (hd:∀ σ H,Pv n σ H→D.nx σ H) :
  ∃ W:Nat→Nat→St→Hp→Prop,(∃ m,W 0 m σ H)∧∀ i m σ H,W i m σ H →
   ((Itr lo n).stop i H∧D.nx σ H)∨((Itr lo n).go i H∧∃ N:St→Hp→Prop,(∀ σ' H',N σ' H'→∃ m',m' < m∧W (i+1) m' σ' H')∧∀ x H',(Itr lo n).yld i H x H'→g x σ H' fun σ2 H2=>tb { D with nx:=N,ct:=N,bk:=D.nx } σ2 H2):=by
 refine ⟨fun i m σ H=>m=n - i∧i≤n∧Pv i σ H,⟨n,by simp,Nat.zero_le _,h0⟩,?_⟩
 rintro i m σ H ⟨rfl,hi,p⟩
 by_cases hlt:i < n
 ·refine .inr ⟨hlt,Pv (i+1),fun σ' H' p'=>⟨n - (i+1),by omega,rfl,hlt,p'⟩,fun x H' y=>?_⟩
  obtain ⟨e,y⟩:=y
  subst e y
  exact hs i σ _ hlt p
 ·have e:i=n:=by omega
  subst e
  exact .inl ⟨Nat.le_refl _,hd σ H p⟩
end L2
namespace L2
open PySem PySem.Spec PyProof.Rows
abbrev R2:=V→V→Hp→VK→Prop
def OpR (X:Cx) (f:Value→Value→Sem Value) (r:R2):Prop :=
 ∀ (pins:List (Addr × Obj)) (s:Shared) (σ:St) (H:Hp) (x y:V) (v u:Value) (Q:VK),Inv X pins σ H s→RelV x v→RelV y u→r x y H Q →
  wpAny (model X.prog X.w) X.A (f v u) (EP X pins σ Q) X.xe s
def UnR (X:Cx) (f:Value→Sem Value) (r:V→Hp→VK→Prop):Prop :=
 ∀ (pins:List (Addr × Obj)) (s:Shared) (σ:St) (H:Hp) (x:V) (v:Value) (Q:VK),Inv X pins σ H s→RelV x v→r x H Q →
  wpAny (model X.prog X.w) X.A (f v) (EP X pins σ Q) X.xe s
def CallR (X:Cx) (f:Value) (r:List V→Hp→VK→Prop):Prop :=
 ∀ (pins:List (Addr × Obj)) (s:Shared) (σ:St) (H:Hp) (xs:List V) (us:List Value) (Q:VK),Inv X pins σ H s→Vals xs us→r xs H Q →
  wpAny (model X.prog X.w) X.A (call f us) (EP X pins σ Q) X.xe s
def tOp (r:R2) (ta tb:TE):TE:=fun σ H Q=>ta σ H fun x H1=>tb σ H1 fun y H2=>r x y H2 Q
def tUn (r:V→Hp→VK→Prop) (ta:TE):TE:=fun σ H Q=>ta σ H fun x H1=>r x H1 Q
def rI (C:Int→Int→Prop) (g:Int→Int→V):R2:=fun x y H Q=>∃ i j,x=.int i∧y=.int j∧C i j∧Q (g i j) H
def rI0 (g:Int→Int→V):R2:=fun x y H Q=>∃ i j,x=.int i∧y=.int j∧Q (g i j) H
def rU (g:Int→V):V→Hp→VK→Prop:=fun x H Q=>∃ i,x=.int i∧Q (g i) H
section
variable {X:Cx} {a b c:Expr} {ta tb tc:TE} {pos:Pos}
theorem binT (ha:PE X a ta) (hb:PE X b tb) {pins:List (Addr × Obj)} {s:Shared} {σ:St} {H:Hp} {R:V→V→Hp→Prop} (I:Inv X pins σ H s)
  (h:ta σ H fun x H1=>tb σ H1 fun y H2=>R x y H2) {Q:Value→Shared→Prop} {f:Value→Value→Sem Value}
  (hf:∀ v u s2 x y H2,Inv X pins σ H2 s2→RelV x v→RelV y u→R x y H2→wpAny (model X.prog X.w) X.A (f v u) Q X.xe s2) :
  wpAny (model X.prog X.w) X.A (eval a X.env) (fun v s₁=>wpAny (model X.prog X.w) X.A (eval b X.env) (fun u s₂=>wpAny (model X.prog X.w) X.A (f v u) Q X.xe s₂) X.xe s₁) X.xe s:=by
 refine thn (ha pins s σ H _ I h) fun v s1 ⟨x,H1,I1,r1,q1⟩=>?_
 refine thn (hb pins s1 σ H1 _ I1 q1) fun u s2 ⟨y,H2,I2,r2,q2⟩=>?_
 exact hf v u s2 x y H2 I2 r1 r2 q2
theorem pe_op {op:Operator} {r:R2} (ho:OpR X (binaryOp op) r) (ha:PE X a ta) (hb:PE X b tb):PE X (.BinOp a op b pos) (tOp r ta tb):=by
 intro pins s σ H Q I h
 exact wpAny_BinOp (binT ha hb I h fun v u s2 x y H2 I2 rx ry q=>ho pins s2 σ H2 x y v u Q I2 rx ry q)
theorem pe_un {op:UnaryOp} {r:V→Hp→VK→Prop} (ho:UnR X (unaryOp op) r) (ha:PE X a ta):PE X (.UnaryOp op a pos) (tUn r ta):=by
 intro pins s σ H Q I h
 exact UnaryOp_ (thn (ha pins s σ H _ I h) fun v s1 ⟨x,H1,I1,r1,q1⟩=>ho pins s1 σ H1 x v Q I1 r1 q1)
theorem opI {f:Value→Value→Sem Value} {C:Int→Int→Prop} {g:Int→Int→Int}
  (rule:∀ (i j:Int) (t u:Tok) (s:Shared) (Q:Value→Shared→Prop) (E:Value→Shared→Prop),C i j→Q (.int (g i j) s.toks) { s with toks:=s.toks+1 }→wpAny (model X.prog X.w) X.A (f (.int i t) (.int j u)) Q E s) :
  OpR X f (rI C fun i j=>.int (g i j)):=by
 intro pins s σ H x y v u Q I rx ry h
 obtain ⟨i,j,rfl,rfl,hc,q⟩:=h
 obtain ⟨t,rfl⟩:=rx
 obtain ⟨t',rfl⟩:=ry
 exact rule i j t t' s _ _ hc ⟨.int (g i j),H,I.tok _,⟨_,rfl⟩,q⟩
theorem opI0 {f:Value→Value→Sem Value} {g:Int→Int→Int}
  (rule:∀ (i j:Int) (t u:Tok) (s:Shared) (Q:Value→Shared→Prop) (E:Value→Shared→Prop),Q (.int (g i j) s.toks) { s with toks:=s.toks+1 }→wpAny (model X.prog X.w) X.A (f (.int i t) (.int j u)) Q E s) :
  OpR X f (rI0 fun i j=>.int (g i j)):=by
 intro pins s σ H x y v u Q I rx ry h
 obtain ⟨i,j,rfl,rfl,q⟩:=h
 obtain ⟨t,rfl⟩:=rx
 obtain ⟨t',rfl⟩:=ry
 exact rule i j t t' s _ _ ⟨.int (g i j),H,I.tok _,⟨_,rfl⟩,q⟩
theorem opB0 {f:Value→Value→Sem Value} {g:Int→Int→Bool}
  (rule:∀ (i j:Int) (t u:Tok) (s:Shared) (Q:Value→Shared→Prop) (E:Value→Shared→Prop),Q (.bool (g i j)) s→wpAny (model X.prog X.w) X.A (f (.int i t) (.int j u)) Q E s) :
  OpR X f (rI0 fun i j=>.bl (g i j)):=by
 intro pins s σ H x y v u Q I rx ry h
 obtain ⟨i,j,rfl,rfl,q⟩:=h
 obtain ⟨t,rfl⟩:=rx
 obtain ⟨t',rfl⟩:=ry
 exact rule i j t t' s _ _ ⟨.bl (g i j),H,I,rfl,q⟩
def CDiv (i j:Int):Prop:=0 < j∧j < 1073741824
def CPow (i j:Int):Prop:=0≤j∧j≤1000000∧i.natAbs < 2 ^ 64
def CMul (i j:Int):Prop:=(-(2 ^ 64) < i∧i < 2 ^ 64)∨(-(2 ^ 64) < j∧j < 2 ^ 64)
theorem CMul.ok {i j:Int} (h:CMul i j):IntMulOk i j:=by
 rcases h with ⟨h1,h2⟩ | ⟨h1,h2⟩
 ·exact .of_left (intBits_le_64 h1 h2)
 ·exact .of_right (intBits_le_64 h1 h2)
theorem op_add:OpR X (binaryOp .Add) (rI0 fun i j=>.int (i+j)):=opI0 fun _ _ _ _ _ _ _ q=>add_int q
theorem op_sub:OpR X (binaryOp .Sub) (rI0 fun i j=>.int (i - j)):=opI0 fun _ _ _ _ _ _ _ q=>sub_int q
theorem op_fdiv:OpR X (binaryOp .FloorDiv) (rI CDiv fun i j=>.int (i / j)):=opI fun i j _ _ _ _ _ hc q=>by
 have h1:(0:Int) < j:=hc.1
 have h2:j < 1073741824:=hc.2
 exact floordiv_int (by omega) (by rw [Int.fdiv_eq_ediv_of_nonneg i (by omega)];exact q) (.inl (PyProof.noPylong_small (by omega)))
theorem op_mod:OpR X (binaryOp .Mod) (rI (fun _ j=>0 < j) fun i j=>.int (i % j)):=opI fun i j _ _ _ _ _ hc q=>by
 have h1:(0:Int) < j:=hc
 exact mod_int' (by omega) (by rw [Int.fmod_eq_emod_of_nonneg i (by omega)];exact q)
theorem op_pow:OpR X (binaryOp .Pow) (rI CPow fun i j=>.int (i ^ j.toNat)):=opI fun _ _ _ _ _ _ _ hc q=>pow_int_small hc.1 hc.2.1 hc.2.2 q
theorem unI {f:Value→Sem Value} {g:Int→Int}
  (rule:∀ (i:Int) (t:Tok) (s:Shared) (Q:Value→Shared→Prop) (E:Value→Shared→Prop),Q (.int (g i) s.toks) { s with toks:=s.toks+1 }→wpAny (model X.prog X.w) X.A (f (.int i t)) Q E s) :
  UnR X f (rU fun i=>.int (g i)):=by
 intro pins s σ H x v Q I rx h
 obtain ⟨i,rfl,q⟩:=h
 obtain ⟨t,rfl⟩:=rx
 exact rule i t s _ _ ⟨.int (g i),H,I.tok _,⟨_,rfl⟩,q⟩
theorem un_neg:UnR X (unaryOp .USub) (rU fun i=>.int (-i)):=unI fun _ _ _ _ _ q=>neg_int q
end
def scal:V→V→Bool
 | .non,.non=>true | .non,.int _=>true | .int _,.non=>true | .non,.bl _=>true | .bl _,.non=>true | .non,.str _=>true | .str _,.non=>true
 | .int _,.int _=>true | .bl _,.bl _=>true | .str _,.str _=>true | .byt _,.byt _=>true
 | .int _,.str _=>true | .str _,.int _=>true | .bl _,.str _=>true | .str _,.bl _=>true
 | _,_=>false
def rEq:R2:=fun x y H Q=>scal x y=true∧Q (.bl (decide (x=y))) H
def rNe:R2:=fun x y H Q=>scal x y=true∧Q (.bl (!decide (x=y))) H
theorem dec_int {i j:Int}:decide (V.int i=V.int j)=(i == j):=by
 rw [Bool.eq_iff_iff]
 simp
theorem dec_bl {i j:Bool}:decide (V.bl i=V.bl j)=(i == j):=by
 rw [Bool.eq_iff_iff]
 simp
theorem dec_str {i j:Str}:decide (V.str i=V.str j)=(i == j):=by
 rw [Bool.eq_iff_iff]
 simp
theorem dec_byt {i j:Array UInt8}:decide (V.byt i=V.byt j)=(i.toList == j.toList):=by
 rw [Bool.eq_iff_iff]
 cases i
 cases j
 simp
section
variable {X:Cx} {a b c:Expr} {ta tb tc:TE} {pos:Pos}
theorem fin_bl {pins:List (Addr × Obj)} {σ:St} {H:Hp} {s:Shared} {Q:VK} {k k':Bool} (I:Inv X pins σ H s) (q:Q (.bl k) H) (e:k=k'):EP X pins σ Q (.bool k') s:=by
 subst e
 exact ⟨.bl k,H,I,rfl,q⟩
theorem op_eq:OpR X (compareOp .Eq) rEq:=by
 intro pins s σ H x y v u Q I rx ry h
 obtain ⟨hs,q⟩:=h
 cases x with
 | non =>
  cases rx
  cases y with
  | non=>cases ry;exact PySem.EqNone.eq_none_none (fin_bl I q (by simp))
  | bl j=>cases ry;exact PySem.EqNone.eq_none_bool (fin_bl I q (by simp))
  | int j=>obtain ⟨t',rfl⟩:=ry;exact PySem.EqNone.eq_none_int (fin_bl I q (by simp))
  | str j=>obtain ⟨t',rfl⟩:=ry;exact PySem.EqNone.eq_none_str (fin_bl I q (by simp))
  | _=>exact absurd (show false=true from hs) Bool.false_ne_true
 | bl i =>
  cases rx
  cases y with
  | non=>cases ry;exact PySem.EqNone.eq_bool_none (fin_bl I q (by simp))
  | bl j=>cases ry;exact eq_bool (fin_bl I q dec_bl)
  | str j=>obtain ⟨t',rfl⟩:=ry;exact PySem.EqMixed.eq_bool_str (fin_bl I q (by simp))
  | _=>exact absurd (show false=true from hs) Bool.false_ne_true
 | int i =>
  obtain ⟨t,rfl⟩:=rx
  cases y with
  | non=>cases ry;exact PySem.EqNone.eq_int_none (fin_bl I q (by simp))
  | int j=>obtain ⟨t',rfl⟩:=ry;exact eq_int (fin_bl I q dec_int)
  | str j=>obtain ⟨t',rfl⟩:=ry;exact PySem.EqMixed.eq_int_str (fin_bl I q (by simp))
  | _=>exact absurd (show false=true from hs) Bool.false_ne_true
 | str i =>
  obtain ⟨t,rfl⟩:=rx
  cases y with
  | non=>cases ry;exact PySem.EqNone.eq_str_none (fin_bl I q (by simp))
  | bl j=>cases ry;exact PySem.EqMixed.eq_str_bool (fin_bl I q (by simp))
  | int j=>obtain ⟨t',rfl⟩:=ry;exact PySem.EqMixed.eq_str_int (fin_bl I q (by simp))
  | str j=>obtain ⟨t',rfl⟩:=ry;exact eq_str (fin_bl I q dec_str)
  | _=>exact absurd (show false=true from hs) Bool.false_ne_true
 | byt i =>
  obtain ⟨t,rfl⟩:=rx
  cases y with
  | byt j=>obtain ⟨t',rfl⟩:=ry;exact PySem.W.eq_bytes (fin_bl I q dec_byt)
  | _=>exact absurd (show false=true from hs) Bool.false_ne_true
 | _=>cases y <;> exact absurd (show false=true from hs) Bool.false_ne_true
theorem op_ne:OpR X (compareOp .NotEq) rNe:=by
 intro pins s σ H x y v u Q I rx ry h
 obtain ⟨hs,q⟩:=h
 cases x with
 | non =>
  cases rx
  cases y with
  | non=>cases ry;exact PySem.EqNone.ne_none_none (fin_bl I q (by simp))
  | bl j=>cases ry;exact PySem.EqNone.ne_none_bool (fin_bl I q (by simp))
  | int j=>obtain ⟨t',rfl⟩:=ry;exact PySem.EqNone.ne_none_int (fin_bl I q (by simp))
  | str j=>obtain ⟨t',rfl⟩:=ry;exact PySem.EqNone.ne_none_str (fin_bl I q (by simp))
  | _=>exact absurd (show false=true from hs) Bool.false_ne_true
 | bl i =>
  cases rx
  cases y with
  | non=>cases ry;exact PySem.EqNone.ne_bool_none (fin_bl I q (by simp))
  | bl j=>cases ry;exact ne_bool (fin_bl I q (congrArg not dec_bl))
  | str j=>obtain ⟨t',rfl⟩:=ry;exact PySem.EqMixed.ne_bool_str (fin_bl I q (by simp))
  | _=>exact absurd (show false=true from hs) Bool.false_ne_true
 | int i =>
  obtain ⟨t,rfl⟩:=rx
  cases y with
  | non=>cases ry;exact PySem.EqNone.ne_int_none (fin_bl I q (by simp))
  | int j=>obtain ⟨t',rfl⟩:=ry;exact ne_int (fin_bl I q (congrArg not dec_int))
  | str j=>obtain ⟨t',rfl⟩:=ry;exact PySem.EqMixed.ne_int_str (fin_bl I q (by simp))
  | _=>exact absurd (show false=true from hs) Bool.false_ne_true
 | str i =>
  obtain ⟨t,rfl⟩:=rx
  cases y with
  | non=>cases ry;exact PySem.EqNone.ne_str_none (fin_bl I q (by simp))
  | bl j=>cases ry;exact PySem.EqMixed.ne_str_bool (fin_bl I q (by simp))
  | int j=>obtain ⟨t',rfl⟩:=ry;exact PySem.EqMixed.ne_str_int (fin_bl I q (by simp))
  | str j=>obtain ⟨t',rfl⟩:=ry;exact ne_str (fin_bl I q (congrArg not dec_str))
  | _=>exact absurd (show false=true from hs) Bool.false_ne_true
 | byt i =>
  obtain ⟨t,rfl⟩:=rx
  cases y with
  | byt j=>obtain ⟨t',rfl⟩:=ry;exact PySem.W.ne_bytes (fin_bl I q (congrArg not dec_byt))
  | _=>exact absurd (show false=true from hs) Bool.false_ne_true
 | _=>cases y <;> exact absurd (show false=true from hs) Bool.false_ne_true
theorem op_lt:OpR X (compareOp .Lt) (rI0 fun i j=>.bl (decide (i < j))):=opB0 fun _ _ _ _ _ _ _ q=>lt_int q
theorem op_le:OpR X (compareOp .LtE) (rI0 fun i j=>.bl (decide (i≤j))):=opB0 fun _ _ _ _ _ _ _ q=>le_int q
theorem op_gt:OpR X (compareOp .Gt) (rI0 fun i j=>.bl (decide (j < i))):=opB0 fun _ _ _ _ _ _ _ q=>gt_int q
theorem op_notN:OpR X (compareOp .IsNot) (fun x y H Q=>y=.non∧Q (.bl (!decide (x=.non))) H):=by
 intro pins s σ H x y v u Q I rx ry h
 obtain ⟨rfl,q⟩:=h
 cases ry
 refine isnot_none_gen (fin_bl I q ?_)
 cases x <;> first
  | (cases rx;rfl)
  | (obtain ⟨t,rfl⟩:=rx;rfl)
theorem nomark (b:Expr) {op:CmpOp} (h:op≠.In:=by decide) (h2:op≠.NotIn:=by decide):behindInMarks op b=false:=by
 have e1:(op == CmpOp.In)=false:=by cases op <;> first | rfl | exact absurd rfl h
 have e2:(op == CmpOp.NotIn)=false:=by cases op <;> first | rfl | exact absurd rfl h2
 cases b <;> simp [behindInMarks,e1,e2]
theorem pe_cmpR {op:CmpOp} {r:R2} (ho:OpR X (compareOp op) r) (ha:PE X a ta) (hb:PE X b tb) (hm:behindInMarks op b=false):PE X (.Compare a [op] [b] pos) (tOp r ta tb):=by
 intro pins s σ H Q I h
 exact wpAny_Compare1 (binT ha hb I h fun v u s2 x y H2 I2 rx ry q=>ho pins s2 σ H2 x y v u Q I2 rx ry q) hm
def tTest (t:TE):TT:=fun σ H Q=>t σ H fun x H'=>∃ k,x=.bl k∧Q k H'
theorem pt_cmpR {op:CmpOp} {r:R2} (ho:OpR X (compareOp op) r) (ha:PE X a ta) (hb:PE X b tb) (hm:behindInMarks op b=false):PT X (.Compare a [op] [b] pos) (tTest (tOp r ta tb)):=by
 intro pins s σ H Q I h
 refine wpAny_isTrue_Compare1 (thn (ha pins s σ H _ I h) fun v s1 ⟨x,H1,I1,r1,q1⟩=>thn (hb pins s1 σ H1 _ I1 q1) fun u s2 ⟨y,H2,I2,r2,q2⟩ =>
  thn (ho pins s2 σ H2 x y v u _ I2 r1 r2 q2) fun c s3 ⟨z,H3,I3,r3,k,e,q3⟩=>?_) hm
 subst e
 cases r3
 exact wpAny_truthy_bool ⟨H3,I3,q3⟩
def tChain (r r':R2) (ta tb tc:TE):TE:=fun σ H Q=>ta σ H fun x H1=>tb σ H1 fun y H2=>r x y H2 fun z H3=>∃ k,z=.bl k ∧
 (if k=true then tc σ H3 fun w' H4=>r' y w' H4 Q else Q (.bl false) H3)
theorem pe_chain {op op':CmpOp} {r r':R2} (ho:OpR X (compareOp op) r) (ho':OpR X (compareOp op') r') (ha:PE X a ta) (hb:PE X b tb) (hc:PE X c tc)
  (hm:lastMarks [op,op'] [b,c]=false:=by with_unfolding_all rfl):PE X (.Compare a [op,op'] [b,c] pos) (tChain r r' ta tb tc):=by
 intro pins s σ H Q I h
 refine Compare_chain (thn (ha pins s σ H _ I h) fun v s1 ⟨x,H1,I1,r1,q1⟩=>chain_link (thn (hb pins s1 σ H1 _ I1 q1) fun u s2 ⟨y,H2,I2,r2,q2⟩ =>
  thn (ho pins s2 σ H2 x y v u _ I2 r1 r2 q2) fun d s3 ⟨z,H3,I3,r3,k,e,q3⟩=>?_)) hm
 subst e
 cases r3
 refine wpAny_truthy_bool ?_
 cases k with
 | false=>exact ite_ff ⟨.bl false,H3,I3,rfl,q3⟩
 | true=>exact ite_tt (chain_last (thn (hc pins s3 σ H3 _ I3 q3) fun w' s4 ⟨z',H4,I4,r4,q4⟩=>ho' pins s4 σ H4 y z' u w' Q I4 r2 r4 q4))
theorem pt_chain {op op':CmpOp} {r r':R2} (ho:OpR X (compareOp op) r) (ho':OpR X (compareOp op') r') (ha:PE X a ta) (hb:PE X b tb) (hc:PE X c tc)
  (hm:lastMarks [op,op'] [b,c]=false:=by with_unfolding_all rfl):PT X (.Compare a [op,op'] [b,c] pos) (tTest (tChain r r' ta tb tc)):=by
 intro pins s σ H Q I h
 refine isTrue_chain (thn (ha pins s σ H _ I h) fun v s1 ⟨x,H1,I1,r1,q1⟩=>test_link (thn (hb pins s1 σ H1 _ I1 q1) fun u s2 ⟨y,H2,I2,r2,q2⟩ =>
  thn (ho pins s2 σ H2 x y v u _ I2 r1 r2 q2) fun d s3 ⟨z,H3,I3,r3,k,e,q3⟩=>?_)) hm
 subst e
 cases r3
 refine wpAny_truthy_bool ?_
 cases k with
 | false =>
  obtain ⟨k',e',q'⟩:=q3
  cases e'
  exact ite_ff ⟨H3,I3,q'⟩
 | true =>
  refine ite_tt (test_last (thn (hc pins s3 σ H3 _ I3 q3) fun w' s4 ⟨z',H4,I4,r4,q4⟩=>thn (ho' pins s4 σ H4 y z' u w' _ I4 r2 r4 q4) fun d' s5 ⟨z2,H5,I5,r5,k2,e2,q5⟩=>?_))
  subst e2
  cases r5
  exact wpAny_truthy_bool ⟨H5,I5,q5⟩
theorem line63:(sizeLine:Nat) < 2 ^ 63:=by rw [sizeLine_eq];decide
theorem vals1 {x:V} {us:List Value} (r:Vals [x] us):∃ u,us=[u]∧RelV x u:=by
 cases r with
 | cons r1 r2=>cases r2;exact ⟨_,rfl,r1⟩
theorem vals2 {x y:V} {us:List Value} (r:Vals [x,y] us):∃ u w',us=[u,w']∧RelV x u∧RelV y w':=by
 cases r with
 | cons r1 r2 =>
  cases r2 with
  | cons r3 r4=>cases r4;exact ⟨_,_,rfl,r1,r3⟩
theorem call_max2 (hc:X.calm=true):CallR X (.builtin "max") (fun xs H Q=>∃ i j,xs=[.int i,.int j]∧Q (.int (if j > i then j else i)) H):=by
 intro pins s σ H xs us Q I r h
 obtain ⟨i,j,rfl,q⟩:=h
 obtain ⟨u,w',rfl,⟨t,rfl⟩,⟨t',rfl⟩⟩:=vals2 r
 refine max_two_ints (I.ok.hd hc) fun h' tk k=>⟨_,H,I.kept k,?_,q⟩
 by_cases hj:j > i
 ·rw [if_pos hj,if_pos hj];exact ⟨_,rfl⟩
 ·rw [if_neg hj,if_neg hj];exact ⟨_,rfl⟩
theorem call_min2 (hc:X.calm=true):CallR X (.builtin "min") (fun xs H Q=>∃ i j,xs=[.int i,.int j]∧Q (.int (if j < i then j else i)) H):=by
 intro pins s σ H xs us Q I r h
 obtain ⟨i,j,rfl,q⟩:=h
 obtain ⟨u,w',rfl,⟨t,rfl⟩,⟨t',rfl⟩⟩:=vals2 r
 refine min_two_ints (I.ok.hd hc) fun h' tk k=>⟨_,H,I.kept k,?_,q⟩
 by_cases hj:j < i
 ·rw [if_pos hj,if_pos hj];exact ⟨_,rfl⟩
 ·rw [if_neg hj,if_neg hj];exact ⟨_,rfl⟩
end
end L2
namespace L2
open PySem PySem.Spec PyProof.Rows
structure ObjM (h:Heap) (x dx C:Addr) (mA:Str→Option Value):Prop where
 obj:h.get? x=some (PySem.W.instObj C dx)
 ns:h.Ns1 dx mA
 ne:dx≠x
theorem lookIn_ns {h:Heap} {dx:Addr} {mA:Str→Option Value} (n:h.Ns1 dx mA):∃ od,h.get? dx=some od∧∀ name,PySem.W.lookIn name od=some (mA name):=by
 obtain ⟨o,es,ep,ho,hd,hk,_,hm⟩:=n
 refine ⟨o,ho,fun name=>?_⟩
 have e:=hm name
 unfold nsFind findBy at e
 rw [← Array.find?_toList] at e
 unfold PySem.W.lookIn
 rw [hd]
 dsimp only
 split
 ·rename_i y q
  rw [q] at e
  exact congrArg some e
 ·rename_i q
  rw [q] at e
  have a:es.toList.any (·.refKey)=false:=by
   rw [List.any_eq_false]
   intro y hy
   obtain ⟨z,t,hkey⟩:=hk y (Array.mem_toList_iff.mp hy)
   simp [DictEntry.refKey,hkey]
  have a':¬ es.toList.any (·.refKey)=true:=by rw [a];exact Bool.false_ne_true
  rw [if_neg a']
  exact congrArg some e
theorem ObjM.look {h:Heap} {x dx C:Addr} {mA:Str→Option Value} (I:ObjM h x dx C mA):∃ od,PySem.W.InstAt h x (PySem.W.instObj C dx) C (some od)∧∀ name,PySem.W.lookIn name od=some (mA name) :=
 let ⟨od,ho,hl⟩:=lookIn_ns I.ns
 ⟨od,⟨I.obj,rfl,rfl,ho⟩,hl⟩
section
variable {prog:Program} {w:World} {A:Around} {E:Value→Shared→Prop} {s:Shared} {K:PySem.W.Frag} {x dx C f:Addr} {mA:Str→Option Value} {name:Str} {v:Value}
theorem get_map {expr:Bool} {Q:Value→Shared→Prop} (X:K.In s.heap) (I:ObjM s.heap x dx C mA) (hg:PySem.W.plainGet K C name=true) (hh:PySem.W.hasDictIn K C=true)
  (ha:PySem.W.findIn K (.ref C) name=some none) (hv:mA name=some v) (hv':PySem.W.handedIn v=true) (h:Q v { s with toks:=s.toks+1 }) :
  wpAny (model prog w) A (getAttr (.ref x) name expr) Q E s:=by
 obtain ⟨od,J,hl⟩:=I.look
 exact PySem.W.get_value X J (PySem.W.plainGet_of hg).1 (PySem.W.findObj_own hh ha rfl (by rw [hl,hv])) hv' h
theorem get_meth {pl:Sem Bool} {Q:Value × List Value→Shared→Prop} (X:K.In s.heap) (I:ObjM s.heap x dx C mA) (hg:PySem.W.plainGet K C name=true)
  (hf:PySem.W.findIn K (.ref C) name=some (some (.ref f))) (ht:PySem.W.isFn K (.ref f)=true) (hv:mA name=none) (h:Q (.ref f,[.ref x]) s) :
  wpAny (model prog w) A (getMethod (.ref x) name pl) Q E s:=by
 obtain ⟨od,J,hl⟩:=I.look
 exact PySem.W.method_fn X J (PySem.W.plainGet_of hg).1 (PySem.W.plainGet_of hg).2 hf (beq_iff_eq.mp ht) (by show (PySem.W.lookIn name od).map (·.isSome)=some false;rw [hl,hv];rfl) h
theorem set_map {ns:List Str} {Q:Unit→Shared→Prop} (X:K.In s.heap) (I:ObjM s.heap x dx C mA)
  (hs:PySem.W.findIn K (.ref C) "__setattr__"=some (some (.builtin "object.__setattr__"))) (hp:PySem.W.plainOver K C=true) (ht:PySem.W.takerIn K C name=some none) (hh:PySem.W.hasDictIn K C=true)
  (hw:PySem.Within mA ns) (hsz:ns.length≤sizeLine)
  (h:∀ h',ObjM h' x dx C (fun y=>if y=name then some v else mA y)→Heap.SameBut dx s.heap h'→Q () { s with heap:=h',toks:=s.toks+2 }) :
  wpAny (model prog w) A (setAttr (.ref x) name v) Q E s:=by
 obtain ⟨od,J,hl⟩:=I.look
 refine PySem.W.set_plain X J hs (PySem.W.osa_open (s:={ s with toks:=s.toks+1 }) (r:=none) X J hp ht fun b=>?_)
 obtain ⟨cd,hc,hd'⟩:=PySem.W.any_some hh
 have hx:s.heap.get? x=some ⟨.ref C,some dx,.plain,#[]⟩:=I.obj
 refine wpAny_bind (wpAny_pure (wpAny_bind (wpAny_bind (wpAny_loadPart hx (wpAny_bind (PySem.W.Looks.here (s:={ s with toks:=s.toks+1 }) (PySem.W.looks_clsIn X hc) ?_))))))
 rw [hd']
 refine wpAny_pure (a:=some dx) (wpAny_bind (wpAny_pure (wpAny_bind ?_)))
 refine wpAny_nsSet1 (s:={ s with toks:=s.toks+1 }) I.ns fun h' hn2 hs2=>?_
 obtain ⟨oD,esD,epD,hoD,hdD,hcD⟩:=hn2.count (PySem.Within.cons name v hw)
 refine wpAny_bind (wpAny_lookBehind hoD (by rw [hdD];exact pastItsLine_dict (Nat.le_trans hcD (by rw [List.length_cons];omega))) ?_)
 exact wpAny_pure (h _ ⟨(hs2.2 _ (Ne.symm I.ne)).trans I.obj,hn2,I.ne⟩ hs2)
theorem make_map {R:Result→Shared→Prop} {vs:List Value} {kw:List (Str × Value)} (X:K.In s.heap) (hm:PySem.W.makesIn K C=true)
  (hi:PySem.W.findIn K (.ref C) "__init__"=some (some (.ref f))) (hf:PySem.W.typeIn K (.ref f)=some (.type "function"))
  (h:codeAny (model prog w) (A.under (.builtin "type.__call__" ⟨.ref C :: vs,kw⟩)) (.call (.ref f) ⟨.ref (s.heap.objs.size+1) :: vs,kw⟩) (PySem.W.InitBack (s.heap.objs.size+1) R)
   { s with heap:=(s.heap.push PySem.W.emptyDict).push (PySem.W.instObj C s.heap.objs.size) }) :
  codeAny (model prog w) A (.call (.ref C) ⟨vs,kw⟩) R s:=by
 obtain ⟨hh,g,d,t,os⟩:=s
 exact PySem.W.make_core (PySem.W.makes_of X hm) (PySem.W.looks_findIn X hi) (fun self=>PySem.W.bind_fn X self hf) (.inl rfl) h
end
def putF (f:Str) (v:V):List (Str × V)→List (Str × V)
 | []=>[(f,v)]
 | (g,x) :: r=>if g=f then (g,v) :: r else (g,x) :: putF f v r
theorem lookup_putF (f g:Str) (v:V):∀ fs:List (Str × V),(putF f v fs).lookup g=if g=f then some v else fs.lookup g
 | []=>by
  show List.lookup g [(f,v)]=_
  by_cases h:g=f
  ·have hb:(g == f)=true:=beq_iff_eq.mpr h
   simp only [List.lookup,hb,if_pos h]
  ·have hb:(g == f)=false:=beq_eq_false_iff_ne.mpr h
   simp only [List.lookup,hb,if_neg h]
 | (k,x) :: r=>by
  have ih:=lookup_putF f g v r
  rw [show putF f v ((k,x) :: r)=(if k=f then (k,v) :: r else (k,x) :: putF f v r) from rfl]
  by_cases hk:k=f
  ·rw [if_pos hk]
   by_cases h:g=k
   ·have hb:(g == k)=true:=beq_iff_eq.mpr h
    simp only [List.lookup,hb,if_pos (h.trans hk)]
   ·have hb:(g == k)=false:=beq_eq_false_iff_ne.mpr h
    simp only [List.lookup,hb,if_neg (fun e:g=f=>h (e.trans hk.symm))]
  ·rw [if_neg hk]
   by_cases h:g=k
   ·have hb:(g == k)=true:=beq_iff_eq.mpr h
    simp only [List.lookup,hb,if_neg (fun e:g=f=>hk (h.symm.trans e))]
   ·have hb:(g == k)=false:=beq_eq_false_iff_ne.mpr h
    simp only [List.lookup,hb]
    exact ih
theorem keys_putF (f:Str) (v:V):∀ fs:List (Str × V),f ∈ (putF f v fs).map (·.1)∧∀ g,g ∈ fs.map (·.1)→g ∈ (putF f v fs).map (·.1)
 | []=>⟨by simp [putF],fun g h=>by simp at h⟩
 | (k,x) :: r=>by
  obtain ⟨i1,i2⟩:=keys_putF f v r
  rw [show putF f v ((k,x) :: r)=(if k=f then (k,v) :: r else (k,x) :: putF f v r) from rfl]
  by_cases hk:k=f
  ·rw [if_pos hk]
   subst hk
   exact ⟨by simp,fun g h=>by simpa using h⟩
  ·rw [if_neg hk]
   refine ⟨?_,fun g h=>?_⟩
   ·rw [List.map_cons]
    exact List.mem_cons_of_mem _ i1
   ·rw [List.map_cons] at h ⊢
    rcases List.mem_cons.mp h with e | e
    ·exact List.mem_cons.mpr (.inl e)
    ·exact List.mem_cons_of_mem _ (i2 g e)
theorem length_putF (f:Str) (v:V):∀ fs:List (Str × V),(putF f v fs).length≤fs.length+1
 | []=>by simp [putF]
 | (k,x) :: r=>by
  have ih:=length_putF f v r
  rw [show putF f v ((k,x) :: r)=(if k=f then (k,v) :: r else (k,x) :: putF f v r) from rfl]
  by_cases hk:k=f
  ·rw [if_pos hk,List.length_cons,List.length_cons];omega
  ·rw [if_neg hk,List.length_cons,List.length_cons];omega
theorem RelO.some_of {v:V} {o:Option Value} (r:RelO (some v) o):∃ u,o=some u∧RelV v u:=by
 cases o with
 | none=>exact (show False from r).elim
 | some u=>exact ⟨u,rfl,r⟩
theorem RelO.none_of {o:Option Value} (r:RelO none o):o=none:=by
 cases o with
 | none=>rfl
 | some u=>exact (show False from r).elim
theorem handed_of {v:V} {u:Value} (r:RelV v u):PySem.W.handedIn u=true:=by
 cases v with
 | non=>cases (show u=Value.none from r);rfl
 | bl b=>cases (show u=Value.bool b from r);rfl
 | int i=>obtain ⟨t,e⟩:=(show ∃ t,u=Value.int i t from r);cases e;rfl
 | str x=>obtain ⟨t,e⟩:=(show ∃ t,u=Value.str x t from r);cases e;rfl
 | byt b=>obtain ⟨t,e⟩:=(show ∃ t,u=Value.bytes b t from r);cases e;rfl
 | flt b=>obtain ⟨t,e⟩:=(show ∃ t,u=Value.float b t from r);cases e;rfl
 | ref a=>cases (show u=Value.ref a from r);rfl
 | ty n=>cases (show u=Value.type n from r);rfl
section
variable {P:Program} {w:World} {H H':Hp} {h h':Heap} {a C dx:Addr} {fs fs':List (Str × V)}
theorem ins_get (hok:HOk P w H h) (e:H a=some (.ins C dx fs)):∃ mA,ObjM h a dx C mA∧(∀ f,RelO (fs.lookup f) (mA f))∧PySem.Within mA (fs.map (·.1))∧fs.length≤1000∧H dx=some (.own a):=by
 obtain ⟨d,z,ne,ob,mA,n,r,q⟩:=(show ObjOk P w H h a (.ins C dx fs) from hok a _ e)
 exact ⟨mA,⟨ob,n,ne⟩,r,q,z,d⟩
end
structure Cls (K:PySem.W.Frag) (C:Addr):Prop where
 pg:PySem.W.plainGet K C Str.empty=true
 hd:PySem.W.hasDictIn K C=true
 po:PySem.W.plainOver K C=true
 sa:PySem.W.findIn K (.ref C) "__setattr__"=some (some (.builtin "object.__setattr__"))
theorem Cls.get {K:PySem.W.Frag} {C:Addr} (c:Cls K C) (f:Str):PySem.W.plainGet K C f=true:=c.pg
def NoAttr (K:PySem.W.Frag) (C:Addr) (f:Str):Prop:=PySem.W.findIn K (.ref C) f=some none
theorem NoAttr.taker {K:PySem.W.Frag} {C:Addr} {f:Str} (n:NoAttr K C f):PySem.W.takerIn K C f=some none:=by
 unfold PySem.W.takerIn
 rw [show PySem.W.findIn K (.ref C) f=some none from n]
 rfl
structure Meth (K:PySem.W.Frag) (C:Addr) (m:Str) (f:Addr):Prop where
 at_:PySem.W.findIn K (.ref C) m=some (some (.ref f))
 fn:PySem.W.isFn K (.ref f)=true
 kp:PySem.W.keepIn K (.ref f)=true
section
variable {X:Cx} {pins:List (Addr × Obj)} {σ:St} {H:Hp} {s:Shared} {a C dx:Addr} {fs:List (Str × V)} {f:Str} {v:V} {A:Around} {E:Value→Shared→Prop}
theorem getattr_ok {b:Bool} {Q:Value→Shared→Prop} (I:Inv X pins σ H s) (e:H a=some (.ins C dx fs)) (c:Cls X.K C) (n:NoAttr X.K C f) (l:fs.lookup f=some v)
  (h:∀ u s',Inv X pins σ H s'→RelV v u→Q u s'):wpAny (model X.prog X.w) A (getAttr (.ref a) f b) Q E s:=by
 obtain ⟨mA,O,r,_,_,_⟩:=ins_get I.hok e
 obtain ⟨u,hu,ru⟩:=RelO.some_of (v:=v) (o:=mA f) (by rw [← l];exact r f)
 exact get_map I.kIn O (c.get f) c.hd n hu (handed_of ru) (h u _ (I.tok _) ru)
theorem getmeth_ok {m:Str} {g:Addr} {pl:Sem Bool} {Q:Value × List Value→Shared→Prop} (I:Inv X pins σ H s) (e:H a=some (.ins C dx fs)) (c:Cls X.K C) (k:Meth X.K C m g) (l:fs.lookup m=none)
  (h:Q (.ref g,[.ref a]) s):wpAny (model X.prog X.w) A (getMethod (.ref a) m pl) Q E s:=by
 obtain ⟨mA,O,r,_,_,_⟩:=ins_get I.hok e
 have hn:mA m=none:=RelO.none_of (by rw [← l];exact r m)
 exact get_meth I.kIn O (c.get m) k.at_ k.fn hn h
theorem setattr_ok {y:V} {u:Value} {Q:Unit→Shared→Prop} (I:Inv X pins σ H s) (e:H a=some (.ins C dx fs)) (c:Cls X.K C) (n:NoAttr X.K C f) (hl:fs.length < 1000) (ry:RelV y u)
  (h:∀ s',Inv X pins σ (upd H a (.ins C dx (putF f y fs))) s'→Q () s'):wpAny (model X.prog X.w) A (setAttr (.ref a) f u) Q E s:=by
 obtain ⟨mA,O,r,wi,_,ho⟩:=ins_get I.hok e
 have hz:(fs.map (·.1)).length≤sizeLine:=by rw [List.length_map,sizeLine_eq];omega
 refine set_map I.kIn O c.sa c.po n.taker c.hd wi hz fun h' O' sb=>h _ ?_
 have hd:∃ o,h'.get? dx=some o:=let ⟨o,_,_,e',_⟩:=O'.ns;⟨o,e'⟩
 refine I.write (x:=a) (e:=dx) (by rw [e];exact True.intro) (.inr ho) (fun b q hb z=>(sb.2 b hb).trans z) hd ?_
 refine ⟨by rw [upd_ne O.ne];exact ho,?_,O.ne,O'.obj,_,O'.ns,fun g=>?_,fun g hg=>?_⟩
 ·have:=length_putF f y fs;omega
 ·show RelO ((putF f y fs).lookup g) (if g=f then some u else mA g)
  rw [lookup_putF]
  by_cases q:g=f
  ·rw [if_pos q,if_pos q];exact ry
  ·rw [if_neg q,if_neg q];exact r g
 ·by_cases q:g=f
  ·rw [q];exact (keys_putF f y fs).1
  ·refine (keys_putF f y fs).2 g (wi g fun z=>hg ?_)
   show (if g=f then some u else mA g)=none
   rw [if_neg q];exact z
theorem Inv.made (I:Inv X pins σ H s):Inv X pins σ (upd (upd H s.heap.objs.size (.own (s.heap.objs.size+1))) (s.heap.objs.size+1) (.ins C s.heap.objs.size []))
  { s with heap:=(s.heap.push PySem.W.emptyDict).push (PySem.W.instObj C s.heap.objs.size) }:=by
 have e1:(s.heap.push PySem.W.emptyDict).get? s.heap.objs.size=some PySem.W.emptyDict:=Heap.get?_push_size s.heap rfl
 have e2:((s.heap.push PySem.W.emptyDict).push (PySem.W.instObj C s.heap.objs.size)).get? (s.heap.objs.size+1)=some (PySem.W.instObj C s.heap.objs.size):=by
  have:=Heap.get?_push_size (s.heap.push PySem.W.emptyDict) (o:=PySem.W.instObj C s.heap.objs.size) rfl
  rwa [Heap.size_push] at this
 have e3:(s.heap.push PySem.W.emptyDict).Ns s.heap.objs.size (fun _=>none):=⟨PySem.W.emptyDict,#[],_,e1,rfl,(fun e he=>absurd he (by simp)),fun _=>rfl⟩
 have I1:=I.laid (a:=s.heap.objs.size) (o:=.own (s.heap.objs.size+1)) (h':=s.heap.push PySem.W.emptyDict) (t':=s.toks) (fun b u q=>Heap.get?_push_of_some _ q) (Nat.le_refl _) ⟨_,e1⟩
 refine I1.laid (a:=s.heap.objs.size+1) (o:=.ins C s.heap.objs.size []) (t':=s.toks) (fun b u q=>Heap.get?_push_of_some _ q) (Nat.le_of_eq (Heap.size_push _ _)) ?_
 have ne:s.heap.objs.size≠s.heap.objs.size+1:=Nat.ne_of_lt (Nat.lt_succ_self _)
 refine ⟨by rw [upd_ne ne,upd_same],Nat.zero_le _,ne,e2,fun _=>none,(Heap.Ns1.of_empty e3).at fun o q=>Heap.get?_push_of_some _ q,fun _=>True.intro,fun y hy=>absurd rfl hy⟩
theorem attr_of {prog:Program} {w:World} {env:Env} {e:Expr} {f:Str} {pos:Pos} {s:Shared} {Q:Value→Shared→Prop} (hb:attributeBase e f env (eval e env)=eval e env)
  (h:wpAny (model prog w) A (eval e env) (fun o s₁=>wpAny (model prog w) A (getAttr o f true) Q E s₁) E s):wpAny (model prog w) A (eval (.Attribute e f pos) env) Q E s :=
 Attribute_any_ h (by rw [arm_eval_Attribute,hb])
end
def tFld (K:PySem.W.Frag) (ta:TE) (f:Str):TE:=fun σ H Q=>ta σ H fun x H1=>∃ a C dx fs v,x=.ref a∧H1 a=some (.ins C dx fs)∧Cls K C∧NoAttr K C f∧fs.lookup f=some v∧Q v H1
def sFld (K:PySem.W.Frag) (ta tv:TE) (f:Str):TS:=fun D σ H=>tv σ H fun y H1=>ta σ H1 fun x H2=>∃ a C dx fs,x=.ref a∧H2 a=some (.ins C dx fs)∧Cls K C∧NoAttr K C f∧fs.length < 1000 ∧
 D.nx σ (upd H2 a (.ins C dx (putF f y fs)))
section
variable {X:Cx} {o e value:Expr} {f:Str} {pos pos' tpos:Pos} {ta tv:TE}
theorem pe_fld (he:PE X e ta) (hb:attributeBase e f X.env (eval e X.env)=eval e X.env):PE X (.Attribute e f pos) (tFld X.K ta f):=by
 intro pins s σ H Q I h
 refine attr_of hb (thn (he pins s σ H _ I h) fun u s1 ⟨x,H1,I1,rx,a,C,dx,fs,v,ex,ea,c,n,l,q⟩=>?_)
 subst ex
 obtain rfl:u=Value.ref a:=rx
 exact getattr_ok I1 ea c n l fun u' s2 I2 ru=>⟨v,H1,I2,ru,q⟩
theorem ps_fld (ha:PE X o ta) (hv:PE X value tv) (hs:swapsWith value (some (.Attribute o f pos')) pos.line X.env=pure false):PS X (.Assign [.Attribute o f pos'] value pos) (sFld X.K ta tv f):=by
 intro pins s σ H D I h
 refine plainObj_wpAny_Assign_Attribute (thn (hv pins s σ H _ I h) fun u s1 ⟨y,H1,I1,ry,q⟩=>thn (ha pins s1 σ H1 _ I1 q) fun ov s2 ⟨x,H2,I2,rx,a,C,dx,fs,ex,ea,c,n,l,q2⟩=>?_) hs
 subst ex
 obtain rfl:ov=Value.ref a:=rx
 exact setattr_ok I2 ea c n l ry fun s3 I3=>⟨σ,_,I3,q2⟩
end
section
variable {X:Cx} {pins:List (Addr × Obj)} {σ:St} {H:Hp} {s:Shared} {A:Around} {E:Value→Shared→Prop} {Q:Value→Shared→Prop} {c:Value} {b:Bool}
end
end L2
namespace L2
open PySem PySem.Spec PyProof.Rows
structure Room (k:Nat) (A:Around):Prop where
 hd:A.handled=none
 dp:A.depth+3 * k+5 < recursionLimit
 un:A.units+16 * k+200 < cLine
theorem Room.mono {j k:Nat} {A:Around} (r:Room k A) (h:j≤k):Room j A:=⟨r.hd,by have:=r.dp;omega,by have:=r.un;omega⟩
theorem Room.deeper {k:Nat} {A:Around} (r:Room (k+1) A) (env:Env):Room k (A.deeper env) :=
 ⟨r.hd,by have:=r.dp;show A.depth+1+3 * k+5 < _;omega,by have:=r.un;show A.units+3+16 * k+200 < _;omega⟩
theorem make_depth {A:Around} {C:Addr} {us:List Value} {kw:List (Str × Value)}:(A.under (.builtin "type.__call__" ⟨.ref C :: us,kw⟩)).depth=A.depth+1:=by
 first | rfl | simp [Around.under,Code.weight,Code.isCreation,Code.isGuard,Code.isCaller,Code.frames,Code.isFrame,guardIds]
theorem make_units {A:Around} {C:Addr} {us:List Value} {kw:List (Str × Value)}:(A.under (.builtin "type.__call__" ⟨.ref C :: us,kw⟩)).units=A.units+1:=by
 first | rfl | simp [Around.under,Code.cUnits,Code.frames,Code.isFrame]
theorem Room.make {k:Nat} {A:Around} (r:Room (k+1) A) (C:Addr) (us:List Value) (kw:List (Str × Value)):Room k (A.under (.builtin "type.__call__" ⟨.ref C :: us,kw⟩)) :=
 ⟨r.hd,by have:=r.dp;rw [make_depth];omega,by have:=r.un;rw [make_units];omega⟩
theorem Room.depth {k:Nat} {A:Around} (r:Room k A):A.depth < recursionLimit:=by have:=r.dp;omega
theorem Room.units {k:Nat} {A:Around} (r:Room k A):A.units+64 < cLine:=by have:=r.un;omega
def tNil:TA:=fun _ H Q=>Q [] H
def tCons (ta:TE) (tr:TA):TA:=fun σ H Q=>ta σ H fun x H1=>tr σ H1 fun xs H2=>Q (x :: xs) H2
section
variable {X:Cx} {e:Expr} {es:List Expr} {te:TE} {t:TA} {pos:Pos}
theorem pa_nil:PA X [] tNil:=fun _ _ _ _ H Q I h=>Calls.spliced_nil ⟨[],H,I,.nil,h⟩
theorem pa_cons (ha:PE X e te) (hr:PA X es t) (hs:starEach (e :: es) X.env=(false,eval e X.env) :: starEach es X.env:=by rfl):PA X (e :: es) (tCons te t):=by
 intro pos pins s σ H Q I h
 rw [hs]
 show wpAny _ _ (spliced ((false,eval e X.env) :: backTo pos (starEach es X.env))) _ _ s
 refine Calls.spliced_cons (thn (ha pins s σ H _ I h) fun u s1 ⟨x,H1,I1,r1,q1⟩=>?_)
 exact thn (hr pos pins s1 σ H1 _ I1 q1) fun us s2 ⟨xs,H2,I2,r2,q2⟩=>⟨x :: xs,H2,I2,.cons r1 r2,q2⟩
def tTup (t:TA):TE:=fun σ H Q=>t σ H fun xs H1=>xs.length≤sizeLine∧∀ p,H1 p=none→Q (.ref p) (upd H1 p (.tup xs))
def tLst (t:TA):TE:=fun σ H Q=>t σ H fun xs H1=>xs.length≤sizeLine∧∀ p,H1 p=none→Q (.ref p) (upd H1 p (.lst xs))
theorem pe_tup {x1} (h:PA X es t):PE X (.Tuple es x1 pos) (tTup t):=by
 intro pins s σ H Q I hq
 refine wpAny_Tuple_spliced (thn (h pos pins s σ H _ I hq) fun us s1 ⟨xs,H1,I1,r,z,q⟩=>⟨by rw [← r.length];exact z,?_⟩)
 have hf:H1 s1.heap.objs.size=none:=I1.hok.fresh (Nat.le_refl _)
 refine ⟨.ref s1.heap.objs.size,upd H1 s1.heap.objs.size (.tup xs),I1.laid (t':=s1.toks) (fun b u e=>Heap.get?_push_of_some _ e) (Nat.le_refl _) ?_,rfl,q _ hf⟩
 exact ⟨z,us,r,⟨_,Heap.get?_push_size _ rfl,rfl,_,rfl⟩⟩
theorem pe_lst (h:PA X es t):PE X (.List es pos) (tLst t):=by
 intro pins s σ H Q I hq
 refine wpAny_List_spliced (thn (h pos pins s σ H _ I hq) fun us s1 ⟨xs,H1,I1,r,z,q⟩=>⟨by rw [← r.length];exact z,?_⟩)
 have hf:H1 s1.heap.objs.size=none:=I1.hok.fresh (Nat.le_refl _)
 refine ⟨.ref s1.heap.objs.size,upd H1 s1.heap.objs.size (.lst xs),I1.laid (t':=s1.toks) (fun b u e=>Heap.get?_push_of_some _ e) (Nat.le_refl _) ?_,rfl,q _ hf⟩
 exact ⟨z,us,0,r,Heap.get?_push_size _ rfl⟩
end
abbrev Sp:=List V→Hp→VK→XK→Prop
abbrev CXT:=List Env→Hp→Shared→XK→Value→Shared→Prop
structure Env0 (P:Program) (w:World) (K:PySem.W.Frag) (mg:Str→Option Value) (base:Heap) (A:Around) (outer:List Env) (s:Shared) (H:Hp):Prop where
 frames:A.frames=some outer
 mod:Mod K mg base
 bs:∀ b o,base.get? b=some o→s.heap.get? b=some o∧H b=none
 bsz:base.objs.size≤s.heap.objs.size
 funs:s.heap.FunFrames base outer
 frf:∀ b ∈ frs outer,H b=none
 hok:HOk P w H s.heap
 bare:AllBare s.gens
def CE (outer:List Env) (P:Program) (w:World) (H:Hp) (s:Shared) (Q:VK) (u:Value) (s':Shared):Prop :=
 ∃ v H',s'.os=s.os∧AllBare s'.gens∧Un (frs outer) [] H H' s.heap s'.heap∧HOk P w H' s'.heap∧RelV v u∧Q v H'
def CR (CX:CXT) (outer:List Env) (P:Program) (w:World) (H:Hp) (s:Shared) (Q:VK) (E:XK) (r:Result) (s':Shared):Prop :=
 match r with
 | .ok (.ret u)=>CE outer P w H s Q u s'
 | .ok _=>False
 | .error e=>CX outer H s E e s'
structure FnOk (P:Program) (w:World) (K:PySem.W.Frag) (mg:Str→Option Value) (base:Heap) (CX:CXT) (k:Nat) (f:Addr) (fd:FuncData) (ps:List Str) (sp:Sp):Prop where
 len:∀ vs H Q E,sp vs H Q E→vs.length=ps.length
 run:∀ (A:Around) (outer:List Env) (s:Shared) (H:Hp) (args:Args) (us:List Value) (vs:List V) (Q:VK) (E:XK),Room k A→Env0 P w K mg base A outer s H→BindsTo s fd args (ps.zip us)→Vals vs us→sp vs H Q E →
  codeAny (model P w) A (.call (.ref f) args) (CR CX outer P w H s Q E) s
theorem FnOk.mono {P:Program} {w:World} {K:PySem.W.Frag} {mg:Str→Option Value} {base:Heap} {CX:CXT} {j k:Nat} {f:Addr} {fd:FuncData} {ps:List Str} {sp:Sp} (F:FnOk P w K mg base CX j f fd ps sp) (h:j≤k) :
  FnOk P w K mg base CX k f fd ps sp:=⟨F.len,fun A outer s H args us vs Q E hr=>F.run A outer s H args us vs Q E (hr.mono h)⟩
theorem Env0.make {P:Program} {w:World} {K:PySem.W.Frag} {mg:Str→Option Value} {base:Heap} {A:Around} {outer:List Env} {s:Shared} {H:Hp} (e:Env0 P w K mg base A outer s H) (C:Addr) (us:List Value) (kw:List (Str × Value)) :
  Env0 P w K mg base (A.under (.builtin "type.__call__" ⟨.ref C :: us,kw⟩)) outer s H:=⟨by first | exact e.frames | (simpa [Around.under,Code.envs,Code.isFrame,pushEnvs] using e.frames),e.mod,e.bs,e.bsz,e.funs,e.frf,e.hok,e.bare⟩
section
variable {X:Cx} {pins:List (Addr × Obj)} {σ:St} {H:Hp} {s s':Shared}
theorem Inv.env0 (I:Inv X pins σ H s):Env0 X.prog X.w X.K X.mg X.base X.A X.stack s H :=
 ⟨I.ok.frames,I.ok.mod,I.bs,Nat.le_trans I.ok.bsz I.sz,I.stack,I.stkFree,I.hok,I.bare⟩
theorem Inv.after {Q:VK} {u:Value} (I:Inv X pins σ H s) (h:CE X.stack X.prog X.w H s Q u s'):EP X pins σ Q u s':=by
 obtain ⟨v,H',os,bare,un,hok,r,q⟩:=h
 obtain ⟨hh,g,d,t,os'⟩:=s'
 obtain rfl:os'=s.os:=os
 exact ⟨v,H',I.call (h':=hh) (g':=g) (d':=d) (t':=t) (ch:=[]) un hok bare (fun b z=>absurd z (by simp)),r,q⟩
end
def tCall (sp:Sp) (dvs:List V) (E:XK) (t:TA):TE:=fun σ H Q=>t σ H fun vs H1=>sp (vs ++ dvs) H1 Q E
def tMeth (C:Addr) (m:Str) (sp:Sp) (dvs:List V) (E:XK) (ta:TE) (t:TA):TE:=fun σ H Q=>ta σ H fun x H1=>∃ a dx fs,x=.ref a∧H1 a=some (.ins C dx fs)∧fs.lookup m=none ∧
 t σ H1 fun vs H2=>sp (x :: (vs ++ dvs)) H2 Q E
def tMake (C:Addr) (sp:Sp) (dvs:List V) (E:XK) (t:TA):TE:=fun σ H Q=>t σ H fun vs H1=>∀ x dx,H1 x=none→H1 dx=none→dx≠x →
 sp (.ref x :: (vs ++ dvs)) (upd (upd H1 dx (.own x)) x (.ins C dx [])) (fun v H2=>v=.non∧Q (.ref x) H2) E
def Binds (K:PySem.W.Frag) (fd:FuncData) (ps:List Str) (ds:List Value):Prop :=
 ∀ (s:Shared) (us:List Value),K.In s.heap→(us ++ ds).length=ps.length→BindsTo s fd ⟨us,[]⟩ (ps.zip (us ++ ds))
theorem Binds.all {K:PySem.W.Frag} {fd:FuncData} {ps:List Str} (h:∀ us:List Value,us.length=ps.length→bindArgs fd ⟨us,[]⟩=pure (ps.zip us)):Binds K fd ps []:=fun s us _ hl=>by
 rw [List.append_nil] at hl ⊢
 exact .of_eq (h us hl)
def Passes (CX:CXT) (X:Cx) (E:XK):Prop:=∀ (pins:List (Addr × Obj)) (σ:St) (H:Hp) (s:Shared) (e:Value) (s':Shared),Inv X pins σ H s→CX X.stack H s E e s'→X.xe e s'
section
variable {X:Cx} {CX:CXT} {k:Nat} {f C:Addr} {fd:FuncData} {ps:List Str} {sp:Sp} {dvs:List V} {ds:List Value} {E:XK} {x m:Str} {p pos apos:Pos} {e o:Expr} {es:List Expr} {ta:TE} {t:TA}
theorem run_fn {pins:List (Addr × Obj)} {σ:St} {H:Hp} {s:Shared} {Q:VK} {us:List Value} {vs:List V} (F:FnOk X.prog X.w X.K X.mg X.base CX k f fd ps sp) (hr:Room k X.A) (hb:Binds X.K fd ps ds) (hd:Vals dvs ds) (hx:Passes CX X E)
  (I:Inv X pins σ H s) (r:Vals vs us) (h:sp (vs ++ dvs) H Q E):wpAny (model X.prog X.w) X.A (call (.ref f) us) (EP X pins σ Q) X.xe s:=by
 have r2:Vals (vs ++ dvs) (us ++ ds):=r.append hd
 have hl:(us ++ ds).length=ps.length:=by rw [← r2.length];exact F.len _ _ _ _ h
 refine wpAny_call (codeAny_mono (F.run X.A X.stack s H ⟨us,[]⟩ (us ++ ds) (vs ++ dvs) Q E hr I.env0 (hb s us I.kIn hl) r2 h) fun r s' hq=>?_)
 cases r with
 | error e=>exact hx pins σ H s e s' I hq
 | ok fl =>
  cases fl with
  | ret u=>exact I.after hq
  | next=>exact False.elim hq
  | brk=>exact False.elim hq
  | cont=>exact False.elim hq
theorem pe_call (F:FnOk X.prog X.w X.K X.mg X.base CX k f fd ps sp) (hr:Room k X.A) (hg:Gl X x) (hm:X.mg x=some (.ref f)) (hk:PySem.W.keepIn X.K (.ref f)=true) (hb:Binds X.K fd ps ds) (hd:Vals dvs ds) (hx:Passes CX X E)
  (ha:PA X (e :: es) t) (hdb:(x == ("__debug__":Str))=false:=by decide) (he:starEach (e :: es) X.env=(false,eval e X.env) :: starEach es X.env:=by rfl) (hpl:(backTo pos (starEach es X.env)).any (·.1)=false:=by rfl) :
  PE X (.Call (.Name x p) (e :: es) [] pos) (tCall sp dvs E t):=by
 intro pins s σ H Q I h
 refine wpAny_Call_Name_kw (ld_glob I hg hm ?_ hdb)
 refine PySem.W.callWith_K (h₀:=X.base) I.ok.mod.kin hk (thn (ha pos pins s σ H _ I h) fun us s1 ⟨vs,H1,I1,r,q⟩=>⟨I1.kIn,?_⟩) he hpl
 exact run_fn F hr hb hd hx I1 r q
theorem pe_meth {pl:Sem Bool} (he:PE X o ta) (c:Cls X.K C) (hm:Meth X.K C m f) (F:FnOk X.prog X.w X.K X.mg X.base CX k f fd ps sp) (hr:Room k X.A) (hb:Binds X.K fd ps ds) (hd:Vals dvs ds) (hx:Passes CX X E) (ha:PA X (e :: es) t)
  (hst:starEach (e :: es) X.env=(false,eval e X.env) :: starEach es X.env:=by rfl) (hpl:(backTo pos (starEach es X.env)).any (·.1)=false:=by rfl)
  (ht:eval (.Call (.Attribute o m apos) (e :: es) [] pos) X.env=(do
   let ov ← eval o X.env
   standAt apos.atName
   let (f,first) ← holding [ov] (getMethod ov m pl)
   callWith pos f first (backTo pos (starEach (e :: es) X.env)) (backToKw pos (keywordEach [] X.env))):=by rfl) :
  PE X (.Call (.Attribute o m apos) (e :: es) [] pos) (tMeth C m sp dvs E ta t):=by
 intro pins s σ H Q I h
 refine PySem.W.methodCall_KW (pl:=pl) (thn (he pins s σ H _ I h) fun u s1 ⟨x,H1,I1,rx,a,dx,fs,ex,ea,l,q⟩=>?_) ht
 subst ex
 obtain rfl:u=Value.ref a:=rx
 refine getmeth_ok I1 ea c hm l ?_
 refine PySem.W.callWith_K (first:=[.ref a]) (h₀:=X.base) I.ok.mod.kin hm.kp (thn (ha pos pins s1 σ H1 _ I1 q) fun us s2 ⟨vs,H2,I2,r,q2⟩=>⟨I2.kIn,?_⟩) hst hpl
 exact run_fn (us:=.ref a :: us) (vs:=.ref a :: vs) F hr hb hd hx I2 (.cons rfl r) q2
theorem pe_meth0 {pl:Sem Bool} (he:PE X o ta) (c:Cls X.K C) (hm:Meth X.K C m f) (F:FnOk X.prog X.w X.K X.mg X.base CX k f fd ps sp) (hr:Room k X.A) (hb:Binds X.K fd ps ds) (hd:Vals dvs ds) (hx:Passes CX X E)
  (ht:eval (.Call (.Attribute o m apos) [] [] pos) X.env=(do
   let ov ← eval o X.env
   standAt apos.atName
   let (f,first) ← holding [ov] (getMethod ov m pl)
   callWith pos f first (backTo pos (starEach [] X.env)) (backToKw pos (keywordEach [] X.env))):=by rfl) :
  PE X (.Call (.Attribute o m apos) [] [] pos) (tMeth C m sp dvs E ta tNil):=by
 intro pins s σ H Q I h
 refine PySem.W.methodCall_KW (pl:=pl) (thn (he pins s σ H _ I h) fun u s1 ⟨x,H1,I1,rx,a,dx,fs,ex,ea,l,q⟩=>?_) ht
 subst ex
 obtain rfl:u=Value.ref a:=rx
 refine getmeth_ok I1 ea c hm l ?_
 exact PySem.W.callWith_K0 (first:=[.ref a]) I1.kIn hm.kp (run_fn (us:=[.ref a]) (vs:=[.ref a]) F hr hb hd hx I1 (.cons rfl .nil) q)
structure Mk (K:PySem.W.Frag) (C f:Addr):Prop where
 makes:PySem.W.makesIn K C=true
 init:PySem.W.findIn K (.ref C) "__init__"=some (some (.ref f))
 fn:PySem.W.isFn K (.ref f)=true
 kp:PySem.W.keepIn K (.ref C)=true
theorem run_make {pins:List (Addr × Obj)} {σ:St} {H:Hp} {s:Shared} {Q:VK} {us:List Value} {vs:List V} (M:Mk X.K C f) (F:FnOk X.prog X.w X.K X.mg X.base CX k f fd ps sp) (hr:Room (k+1) X.A) (hb:Binds X.K fd ps ds) (hd:Vals dvs ds)
  (hx:Passes CX X E) (I:Inv X pins σ H s) (r:Vals vs us)
  (h:∀ x dx,H x=none→H dx=none→dx≠x→sp (.ref x :: (vs ++ dvs)) (upd (upd H dx (.own x)) x (.ins C dx [])) (fun v H2=>v=.non∧Q (.ref x) H2) E) :
  wpAny (model X.prog X.w) X.A (call (.ref C) us) (EP X pins σ Q) X.xe s:=by
 have hq:=h (s.heap.objs.size+1) s.heap.objs.size (I.hok.fresh (Nat.le_succ _)) (I.hok.fresh (Nat.le_refl _)) (Nat.ne_of_lt (Nat.lt_succ_self _))
 have I2:=Inv.made (C:=C) I
 have r2:Vals (V.ref (s.heap.objs.size+1) :: (vs ++ dvs)) (Value.ref (s.heap.objs.size+1) :: (us ++ ds)):=.cons rfl (r.append hd)
 have hl:(Value.ref (s.heap.objs.size+1) :: us ++ ds).length=ps.length:=by
  have e:=r2.length
  rw [F.len _ _ _ _ hq] at e
  exact e.symm
 refine wpAny_call (make_map (f:=f) I.kIn M.makes M.init (beq_iff_eq.mp M.fn) (codeAny_mono (F.run _ X.stack _ _ ⟨Value.ref (s.heap.objs.size+1) :: us,[]⟩ (Value.ref (s.heap.objs.size+1) :: (us ++ ds)) _ _ E (hr.make C us [])
  (I2.env0.make C us []) (hb _ (Value.ref (s.heap.objs.size+1) :: us) I2.kIn hl) r2 hq) fun r s' hq'=>?_))
 cases r with
 | error e=>exact hx pins σ _ _ e s' I2 hq'
 | ok fl =>
  cases fl with
  | ret u =>
   obtain ⟨v,H',I3,rv,ev,q3⟩:=I2.after hq'
   subst ev
   exact ⟨rv,⟨V.ref (s.heap.objs.size+1),H',I3,rfl,q3⟩⟩
  | next=>exact False.elim hq'
  | brk=>exact False.elim hq'
  | cont=>exact False.elim hq'
theorem pe_make0 (M:Mk X.K C f) (F:FnOk X.prog X.w X.K X.mg X.base CX k f fd ps sp) (hr:Room (k+1) X.A) (hg:Gl X x) (hm:X.mg x=some (.ref C)) (hb:Binds X.K fd ps ds) (hd:Vals dvs ds) (hx:Passes CX X E)
  (hdb:(x == ("__debug__":Str))=false:=by decide):PE X (.Call (.Name x p) [] [] pos) (tMake C sp dvs E tNil):=by
 intro pins s σ H Q I h
 refine wpAny_Call_Name_kw (ld_glob I hg hm ?_ hdb)
 exact PySem.W.callWith_K0 I.kIn M.kp (run_make (us:=[]) M F hr hb hd hx I .nil h)
end
section
variable {X:Cx} {CX:CXT} {k:Nat} {f C:Addr} {fd:FuncData} {ps ks:List Str} {sp:Sp} {E:XK} {x m:Str} {p pos apos kpos:Pos} {e o:Expr} {es:List Expr} {kws:List Keyword} {te ta:TE} {t tk:TA} {nm:Option Str}
variable {g:List Value→List Value→List Value} {gV:List V→List V→List V}
end
structure FnScope (N P:List Str) (sc:Scope):Prop where
 kind:sc.kind=.function
 co:sc.isCoroutine=false
 gen:sc.isGenerator=false
 nd:N.Nodup
 pre:N.take P.length=P
 par:∀ x ∈ P,sc.names.lookup x=some .local∨sc.names.lookup x=some .cell
 nofree:∀ y ∈ sc.names,y.2≠.free
theorem bindL_out {kindOf:Str→Option NameKind} {x:Str}:∀ {binds:List (Str × Value)} {m:Str→Option Value},(∀ v,(x,v) ∉ binds)→bindL kindOf binds m x=m x
 | [],_,_=>rfl
 | (n,v) :: r,m,h=>by
  unfold bindL
  rw [bindL_out fun w hw=>h w (List.mem_cons_of_mem _ hw)]
  split
  ·have:x≠n:=by rintro rfl;exact h v List.mem_cons_self
   simp [this]
  ·rfl
theorem bindC_out {kindOf:Str→Option NameKind} {x:Str}:∀ {binds:List (Str × Value)} {m:Str→Option Value},(∀ v,(x,v) ∉ binds)→bindC kindOf binds m x=m x
 | [],_,_=>rfl
 | (n,v) :: r,m,h=>by
  unfold bindC
  rw [bindC_out fun w hw=>h w (List.mem_cons_of_mem _ hw)]
  split
  ·rfl
  ·have:x≠n:=by rintro rfl;exact h v List.mem_cons_self
   simp [this]
theorem bindL_get {kindOf:Str→Option NameKind} {x:Str} {v:Value}:∀ {P:List Str} {vs:List Value} {i:Nat} {m:Str→Option Value},P.Nodup→P[i]?=some x→vs[i]?=some v→kindOf x=some .local →
  bindL kindOf (P.zip vs) m x=some v
 | [],_,_,_,_,h,_,_=>by simp at h
 | _ :: _,[],_,_,_,_,h,_=>by simp at h
 | p :: P,w :: vs,0,m,nd,h1,h2,hk=>by
  simp at h1 h2;subst h1;subst h2
  show bindL kindOf ((p,w) :: P.zip vs) m p=_
  unfold bindL
  rw [bindL_out fun v hv=>(List.nodup_cons.mp nd).1 (List.of_mem_zip hv).1,if_pos hk]
  simp
 | p :: P,w :: vs,i+1,m,nd,h1,h2,hk=>by
  show bindL kindOf ((p,w) :: P.zip vs) m x=_
  unfold bindL
  exact bindL_get (i:=i) (List.nodup_cons.mp nd).2 (by simpa using h1) (by simpa using h2) hk
theorem bindC_get {kindOf:Str→Option NameKind} {x:Str} {v:Value}:∀ {P:List Str} {vs:List Value} {i:Nat} {m:Str→Option Value},P.Nodup→P[i]?=some x→vs[i]?=some v→kindOf x≠some .local →
  bindC kindOf (P.zip vs) m x=some v
 | [],_,_,_,_,h,_,_=>by simp at h
 | _ :: _,[],_,_,_,_,h,_=>by simp at h
 | p :: P,w :: vs,0,m,nd,h1,h2,hk=>by
  simp at h1 h2;subst h1;subst h2
  show bindC kindOf ((p,w) :: P.zip vs) m p=_
  unfold bindC
  rw [bindC_out fun v hv=>(List.nodup_cons.mp nd).1 (List.of_mem_zip hv).1,if_neg hk]
  simp
 | p :: P,w :: vs,i+1,m,nd,h1,h2,hk=>by
  show bindC kindOf ((p,w) :: P.zip vs) m x=_
  unfold bindC
  exact bindC_get (i:=i) (List.nodup_cons.mp nd).2 (by simpa using h1) (by simpa using h2) hk
def start (N:List Str) (vs:List V):St:=vs.map some ++ List.replicate (N.length - vs.length) none
def cxOf (CX:CXT) (P:Program) (w:World) (K:PySem.W.Frag) (mg:Str→Option Value) (base:Heap) (N:List Str) (qual:Str) (scope:Scope) (f:Addr) (cd:Value) (A:Around) (outer:List Env) (s:Shared) (H:Hp) (E:XK):Cx where
 prog:=P
 w:=w
 K:=K
 mg:=mg
 base:=base
 A:=A.deeper (envOfC qual scope s.heap.objs.size f cd)
 N:=N
 s₀:=s
 H₀:=H
 env:=envOfC qual scope s.heap.objs.size f cd
 outer:=outer
 stack:=envOfC qual scope s.heap.objs.size f cd :: outer
 ex:=[]
 calm:=true
 fn:=fun _=>true
 pn:=[]
 xe:=fun e s'=>wpAny (model P w) (A.deeper (envOfC qual scope s.heap.objs.size f cd)) (leaving (envOfC qual scope s.heap.objs.size f cd) e) (fun _ s''=>CX outer H s E e s'') (fun e' s''=>CX outer H s E e' s'') s'
theorem cell_has {sc:Scope} {n:Nat} {x:Str} (h:sc.names.lookup x=some .cell):∃ c,(cellsFrom n sc.names []).lookup x=some c:=by
 have q:=PySem.W.cellsFrom_some sc.names n [] (.inl h)
 exact Option.isSome_iff_exists.mp q
theorem inv_start {CX:CXT} {P:Program} {w:World} {K:PySem.W.Frag} {mg:Str→Option Value} {base:Heap} {N ps:List Str} {qual:Str} {scope:Scope} {f:Addr} {cd:Value} {A:Around} {outer:List Env} {s s1:Shared} {H:Hp} {E:XK} {us:List Value} {vs:List V}
  (S:FnScope N ps scope) (hd:A.handled=none) (e0:Env0 P w K mg base A outer s H) (hl:vs.length=ps.length) (r:Vals vs us)
  (x:InCallC s s.heap.objs.size (bindL (envOfC qual scope s.heap.objs.size f cd).kindOf (ps.zip us) fun _=>none) (cellsFrom (s.heap.objs.size+1) scope.names []) (bindC (envOfC qual scope s.heap.objs.size f cd).kindOf (ps.zip us) fun _=>none) s1) :
  Inv (cxOf CX P w K mg base N qual scope f cd A outer s H E) [] (start N vs) H s1:=by
 have hpl:ps.length≤N.length:=by have:=congrArg List.length S.pre;rw [List.length_take] at this;omega
 obtain ⟨h1,tk,rfl,hk⟩:=x.done
 have noA:∀ b:Addr,b ∉ (cxOf CX P w K mg base N qual scope f cd A outer s H E).ex:=fun b z=>absurd (show b ∈ ([]:List Addr) from z) (by simp)
 refine ⟨⟨e0.mod,S.kind,rfl,rfl,Nat.le_refl _,fun y z c h1 h2=>?_,fun y hy=>?_,fun y c _ h=>?_,fun _=>hd,Around.frames_deeper e0.frames,.inr ⟨rfl,rfl⟩,fun b z=>absurd z (noA b),e0.bs,e0.bsz,fun b _ _=>noA b,fun b z=>absurd z (noA b),e0.funs,e0.frf⟩,
  rfl,e0.bare,Un.kept hk,⟨_,x.toInCall.ns,fun i y v h1 h2 h3=>?_⟩,fun y c h=>⟨_,x.cell y c h⟩,e0.hok.fresh (Nat.le_refl _),fun y c h=>?_,fun p hp=>absurd (show p ∈ ([]:List (Addr × Obj)) from hp) (by simp),e0.hok.kept hk,?_⟩
 ·exact name_of_addr x.apart (PySem.mem_of_lookup h1) (PySem.mem_of_lookup h2)
 ·have hy:scope.names.lookup y=some .cell∨scope.names.lookup y=some .free:=hy
  rcases hy with hy | hy
  ·exact cell_has hy
  ·exact absurd rfl (S.nofree _ (PySem.mem_of_lookup hy))
 ·exact Nat.le_of_lt (x.above y c (PySem.mem_of_lookup h))
 ·have hi:i < vs.length:=by
   unfold start at h2
   by_cases hi:i < vs.length
   ·exact hi
   ·rw [List.getElem?_append_right (by simpa using hi)] at h2
    rw [List.getElem?_replicate] at h2
    split at h2 <;> cases h2
  have ha:vs[i]?=some v:=by
   unfold start at h2
   rw [List.getElem?_append_left (by simpa using hi),List.getElem?_map] at h2
   cases e:vs[i]? with
   | none=>rw [e] at h2;cases h2
   | some a=>rw [e] at h2;cases h2;rfl
  obtain ⟨u,hu,rv⟩:=r.get ha
  have hp:ps[i]?=some y:=by
   rw [← S.pre,List.getElem?_take_of_lt (by omega)];exact h1
  have ndP:ps.Nodup:=by rw [← S.pre];exact S.nd.sublist (List.take_sublist _ _)
  refine ⟨u,rv,?_⟩
  rcases S.par y (List.mem_of_getElem? hp) with k | k
  ·exact .inl ⟨k,bindL_get ndP hp hu k⟩
  ·obtain ⟨c,e⟩:=cell_has (n:=s.heap.objs.size+1) k
   refine .inr ⟨.inl k,c,e,?_⟩
   have q:=x.cell y c e
   rw [bindC_get ndP hp hu (by show scope.names.lookup y≠_;rw [k];decide)] at q
   exact q
 ·exact e0.hok.fresh (Nat.le_of_lt (x.above y c (PySem.mem_of_lookup h)))
 ·unfold start
  show _=N.length
  rw [List.length_append,List.length_map,List.length_replicate]
  omega
theorem fn_of {CX:CXT} {P:Program} {w:World} {K:PySem.W.Frag} {mg:Str→Option Value} {base:Heap} {k:Nat} {f:Addr} {name qual:Str} {params:Arguments} {body:List Stmt} {scope:Scope} {dV kV doc pm cdv ct oc:Value} {an od:Option Addr}
  {osl:Array (Option Value)} {N ps:List Str} {sp:Sp} (lk:K.lookup f=some ⟨oc,od,.func (PySem.W.fnOf name qual params body scope dV kV doc pm an cdv ct),osl⟩) (hcd:PySem.W.codeIn K cdv qual=true) (S:FnScope N ps scope)
  (len:∀ vs H Q E,sp vs H Q E→vs.length=ps.length)
  (hbody:∀ (A:Around) (outer:List Env) (s:Shared) (H:Hp) (vs:List V) (Q:VK) (E:XK),Room k (A.deeper (envOfC qual scope s.heap.objs.size f cdv))→sp vs H Q E →
   ∃ t,PSs (cxOf CX P w K mg base N qual scope f cdv A outer s H E) body t∧t { nx:=fun _ H'=>Q .non H',rt:=Q } (start N vs) H) :
  FnOk P w K mg base CX (k+1) f (PySem.W.fnOf name qual params body scope dV kV doc pm an cdv ct) ps sp:=by
 refine ⟨len,fun A outer s H args us vs Q E hr e0 hb r hsp=>?_⟩
 have hl:=len _ _ _ _ hsp
 have KX:K.In s.heap:=e0.mod.kin.keeps fun b o e=>(e0.bs b o e).1
 have lim:s.heap.NoLimit:=e0.mod.nolimit.keeps fun b o e=>(e0.bs b o e).1
 have hkind:∀ y ∈ ps.zip us,scope.names.lookup y.1=some .local∨(scope.names.lookup y.1=some .cell∧((cellsFrom (s.heap.objs.size+1) scope.names []).lookup y.1).isSome=true):=fun ⟨n,v⟩ hy=>by
  rcases S.par n (List.of_mem_zip hy).1 with q | q
  ·exact .inl q
  ·exact .inr ⟨q,PySem.W.cellsFrom_some _ _ _ (.inl q)⟩
 refine codeAny_call_function hr.depth (KX _ _ lk) rfl S.co S.gen rfl (PySem.W.codeRec_of KX hcd) (hb _ _ _ _ ?_)
 refine wpAny_newFunctionEnv_cells S.kind hkind fun env he s1 x=>?_
 subst he
 refine ⟨lim.keeps x.toInCall.keep,codeAny_func ?_⟩
 obtain ⟨t,ht,hq⟩:=hbody A outer s H vs Q E (hr.deeper _) hsp
 have I:Inv (cxOf CX P w K mg base N qual scope f cdv A outer s H E) [] (start N vs) H s1:=inv_start S hr.hd e0 hl r x
 refine wpAny_mono (ht [] s1 (start N vs) H _ I hq) (fun fl s' hs=>?_) fun e s' hs=>hs
 have fin:∀ {σ':St} {H':Hp} {v:V} {u:Value},Inv (cxOf CX P w K mg base N qual scope f cdv A outer s H E) [] σ' H' s'→RelV v u→Q v H'→CE outer P w H s Q u s' :=
  fun {σ' H' v u} J rv q=>⟨v,H',J.os,J.bare,J.base,J.hok,rv,q⟩
 cases fl with
 | ret u =>
  obtain ⟨v,σ',H',J,rv,q⟩:=hs
  exact fin J rv q
 | next =>
  obtain ⟨σ',H',J,q⟩:=hs
  exact fin (v:=V.non) (u:=Value.none) J rfl q
 | brk =>
  obtain ⟨_,_,_,q⟩:=hs
  exact False.elim q
 | cont =>
  obtain ⟨_,_,_,q⟩:=hs
  exact False.elim q
end L2
namespace L2
open PySem PySem.Spec PyProof.Rows
section
variable {X:Cx} {x:Str} {p pos:Pos} {e:Expr} {es:List Expr} {t:TA} {id T:String} {r:List V→Hp→VK→Prop}
def tCB (r:List V→Hp→VK→Prop) (t:TA):TE:=fun σ H Q=>t σ H fun vs H1=>r vs H1 Q
theorem pe_callB (hc:CallR X (.builtin id) r) (hg:Gl X x) (hm:X.mg x=none) (hv:bootBuiltins x=some (.builtin id)) (ha:PA X (e :: es) t) (hn:x≠"__name__":=by decide) (hdb:(x == ("__debug__":Str))=false:=by decide)
  (he:starEach (e :: es) X.env=(false,eval e X.env) :: starEach es X.env:=by rfl) (hpl:(backTo pos (starEach es X.env)).any (·.1)=false:=by rfl):PE X (.Call (.Name x p) (e :: es) [] pos) (tCB r t):=by
 intro pins s σ H Q I h
 refine wpAny_Call_Name_kw (ld_blt I hg hm hv ?_ hn hdb)
 exact PyProof.Rows.callWith_builtin1 (thn (ha pos pins s σ H _ I h) fun us s1 ⟨vs,H1,I1,r1,q1⟩=>hc pins s1 σ H1 vs us Q I1 r1 q1) he hpl
theorem pe_callTy (hc:CallR X (.type T) r) (hg:Gl X x) (hm:X.mg x=none) (hv:bootBuiltins x=some (.type T)) (ha:PA X (e :: es) t) (hn:x≠"__name__":=by decide) (hdb:(x == ("__debug__":Str))=false:=by decide)
  (he:starEach (e :: es) X.env=(false,eval e X.env) :: starEach es X.env:=by rfl) (hpl:(backTo pos (starEach es X.env)).any (·.1)=false:=by rfl):PE X (.Call (.Name x p) (e :: es) [] pos) (tCB r t):=by
 intro pins s σ H Q I h
 refine wpAny_Call_Name_kw (ld_blt I hg hm hv ?_ hn hdb)
 exact PyProof.Rows.callWith_type1 (thn (ha pos pins s σ H _ I h) fun us s1 ⟨vs,H1,I1,r1,q1⟩=>hc pins s1 σ H1 vs us Q I1 r1 q1) he hpl
end
end L2
namespace HT
open PySem PyProof.Rows
section
open PySem.SeqAt
open PySem.AutoSeq1 (wpAny_loadPart')
open PySem.MeetsSeq PySem.MeetsSeq2 PySem.MeetsSeq3
end
section
variable {prog:Program} {w:World} {A:Around} {E:Value→Shared→Prop} {s:Shared}
theorem cat_tup {t b:Addr} {vs ws:List Value} {Q:Value→Shared→Prop} (ht:IsTup s.heap t vs.toArray) (hb:IsTup s.heap b ws.toArray) (hv:vs≠[])
  (h1:ws=[]→Q (.ref t) s) (h2:ws≠[]→Q (.ref s.heap.objs.size) { s with heap:=s.heap.push { cls:=.type "tuple",data:=.seq (vs ++ ws).toArray } })
  (hsz:vs.length+ws.length≤sizeLine):wpAny (model prog w) A (binaryOp .Add (.ref t) (.ref b)) Q E s:=by
 obtain ⟨⟨cls,dd,data,sl⟩,ho,hc,n,hd⟩:=id ht
 obtain ⟨⟨cls2,dd2,data2,sl2⟩,ho2,hc2,n2,hd2⟩:=id hb
 simp only at hc hd hc2 hd2
 subst hc hd hc2 hd2
 have e:vs.toArray ++ ws.toArray=(vs ++ ws).toArray:=by simp
 by_cases hw:ws=[]
 ·exact concat_meets ⟨_,ho,rfl⟩ ⟨_,ho2,rfl⟩ noFill_tuple_add seq_tuple_add PySem.F.slot_tuple_add PySem.F.entry_tuple_add (PySem.F.args_tuple_add_2 _ _)
   (tuple_addW1 t b vs.toArray ws.toArray n n2 dd dd2 sl sl2 (by simpa using hv) (by simp [hw])) ⟨ho,ho2,h1 hw⟩
 ·refine concat_meets ⟨_,ho,rfl⟩ ⟨_,ho2,rfl⟩ noFill_tuple_add seq_tuple_add PySem.F.slot_tuple_add PySem.F.entry_tuple_add (PySem.F.args_tuple_add_2 _ _)
   (tuple_addW2 t b vs.toArray ws.toArray n n2 dd dd2 sl sl2 (by simpa using hv) (by simpa using hw) (by rw [List.size_toArray,List.size_toArray];exact hsz)) ⟨ho,ho2,?_⟩
  rw [e]
  exact h2 hw
def sIx (n d:Nat):Option Int→Nat
 | none=>d
 | some v=>if v < 0 then (v+(n:Int)).toNat else min v.toNat n
theorem sIx_none (n d:Nat):sIx n d none=d:=rfl
theorem sIx_nat (n d k:Nat):sIx n d (some (k:Int))=min k n:=by
 show (if (k:Int) < 0 then ((k:Int)+(n:Int)).toNat else min (k:Int).toNat n)=min k n
 rw [if_neg (by omega),Int.toNat_natCast]
theorem sIx_le (n d:Nat) (hd:d≤n) (o:Option Int):sIx n d o≤n:=by
 cases o with
 | none=>exact hd
 | some v =>
  show (if v < 0 then (v+(n:Int)).toNat else min v.toNat n)≤n
  by_cases hv:v < 0
  ·rw [if_pos hv];omega
  ·rw [if_neg hv];exact Nat.min_le_right _ _
theorem clip_eq (v:Int) (n d:Nat):(if v < 0 then max (v+(n:Int)) 0 else min v (n:Int))=((sIx n d (some v):Nat):Int):=by
 show (if v < 0 then max (v+(n:Int)) 0 else min v (n:Int))=(((if v < 0 then (v+(n:Int)).toNat else min v.toNat n):Nat):Int)
 by_cases hv:v < 0
 ·simp only [if_pos hv];omega
 ·simp only [if_neg hv];omega
theorem adjust_gen (lo hi:Option Int) (n:Nat):Builtin.Slice.sliceAdjust lo hi 1 (n:Int)=(((sIx n 0 lo:Nat):Int),((sIx n n hi:Nat):Int)):=by
 have h1:¬ ((1:Int) < 0):=by omega
 unfold Builtin.Slice.sliceAdjust
 simp only [h1,if_false]
 refine Prod.ext ?_ ?_
 ·cases lo with
  | none=>rfl
  | some v=>exact clip_eq v n 0
 ·cases hi with
  | none=>rfl
  | some v=>exact clip_eq v n n
theorem places_gen (i j:Nat):Builtin.Slice.slicePlaces (i:Int) (j:Int) 1=j - i:=by
 unfold Builtin.Slice.slicePlaces
 have h1:(1:Int) > 0:=by omega
 simp only [h1,if_true,Int.ediv_one]
 split <;> omega
theorem slicePart_ {v:Value} {o:Option Int} {Q:Option Int→Shared→Prop} (p:IsPart v o) (h:Q o s):wpAny (model prog w) A (Builtin.Slice.slicePartIndex v) Q E s:=by
 cases p with
 | none=>exact slicePart_none h
 | int i t=>exact slicePart_int h
theorem sliceApplied_gen {sl:Addr} {vl vu:Value} {lo hi:Option Int} {n:Nat} {Q:Int × Int × Nat→Shared→Prop} (hs:s.heap.IsSliceOf sl vl vu .none) (pl:IsPart vl lo) (pu:IsPart vu hi)
  (h:Q (((sIx n 0 lo:Nat):Int),1,sIx n n hi - sIx n 0 lo) s):wpAny (model prog w) A (Builtin.Slice.sliceApplied (.ref sl) (pure (n:Int))) Q E s:=by
 obtain ⟨os,hos,hcs,hds⟩:=id hs
 unfold Builtin.Slice.sliceApplied Builtin.Slice.sliceFields
 refine wpAny_bind (wpAny_bind (wpAny_field hos hds (x:=vl) rfl (wpAny_bind (wpAny_field hos hds (x:=vu) rfl (wpAny_bind (wpAny_field hos hds (x:=.none) rfl (wpAny_pure ?_)))))))
 refine wpAny_bind (slicePart_none ?_)
 show wpAny _ _ (if ((1:Int) == 0)=true then _ else _) _ _ s
 rw [if_neg (by decide)]
 refine wpAny_bind (slicePart_ pl (wpAny_bind (slicePart_ pu (wpAny_bind (wpAny_pure ?_)))))
 show wpAny _ _ (match Builtin.Slice.sliceAdjust lo hi 1 (n:Int) with | (lo,hi)=>pure (lo,(1:Int),Builtin.Slice.slicePlaces lo hi 1)) _ _ s
 rw [adjust_gen lo hi n]
 show wpAny _ _ (pure (((sIx n 0 lo:Nat):Int),(1:Int),Builtin.Slice.slicePlaces ((sIx n 0 lo:Nat):Int) ((sIx n n hi:Nat):Int) 1)) _ _ s
 rw [places_gen]
 exact wpAny_pure h
theorem pick_gen (xs:Array Value) (i k:Nat):((List.range k).filterMap fun (m:Nat)=>xs[((i:Int)+(m:Int) * 1).toNat]?).toArray=((xs.toList.drop i).take k).toArray:=by
 have e:(fun (m:Nat)=>xs[((i:Int)+(m:Int) * 1).toNat]?)=fun m=>xs[i+m]?:=by
  funext m
  have:((i:Int)+(m:Int) * 1).toNat=i+m:=by omega
  rw [this]
 rw [e]
 have:=pick_run xs i k
 rw [List.filterMap_map] at this
 have e2:((fun x=>xs[x]?) ∘ fun x=>i+x)=fun m=>xs[i+m]?:=rfl
 rw [e2] at this
 rw [this]
theorem getItem_tuple_cut {t sl:Addr} {items:Array Value} {vl vu:Value} {lo hi:Option Int} {Q:Value→Shared→Prop} (ht:IsTup s.heap t items) (hs:s.heap.IsSliceOf sl vl vu .none) (pl:IsPart vl lo) (pu:IsPart vu hi)
  (hw:¬ (sIx items.size 0 lo=0∧sIx items.size items.size hi=items.size))
  (h:Q (.ref s.heap.objs.size) { s with heap:=s.heap.push { cls:=.type "tuple",data:=.seq ((items.toList.drop (sIx items.size 0 lo)).take (sIx items.size items.size hi - sIx items.size 0 lo)).toArray } })
  (hsz:items.size≤sizeLine):wpAny (model prog w) A (getItem (.ref t) (.ref sl)) Q E s:=by
 have htake:sizeOk (.seq ((items.toList.drop (sIx items.size 0 lo)).take (sIx items.size items.size hi - sIx items.size 0 lo)).toArray):=by
  show ((items.toList.drop (sIx items.size 0 lo)).take (sIx items.size items.size hi - sIx items.size 0 lo)).toArray.size≤sizeLine
  rw [List.size_toArray,List.length_take,List.length_drop,Array.length_toList]
  omega
 have hj:sIx items.size items.size hi≤items.size:=sIx_le _ _ (Nat.le_refl _) hi
 obtain ⟨os,hos,hcs,hds⟩:=id hs
 have hTs:s.TypeIs (.ref sl) "slice":=⟨os,hos,hcs⟩
 unfold getItem
 try with_reducible refine wpAny_holding ?_
 first | refine wpAny_bind (wpAny_pure ?_) | skip
 refine wpAny_bind (wpAny_sequenceKey ht.typeIs (by decide) ?_)
 refine wpAny_bind (wpAny_callSpecial?_slot (name:=Str.ofString "__getitem__") ht.typeIs PyProof.Rows.slot_tuple_getitem
  (wpAny_call_entry PyProof.Rows.slot_tuple_getitem ht.typeIs entry_tuple_getitem ?_ (args_tuple_getitem _ _)))
 show wpAny _ _ (Builtin.Tuple.tupleItemsOf (.ref t) >>= _) _ _ s
 refine wpAny_bind (tupleItemsOf_ ht ?_)
 refine wpAny_bind (wpAny_typeOf hTs ?_)
 rw [if_pos (by decide)]
 refine wpAny_bind (sliceApplied_gen hs pl pu ?_)
 have hno:¬ ((((sIx items.size 0 lo:Nat):Int) == 0 && (1:Int) == 1 && (sIx items.size items.size hi - sIx items.size 0 lo) == items.size)=true):=by
  intro q
  rw [Bool.and_eq_true,Bool.and_eq_true] at q
  have q1:((sIx items.size 0 lo:Nat):Int)=0:=eq_of_beq q.1.1
  have q2:sIx items.size items.size hi - sIx items.size 0 lo=items.size:=eq_of_beq q.2
  exact hw ⟨by omega,by omega⟩
 show wpAny _ _ (if (((sIx items.size 0 lo:Nat):Int) == 0 && (1:Int) == 1 && (sIx items.size items.size hi - sIx items.size 0 lo) == items.size)=true then _ else _) _ _ s
 rw [if_neg hno,pick_gen]
 first
  | exact wpAny_bind (m:=Builtin.Tuple.tupleExact _) (wpAny_newObj_type (wpAny_pure ⟨_,rfl,wpAny_pure h⟩) htake)
  | exact wpAny_bind (m:=Builtin.Tuple.tupleExact _) (wpAny_newObj_type (wpAny_bind (wpAny_pure (wpAny_pure ⟨_,rfl,wpAny_pure h⟩))) htake)
  | exact wpAny_bind (wpAny_bind (m:=Builtin.Tuple.tupleExact _) (wpAny_newObj_type (wpAny_pure (wpAny_pure ⟨_,rfl,wpAny_pure h⟩)) htake))
  | exact wpAny_bind (wpAny_bind (m:=Builtin.Tuple.tupleExact _) (wpAny_newObj_type (wpAny_pure ⟨_,rfl,wpAny_pure h⟩) htake))
end
end HT
namespace L2
open PySem PySem.Spec PyProof.Rows
abbrev TO:=St→Hp→(Option Int→Hp→Prop)→Prop
def PO (X:Cx) (e:Option Expr) (t:TO):Prop :=
 ∀ (pins:List (Addr × Obj)) (s:Shared) (σ:St) (H:Hp) (Q:Option Int→Hp→Prop),Inv X pins σ H s→t σ H Q →
  wpAny (model X.prog X.w) X.A (evalPart e X.env) (fun u s'=>∃ o H',Inv X pins σ H' s'∧IsPart u o∧Q o H') X.xe s
def tNoPart:TO:=fun _ H Q=>Q none H
def tPart (t:TE):TO:=fun σ H Q=>t σ H fun x H1=>∃ i,x=.int i∧Q (some i) H1
section
variable {X:Cx} {e:Expr} {te:TE} {lo hi:Option Expr} {tl th:TO} {pos p2:Pos}
theorem po_none:PO X none tNoPart:=by
 intro pins s σ H Q I h
 rw [evalPart_none]
 exact wpAny_pure ⟨none,H,I,.none,h⟩
theorem po_some (h:PE X e te):PO X (some e) (tPart te):=by
 intro pins s σ H Q I hw
 rw [evalPart_some]
 refine thn (h pins s σ H _ I hw) fun u s1 ⟨x,H1,I1,r1,q1⟩=>?_
 obtain ⟨i,rfl,q⟩:=q1
 obtain ⟨t,rfl⟩:=r1
 exact ⟨some i,H1,I1,.int i t,q⟩
def SlR (X:Cx) (r:V→Option Int→Option Int→Hp→VK→Prop):Prop :=
 ∀ (pins:List (Addr × Obj)) (s:Shared) (σ:St) (H:Hp) (x:V) (v vl vu:Value) (lo hi:Option Int) (sl:Addr) (Q:VK),Inv X pins σ H s→RelV x v→s.heap.IsSliceOf sl vl vu .none→IsPart vl lo→IsPart vu hi→r x lo hi H Q →
  ∃ T id,typeLookup (.type T) "__getitem__"=pure (some (.builtin id))∧s.TypeIs v T∧wpAny (model X.prog X.w) X.A (getItem v (.ref sl)) (EP X pins σ Q) X.xe s
def tSl (r:V→Option Int→Option Int→Hp→VK→Prop) (te:TE) (tl th:TO):TE:=fun σ H Q=>te σ H fun x H1=>tl σ H1 fun l H2=>th σ H2 fun u H3=>r x l u H3 Q
theorem pe_slice {r:V→Option Int→Option Int→Hp→VK→Prop} (hr:SlR X r) (he:PE X e te) (hl:PO X lo tl) (hu:PO X hi th):PE X (.Subscript e (.Slice lo hi none p2) pos) (tSl r te tl th):=by
 intro pins s σ H Q I h
 refine Subscript_ (thn (he pins s σ H _ I h) fun v s1 ⟨x,H1,I1,r1,q1⟩=>?_)
 refine wpAny_Slice (thn (hl pins s1 σ H1 _ I1 q1) fun vl s2 ⟨l,H2,I2,pl,q2⟩=>thn (hu pins s2 σ H2 _ I2 q2) fun vu s3 ⟨u,H3,I3,pu,q3⟩=>?_)
 rw [evalPart_none]
 refine wpAny_pure ?_
 have I4:Inv X pins σ H3 { s3 with heap:=s3.heap.push { cls:=.type "slice",data:=.fields #[vl,vu,.none] } }:=I3.kept (t':=s3.toks) fun b ob q=>Heap.get?_push_of_some _ q
 obtain ⟨T,id,hT,ht,hg⟩:=hr pins { s3 with heap:=s3.heap.push { cls:=.type "slice",data:=.fields #[vl,vu,.none] } } σ H3 x v vl vu l u s3.heap.objs.size Q I4 r1 (Heap.IsSliceOf.new ..) pl pu q3
 show wpAny (model X.prog X.w) X.A (subscriptTail e (.Slice lo hi none p2) v (.ref s3.heap.objs.size)) (EP X pins σ Q) X.xe { s3 with heap:=s3.heap.push { cls:=.type "slice",data:=.fields #[vl,vu,.none] } }
 exact tail_any (ops:=[.ref s3.heap.objs.size,v]) ht hT hg (by with_unfolding_all rfl)
def cutV (xs:List V) (lo hi:Option Int):List V:=(xs.drop (HT.sIx xs.length 0 lo)).take (HT.sIx xs.length xs.length hi - HT.sIx xs.length 0 lo)
theorem cutV_length (xs:List V) (lo hi:Option Int):(cutV xs lo hi).length≤xs.length:=by
 unfold cutV
 rw [List.length_take,List.length_drop]
 omega
def rSlT (K:PySem.W.Frag):V→Option Int→Option Int→Hp→VK→Prop:=fun x lo hi H Q=>∃ a xs,x=.ref a∧SqT K H a xs ∧
 ¬ (HT.sIx xs.length 0 lo=0∧HT.sIx xs.length xs.length hi=xs.length)∧∀ p,H p=none→Q (.ref p) (upd H p (.tup (cutV xs lo hi)))
theorem sl_tup:SlR X (rSlT X.K):=by
 intro pins s σ H x v vl vu lo hi sl Q I rx hs pl pu h
 obtain ⟨a,xs,rfl,hx,hw,q⟩:=h
 cases rx
 obtain ⟨its,r,ht,hz⟩:=I.tuple hx
 have hlen:its.toArray.size=xs.length:=by rw [List.size_toArray];exact r.length.symm
 refine ⟨"tuple",_,PyProof.Rows.slot_tuple_getitem.lookup,ht.typeIs,?_⟩
 refine HT.getItem_tuple_cut ht hs pl pu (by rw [hlen];exact hw) ?_ (by rw [hlen];exact hz)
 rw [hlen]
 refine ⟨.ref s.heap.objs.size,_,I.laid (t':=s.toks) (o:=.tup (cutV xs lo hi)) (fun b ob q=>Heap.get?_push_of_some _ q) (Nat.le_refl _) ?_,rfl,q _ (I.hok.fresh (Nat.le_refl _))⟩
 exact ⟨Nat.le_trans (cutV_length xs lo hi) hz,_,(r.drop (HT.sIx xs.length 0 lo)).take (HT.sIx xs.length xs.length hi - HT.sIx xs.length 0 lo),IsTup.new _ _⟩
def rCatT (K:PySem.W.Frag):R2:=fun x y H Q=>∃ a b xs ys,x=.ref a∧y=.ref b∧SqT K H a xs∧SqT K H b ys∧xs≠[]∧xs.length+ys.length≤sizeLine ∧
 (ys=[]→Q (.ref a) H)∧(ys≠[]→∀ p,H p=none→Q (.ref p) (upd H p (.tup (xs ++ ys))))
theorem Vals.nil_iff {xs:List V} {us:List Value} (r:Vals xs us):us=[]↔xs=[]:=by
 cases r with
 | nil=>simp
 | cons _ _=>simp
theorem op_catT:OpR X (binaryOp .Add) (rCatT X.K):=by
 intro pins s σ H x y v u Q I rx ry h
 obtain ⟨a,b,xs,ys,rfl,rfl,ha,hb,hx,hz,q1,q2⟩:=h
 cases rx
 cases ry
 obtain ⟨its,r1,p1,_⟩:=I.tuple ha
 obtain ⟨its2,r2,p2,_⟩:=I.tuple hb
 refine HT.cat_tup p1 p2 (fun z=>hx (r1.nil_iff.mp z)) (fun z=>⟨.ref a,H,I,rfl,q1 (r2.nil_iff.mp z)⟩) (fun z=>?_) (by rw [← r1.length,← r2.length];exact hz)
 refine ⟨.ref s.heap.objs.size,_,I.laid (t':=s.toks) (o:=.tup (xs ++ ys)) (fun b ob q=>Heap.get?_push_of_some _ q) (Nat.le_refl _) ?_,rfl,q2 (fun w=>z (r2.nil_iff.mpr w)) _ (I.hok.fresh (Nat.le_refl _))⟩
 exact ⟨by rw [List.length_append];exact hz,_,r1.append r2,IsTup.new _ _⟩
end
end L2
namespace L2
open PySem PySem.Spec PyProof.Rows
def ixN (n:Nat) (i:Int):Option Nat:=if 0≤i then (if i < n then some i.toNat else none) else if -(n:Int)≤i then some (i+n).toNat else none
def atI {α:Type} (xs:List α) (i:Int):Option α:=(ixN xs.length i).bind fun j=>xs[j]?
theorem ixN_seq {n:Nat} {i:Int} {j:Nat} (h:ixN n i=some j):seqIndex? i n=some j∧j < n∧-(n:Int)≤i∧i < n:=by
 unfold ixN at h
 by_cases h0:0≤i
 ·rw [if_pos h0] at h
  by_cases h1:i < n
  ·rw [if_pos h1] at h
   have e:i.toNat=j:=Option.some.inj h
   exact ⟨by rw [seqIndex_of h0 h1,e],by omega,by omega,h1⟩
  ·rw [if_neg h1] at h;cases h
 ·rw [if_neg h0] at h
  by_cases h1:-(n:Int)≤i
  ·rw [if_pos h1] at h
   have e:(i+n).toNat=j:=Option.some.inj h
   exact ⟨by rw [seqIndex_neg (by omega) h1,e],by omega,h1,by omega⟩
  ·rw [if_neg h1] at h;cases h
theorem atI_get {α:Type} {xs:List α} {i:Int} {v:α} (h:atI xs i=some v):∃ j,seqIndex? i xs.length=some j∧xs[j]?=some v∧j < xs.length∧-(xs.length:Int)≤i∧i < xs.length:=by
 unfold atI at h
 cases e:ixN xs.length i with
 | none=>rw [e] at h;cases h
 | some j =>
  rw [e] at h
  obtain ⟨h1,h2,h3,h4⟩:=ixN_seq e
  exact ⟨j,h1,h,h2,h3,h4⟩
theorem atI_nat {α:Type} {xs:List α} {j:Nat} {v:α} (h:xs[j]?=some v):atI xs (j:Int)=some v:=by
 have hj:j < xs.length:=(List.getElem?_eq_some_iff.mp h).1
 have e:ixN xs.length (j:Int)=some j:=by
  unfold ixN
  rw [if_pos (by omega),if_pos (by omega)];simp
 unfold atI;rw [e];exact h
theorem atI_last {α:Type} (xs:List α) (v:α):atI (xs ++ [v]) (-1)=some v:=by
 have hl:(xs ++ [v]).length=xs.length+1:=by simp
 have e:ixN (xs ++ [v]).length (-1)=some xs.length:=by
  unfold ixN
  rw [hl,if_neg (by decide),if_pos (by omega)]
  congr 1
  omega
 unfold atI
 rw [e]
 show (xs ++ [v])[xs.length]?=some v
 simp
def PlainIx (b:Expr):Prop:=∀ o i,subscripted b false o i=operate [o,i] (getItem o i)
def IxR (X:Cx) (r:R2):Prop :=
 ∀ (value slice:Expr) (pins:List (Addr × Obj)) (s:Shared) (σ:St) (H:Hp) (x y:V) (v u:Value) (Q:VK),Inv X pins σ H s→RelV x v→RelV y u→r x y H Q →
  subscripted slice false v u=operate [v,u] (getItem v u)→wpAny (model X.prog X.w) X.A (subscriptTail value slice v u) (EP X pins σ Q) X.xe s
def MtR (X:Cx) (id:String) (r:V→List V→Hp→VK→Prop):Prop :=
 ∀ (pins:List (Addr × Obj)) (s:Shared) (σ:St) (H:Hp) (x:V) (xs:List V) (v:Value) (us:List Value) (Q:VK),Inv X pins σ H s→RelV x v→Vals xs us→r x xs H Q →
  wpAny (model X.prog X.w) X.A (call (.builtin id) (v :: us)) (EP X pins σ Q) X.xe s
section
variable {X:Cx} {a b:Expr} {ta tb:TE} {pos:Pos}
theorem pe_ix {r:R2} (hr:IxR X r) (ha:PE X a ta) (hb:PE X b tb) (hs:PlainIx b):PE X (.Subscript a b pos) (tOp r ta tb):=by
 intro pins s σ H Q I h
 exact Subscript_ (binT ha hb I h fun v u s2 x y H2 I2 rx ry q=>hr a b pins s2 σ H2 x y v u Q I2 rx ry q (hs _ _))
def rIxL (K:PySem.W.Frag):R2:=fun x y H Q=>∃ p xs i v,x=.ref p∧y=.int i∧SqL K H p xs∧atI xs i=some v∧Q v H
def rIxT (K:PySem.W.Frag):R2:=fun x y H Q=>∃ p xs i v,x=.ref p∧y=.int i∧SqT K H p xs∧atI xs i=some v∧Q v H
theorem ix_list:IxR X (rIxL X.K):=by
 intro value slice pins s σ H x y v u Q I rx ry h hs
 obtain ⟨p,xs,i,z,rfl,rfl,hq,he,q⟩:=h
 cases rx
 obtain ⟨t,rfl⟩:=ry
 obtain ⟨its,r,pl,hz⟩:=I.list hq
 obtain ⟨j,h1,h2,h3,h4,h5⟩:=atI_get he
 obtain ⟨w,ew,rw'⟩:=r.get h2
 have hl:=r.length
 have hn:=line63
 have fin:EP X pins σ Q w s:=⟨z,H,I,rw',q⟩
 by_cases h0:0≤i
 ·have hj:i.toNat=j:=by
   rw [seqIndex_of h0 h5] at h1
   exact Option.some.inj h1
  exact item_listR pl.isList h0 (by omega) (by rw [hj];simpa using ew) fin hs
 ·have hj:(i+(its.toArray.size:Int)).toNat=j:=by
   rw [seqIndex_neg (by omega) h4] at h1
   rw [List.size_toArray,← hl]
   exact Option.some.inj h1
  exact subscriptTail_builtinR (x:=w) pl.isList.typeIs slot_list_getitem.lookup
   (wpAny_getItem_list_neg (Q:=fun r s'=>r=w∧EP X pins σ Q r s') pl.isList (by omega) (by rw [List.size_toArray] <;> omega) (by omega) (by rw [hj];simpa using ew) ⟨rfl,fin⟩) hs
theorem ix_tup:IxR X (rIxT X.K):=by
 intro value slice pins s σ H x y v u Q I rx ry h hs
 obtain ⟨p,xs,i,z,rfl,rfl,hq,he,q⟩:=h
 cases rx
 obtain ⟨t,rfl⟩:=ry
 obtain ⟨its,r,pl,hz⟩:=I.tuple hq
 obtain ⟨j,h1,h2,h3,h4,h5⟩:=atI_get he
 obtain ⟨w,ew,rw'⟩:=r.get h2
 have hl:=r.length
 have hn:=line63
 have fin:EP X pins σ Q w s:=⟨z,H,I,rw',q⟩
 exact subscriptTail_builtinR (x:=w) pl.typeIs slot_tuple_getitem.lookup
  (getItem_tuple (j:=j) (Q:=fun r s'=>r=w∧EP X pins σ Q r s') pl (by omega) (by omega) (by rw [List.size_toArray,← hl];exact h1) (by simpa using ew) ⟨rfl,fin⟩) hs
theorem Inv.lst {pins:List (Addr × Obj)} {σ:St} {H:Hp} {s:Shared} {p:Addr} {xs:List V} (I:Inv X pins σ H s) (h:H p=some (.lst xs)) :
  ∃ (its:List Value) (n:Nat),Vals xs its∧s.heap.get? p=some { cls:=.type "list",data:=.seq its.toArray n }∧xs.length≤sizeLine:=by
 obtain ⟨z,its,n,r,e⟩:=I.hok p _ h
 exact ⟨its,n,r,e,z⟩
theorem slice_bounds (lo hi:Option Int) (n:Nat):(sliceBounds lo hi none n).1=((HT.sIx n 0 lo:Nat):Int)∧(sliceBounds lo hi none n).2.1=((HT.sIx n n hi:Nat):Int)∧(sliceBounds lo hi none n).2.2=1:=by
 refine ⟨?_,?_,rfl⟩
 ·cases lo with
  | none=>simp [sliceBounds,HT.sIx]
  | some i =>
   simp only [sliceBounds,HT.sIx,Option.getD_none,show (1:Int) > 0 by decide,if_true]
   by_cases h:i < 0
   ·simp only [h,if_true] <;> omega
   ·simp only [h,if_false] <;> omega
 ·cases hi with
  | none=>simp [sliceBounds,HT.sIx]
  | some i =>
   simp only [sliceBounds,HT.sIx,Option.getD_none,show (1:Int) > 0 by decide,if_true]
   by_cases h:i < 0
   ·simp only [h,if_true] <;> omega
   ·simp only [h,if_false] <;> omega
theorem slicePick_cut (its:List Value) (lo hi:Option Int):slicePick its.toArray lo hi none=((its.drop (HT.sIx its.length 0 lo)).take (HT.sIx its.length its.length hi - HT.sIx its.length 0 lo)).toArray:=by
 obtain ⟨h1,h2,h3⟩:=slice_bounds lo hi its.toArray.size
 unfold slicePick
 rw [h1,h2,h3]
 simp only [sliceRange_one,pick_run,List.size_toArray] <;> rfl
def rSlL (K:PySem.W.Frag):V→Option Int→Option Int→Hp→VK→Prop:=fun x lo hi H Q=>∃ a xs,x=.ref a∧SqL K H a xs∧∀ p,H p=none→Q (.ref p) (upd H p (.lst (cutV xs lo hi)))
theorem sl_list:SlR X (rSlL X.K):=by
 intro pins s σ H x v vl vu lo hi sl Q I rx hs pl pu h
 obtain ⟨a,xs,rfl,hx,q⟩:=h
 cases rx
 obtain ⟨its,r,ht,hz⟩:=I.list hx
 have hlen:=r.length
 refine ⟨"list",_,slot_list_getitem.lookup,ht.isList.typeIs,?_⟩
 refine wpAny_getItem_list_slice ht.isList hs pl pu .none (by simp) ?_ (by rw [List.size_toArray] <;> omega)
 rw [slicePick_cut,← hlen]
 refine ⟨.ref s.heap.objs.size,_,I.laid (t':=s.toks) (o:=.lst (cutV xs lo hi)) (fun b ob q=>Heap.get?_push_of_some _ q) (Nat.le_refl _) ?_,rfl,q _ (I.hok.fresh (Nat.le_refl _))⟩
 exact ⟨Nat.le_trans (cutV_length xs lo hi) hz,_,0,(r.drop (HT.sIx xs.length 0 lo)).take (HT.sIx xs.length xs.length hi - HT.sIx xs.length 0 lo),Heap.get?_push_size _ rfl⟩
def flatV:V→Bool
 | .non=>true
 | .bl _=>true
 | .int _=>true
 | .str _=>true
 | _=>false
def eqV:V→V→Bool
 | .non,.non=>true
 | .bl a,.bl b=>a == b
 | .bl a,.int b=>(if a then 1 else 0) == b
 | .int a,.bl b=>a == (if b then 1 else 0)
 | .int a,.int b=>a == b
 | .str a,.str b=>a == b
 | _,_=>false
theorem eqAt_V {A:Around} {s:Shared} {y x:V} {u v:Value} (ry:RelV y u) (rx:RelV x v) (fy:flatV y=true) (fx:flatV x=true):SeqAt.EqAt A s u v (eqV y x):=by
 cases y with
 | non =>
  cases ry
  cases x with
  | non=>cases rx;exact SeqAt.EqAt.same _
  | bl b=>cases rx;exact SeqAt.EqAt.none_bool b
  | int b=>obtain ⟨t,rfl⟩:=rx;exact SeqAt.EqAt.none_int b t
  | str b=>obtain ⟨t,rfl⟩:=rx;exact SeqAt.EqAt.none_str b t
  | _=>exact absurd (show false=true from fx) Bool.false_ne_true
 | bl a =>
  cases ry
  cases x with
  | non=>cases rx;exact SeqAt.EqAt.bool_none a
  | bl b=>cases rx;exact SeqAt.EqAt.bool_bool a b
  | int b=>obtain ⟨t,rfl⟩:=rx;exact SeqAt.EqAt.bool_int a b t
  | str b=>obtain ⟨t,rfl⟩:=rx;exact SeqAt.EqAt.bool_str a b t
  | _=>exact absurd (show false=true from fx) Bool.false_ne_true
 | int a =>
  obtain ⟨t',rfl⟩:=ry
  cases x with
  | non=>cases rx;exact SeqAt.EqAt.int_none a t'
  | bl b=>cases rx;exact SeqAt.EqAt.int_bool a t' b
  | int b=>obtain ⟨t,rfl⟩:=rx;exact SeqAt.EqAt.int_int a t' b t
  | str b=>obtain ⟨t,rfl⟩:=rx;exact SeqAt.EqAt.int_str a t' b t
  | _=>exact absurd (show false=true from fx) Bool.false_ne_true
 | str a =>
  obtain ⟨t',rfl⟩:=ry
  cases x with
  | non=>cases rx;exact SeqAt.EqAt.str_none a t'
  | bl b=>cases rx;exact SeqAt.EqAt.str_bool a t' b
  | int b=>obtain ⟨t,rfl⟩:=rx;exact SeqAt.EqAt.str_int a t' b t
  | str b=>obtain ⟨t,rfl⟩:=rx;exact SeqAt.EqAt.str_str a t' b t
  | _=>exact absurd (show false=true from fx) Bool.false_ne_true
 | _=>exact absurd (show false=true from fy) Bool.false_ne_true
def eqU (x:V) (u:Value):Bool:=match u with
 | .none=>eqV .non x
 | .bool b=>eqV (.bl b) x
 | .int i _=>eqV (.int i) x
 | .str z _=>eqV (.str z) x
 | _=>false
theorem eqU_of {x y:V} {u:Value} (r:RelV y u) (f:flatV y=true):eqU x u=eqV y x:=by
 cases y with
 | non=>cases r;rfl
 | bl b=>cases r;rfl
 | int i=>obtain ⟨t,rfl⟩:=r;rfl
 | str z=>obtain ⟨t,rfl⟩:=r;rfl
 | _=>exact absurd (show false=true from f) Bool.false_ne_true
theorem any_eqU {x:V}:∀ {xs:List V} {us:List Value},Vals xs us→xs.all flatV=true→us.any (eqU x)=xs.any fun y=>eqV y x
 | _,_,.nil,_=>rfl
 | y :: xs,u :: us,.cons r t,f=>by
  rw [List.all_cons,Bool.and_eq_true] at f
  rw [List.any_cons,List.any_cons,eqU_of r f.1,any_eqU t f.2]
theorem mem_eqAt {A:Around} {s:Shared} {x:V} {v:Value} (rx:RelV x v) (fx:flatV x=true):∀ {xs:List V} {us:List Value},Vals xs us→xs.all flatV=true→∀ u ∈ us,SeqAt.EqAt A s u v (eqU x u)
 | _,_,.nil,_=>fun u hu=>by cases hu
 | y :: xs,u :: us,.cons r t,f=>fun u' hu=>by
  rw [List.all_cons,Bool.and_eq_true] at f
  rcases List.mem_cons.mp hu with rfl | hu
  ·rw [eqU_of r f.1];exact eqAt_V r rx f.1 fx
  ·exact mem_eqAt rx fx t f.2 u' hu
def inV (x:V) (xs:List V):Bool:=xs.any fun y=>eqV y x
def rIn (K:PySem.W.Frag) (neg:Bool):R2:=fun x y H Q=>∃ p xs,y=.ref p∧(SqL K H p xs∨SqT K H p xs)∧flatV x=true∧xs.all flatV=true∧Q (.bl (if neg then !inV x xs else inV x xs)) H
theorem op_in_seq:OpR X (compareOp .In) (rIn X.K false):=by
 intro pins s σ H x y v u Q I rx ry h
 obtain ⟨p,xs,rfl,hq,fx,fs,q⟩:=h
 cases ry
 rcases hq with hq | hq
 ·obtain ⟨its,r,pl,hz⟩:=I.list hq
  refine SeqAt.in_listAt (eqU x) pl.isList (fun w hw=>mem_eqAt rx fx r fs w (by simpa using hw)) ⟨.bl _,H,I,rfl,?_⟩
  rw [show its.toArray.any (eqU x)=its.any (eqU x) by simp,any_eqU r fs]
  exact q
 ·obtain ⟨its,r,pl,hz⟩:=I.tuple hq
  refine SeqAt.in_tupleAt (eqU x) pl (fun w hw=>mem_eqAt rx fx r fs w (by simpa using hw)) ⟨.bl _,H,I,rfl,?_⟩
  rw [show its.toArray.any (eqU x)=its.any (eqU x) by simp,any_eqU r fs]
  exact q
theorem op_notIn_seq:OpR X (compareOp .NotIn) (rIn X.K true):=by
 intro pins s σ H x y v u Q I rx ry h
 obtain ⟨p,xs,rfl,hq,fx,fs,q⟩:=h
 cases ry
 rcases hq with hq | hq
 ·obtain ⟨its,r,pl,hz⟩:=I.list hq
  refine SeqAt.notIn_listAt (eqU x) pl.isList (fun w hw=>mem_eqAt rx fx r fs w (by simpa using hw)) ⟨.bl _,H,I,rfl,?_⟩
  rw [show its.toArray.any (eqU x)=its.any (eqU x) by simp,any_eqU r fs]
  exact q
 ·obtain ⟨its,r,pl,hz⟩:=I.tuple hq
  refine SeqAt.notIn_tupleAt (eqU x) pl (fun w hw=>mem_eqAt rx fx r fs w (by simpa using hw)) ⟨.bl _,H,I,rfl,?_⟩
  rw [show its.toArray.any (eqU x)=its.any (eqU x) by simp,any_eqU r fs]
  exact q
theorem call_len_seq:CallR X (.builtin "len") (fun xs H Q=>∃ p ys,xs=[.ref p]∧(SqL X.K H p ys∨SqT X.K H p ys)∧Q (.int ys.length) H):=by
 intro pins s σ H xs us Q I r h
 obtain ⟨p,ys,rfl,hq,q⟩:=h
 obtain ⟨u,rfl,rx⟩:=vals1 r
 cases rx
 have hn:=line63
 rcases hq with hq | hq
 ·obtain ⟨its,r',pl,hz⟩:=I.list hq
  have hlen:=r'.length
  exact Calls.call_len_list pl.isList (by simp only [List.size_toArray] <;> omega) ⟨.int ys.length,H,I.tok _,⟨s.toks+1,by rw [List.size_toArray,hlen]⟩,q⟩
 ·obtain ⟨its,r',pl,hz⟩:=I.tuple hq
  have hlen:=r'.length
  exact len_tuple pl (by simp only [List.size_toArray] <;> omega) ⟨.int ys.length,H,I.tok _,⟨s.toks+1,by rw [List.size_toArray,hlen]⟩,q⟩
theorem call_len_str:CallR X (.builtin "len") (fun xs H Q=>∃ z,xs=[.str z]∧z.length≤sizeLine∧Q (.int z.length) H):=by
 intro pins s σ H xs us Q I r h
 obtain ⟨z,rfl,hz,q⟩:=h
 obtain ⟨u,rfl,t,rfl⟩:=vals1 r
 have hn:=line63
 exact len_str (by omega) ⟨.int z.length,H,I.tok _,⟨_,rfl⟩,q⟩
theorem call_tuple_of:CallR X (.type "tuple") (fun xs H Q=>∃ p ys,xs=[.ref p]∧((SqL X.K H p ys∧∀ l,H l=none→Q (.ref l) (upd H l (.tup ys)))∨(SqT X.K H p ys∧Q (.ref p) H))):=by
 intro pins s σ H xs us Q I r h
 obtain ⟨p,ys,rfl,h⟩:=h
 obtain ⟨u,rfl,rx⟩:=vals1 r
 cases rx
 rcases h with ⟨hq,q⟩ | ⟨hq,q⟩
 ·obtain ⟨its,r',pl,hz⟩:=I.list hq
  have hlen:=r'.length
  refine call_tuple_list pl.isList (fun h' kp=>?_) (by simp only [List.size_toArray] <;> omega)
  have I1:Inv X pins σ H { s with heap:=h' }:=I.kept (t':=s.toks) kp
  have I2:Inv X pins σ (upd H h'.objs.size (.tup ys)) { s with heap:=h'.push { cls:=.type "tuple",data:=.seq its.toArray } } :=
   I1.laid (t':=s.toks) (fun b o e=>Heap.get?_push_of_some _ e) (Nat.le_refl _) (show ObjOk X.prog X.w _ _ _ (.tup ys) from ⟨hz,its,r',IsTup.new _ _⟩)
  exact ⟨.ref h'.objs.size,_,I2,rfl,q _ (I1.hok.fresh (Nat.le_refl _))⟩
 ·obtain ⟨its,r',pl,hz⟩:=I.tuple hq
  exact call_tuple_same pl ⟨.ref p,H,I,rfl,q⟩
def tyV (K:PySem.W.Frag) (T:String) (x:V) (H:Hp):Prop:=match x with
 | .str _=>T="str"
 | .int _=>T="int"
 | .ref p=>(T="list"∧∃ xs,SqL K H p xs)∨(T="tuple"∧∃ o,K.lookup p=some o∧o.cls=.type "tuple"∧o.dict=none) ∨
   (T="dict"∧((∃ kvs,H p=some (.dK kvs))∨∃ kvs,H p=some (.dT kvs)))∨(T="set"∧∃ S n,H p=some (.set S n))
 | _=>False
theorem tyV_is {pins:List (Addr × Obj)} {σ:St} {H:Hp} {s:Shared} {T:String} {x:V} {v:Value} (I:Inv X pins σ H s) (r:RelV x v) (ty:tyV X.K T x H) :
  s.TypeIs v T∧∀ a,v=.ref a→∃ ob,s.heap.get? a=some ob∧ob.dict=none:=by
 cases x with
 | str z =>
  obtain ⟨t,rfl⟩:=r
  cases (show T="str" from ty)
  exact ⟨typeIs_str s z t,fun _ e=>nomatch e⟩
 | int i =>
  obtain ⟨t,rfl⟩:=r
  cases (show T="int" from ty)
  exact ⟨typeIs_int s i t,fun _ e=>nomatch e⟩
 | ref p =>
  cases r
  rcases ty with ⟨rfl,xs,hq⟩ | ⟨rfl,o,hk,hc,hd⟩ | ⟨rfl,hk⟩ | ⟨rfl,S,n,hk⟩
  ·obtain ⟨its,_,pl,_⟩:=I.list hq
   refine ⟨pl.isList.typeIs,fun a e=>?_⟩
   cases e
   obtain ⟨o,n,e,c,hd,_⟩:=pl
   exact ⟨o,e,hd⟩
  ·refine ⟨⟨o,I.kIn p o hk,hc⟩,fun a e=>?_⟩
   cases e
   exact ⟨o,I.kIn _ o hk,hd⟩
  ·have z:∃ o,s.heap.get? p=some o∧o.ExactDict:=by
    rcases hk with ⟨kvs,hk⟩ | ⟨kvs,hk⟩
    ·obtain ⟨_,_,_,_,o,_,_,e,ex,_⟩:=I.hok p _ hk
     exact ⟨o,e,ex⟩
    ·obtain ⟨_,_,_,_,o,_,_,e,ex,_⟩:=I.hok p _ hk
     exact ⟨o,e,ex⟩
   obtain ⟨o,e,ex⟩:=z
   refine ⟨⟨o,e,ex.1⟩,fun a e2=>?_⟩
   cases e2
   exact ⟨o,e,ex.2.1⟩
  ·obtain ⟨o,_,_,_,e,ex,_⟩:=I.hok p _ hk
   refine ⟨⟨o,e,ex.1⟩,fun a e2=>?_⟩
   cases e2
   exact ⟨o,e,ex.2.1⟩
 | _=>exact False.elim ty
def tBM (K:PySem.W.Frag) (T:String) (r:V→List V→Hp→VK→Prop) (to:TE) (t:TA):TE:=fun σ H Q=>to σ H fun x H1=>tyV K T x H1∧t σ H1 fun xs H2=>r x xs H2 Q
variable {o e:Expr} {es:List Expr} {to:TE} {t:TA} {name:Str} {apos cpos:Pos} {T id:String} {r:V→List V→Hp→VK→Prop}
theorem pe_bm (pa:PlainAttrs T) (slot:Slot T name id) (hty:typeOf (.builtin id)=pure (.type "method_descriptor")) (hm:MtR X id r) (ho:PE X o to) (ha:PA X (e :: es) t)
  (hbase:attributeBase o name X.env (eval o X.env)=eval o X.env:=by rfl)
  (hfew:((backTo cpos (starEach (e :: es) X.env)).all (fun x=>!x.1) && (backToKw cpos (keywordEach [] X.env)).all (fun x=>x.1.isSome)
   && decide ((e :: es).length+([]:List Keyword).length+(if ([]:List Keyword).isEmpty then 0 else 1) < 30))=true:=by rfl)
  (hline:(apos.endLine == cpos.line)=true:=by rfl) (hs:starEach (e :: es) X.env=(false,eval e X.env) :: starEach es X.env:=by rfl) (hplain:(backTo cpos (starEach es X.env)).any (·.1)=false:=by rfl) :
  PE X (.Call (.Attribute o name apos) (e :: es) [] cpos) (tBM X.K T r to t):=by
 intro pins s σ H Q I h
 refine wpAny_Call_method_late hbase hfew hline rfl (thn (ho pins s σ H _ I h) fun v s1 ⟨x,H1,I1,r1,ty,q1⟩=>?_)
 obtain ⟨h1,h2⟩:=tyV_is I1 r1 ty
 refine ⟨T,id,pa,slot,hty,h1,h2,?_⟩
 have hA:=ha cpos pins s1 σ H1 _ I1 q1
 rw [hs] at hA ⊢
 refine Calls.callWith_builtin (by show (false || (backTo cpos (starEach es X.env)).any (·.1))=false;rw [hplain] <;> rfl) (Calls.evalArgs_plain ?_)
 exact thn hA fun us s2 ⟨vs,H2,I2,r2,q2⟩=>hm pins s2 σ H2 x vs v us Q I2 r1 r2 q2
end
end L2
namespace L2
open PySem PySem.Spec PyProof.Rows
def MtM (X:Cx) (id:String) (r:V→List V→Hp→VK→Prop):Prop :=
 ∀ (pins:List (Addr × Obj)) (s:Shared) (σ:St) (H:Hp) (x:V) (xs:List V) (v:Value) (us:List Value) (Q:VK),Inv X pins σ H s→RelV x v→Vals xs us→r x xs H Q →
  wpAny (model X.prog X.w) X.A (call (.builtin id) (v :: us)) (EP X pins σ Q) X.xe s
theorem Vals.one:∀ {x:V} {us:List Value},Vals [x] us→∃ u,us=[u]∧RelV x u
 | _,_,.cons r .nil=>⟨_,rfl,r⟩
theorem Vals.two:∀ {x y:V} {us:List Value},Vals [x,y] us→∃ u v,us=[u,v]∧RelV x u∧RelV y v
 | _,_,_,.cons r (.cons q .nil)=>⟨_,_,rfl,r,q⟩
theorem Vals.eraseIdx:∀ {xs:List V} {us:List Value} (i:Nat),Vals xs us→Vals (xs.eraseIdx i) (us.eraseIdx i)
 | _,_,_,.nil=>.nil
 | _,_,0,.cons _ t=>t
 | _,_,i+1,.cons r t=>.cons r (Vals.eraseIdx i t)
theorem Vals.rep {xs:List V} {us:List Value} (h:Vals xs us):∀ k:Nat,Vals (List.replicate k xs).flatten (List.replicate k us).flatten
 | 0=>.nil
 | k+1=>by
  rw [List.replicate_succ,List.replicate_succ,List.flatten_cons,List.flatten_cons]
  exact Vals.append h (Vals.rep h k)
theorem len_erase {α:Type}:∀ (l:List α) (i:Nat),(l.eraseIdx i).length≤l.length
 | [],_=>Nat.le_refl _
 | _ :: _,0=>Nat.le_succ _
 | _ :: r,i+1=>Nat.succ_le_succ (len_erase r i)
theorem foldl_rep (its:List Value):∀ (k:Nat) (acc:List Value),
  List.foldl (fun x1 x2=>x1 ++ x2) acc.toArray (List.replicate k its.toArray)=(acc ++ (List.replicate k its).flatten).toArray
 | 0,acc=>by simp
 | k+1,acc=>by
  have e:acc.toArray ++ its.toArray=(acc ++ its).toArray:=by simp
  have e2:(acc ++ its) ++ (List.replicate k its).flatten=acc ++ (List.replicate (k+1) its).flatten:=by
   rw [List.replicate_succ,List.flatten_cons,List.append_assoc]
  rw [← e2,← foldl_rep its k (acc ++ its),← e,List.replicate_succ,List.foldl_cons]
section
variable {X:Cx} {pins:List (Addr × Obj)} {σ:St} {H:Hp} {s:Shared} {l b:Addr} {xs ys zs:List V}
theorem Inv.lset {its its':List Value} {n:Nat} {f:Array Value→Array Value} {t':Nat} (I:Inv X pins σ H s) (hH:H l=some (.lst xs))
  (e:s.heap.get? l=some { cls:=.type "list",data:=.seq its.toArray n }) (hf:f its.toArray=its'.toArray) (hv:Vals ys its') (hz:ys.length≤sizeLine) :
  Inv X pins σ (upd H l (.lst ys)) { s with heap:=s.heap.update l (Obj.mapSeq f),toks:=t' }:=by
 have q:=PySem.IsL.update e f
 rw [hf] at q
 refine I.write (x:=l) (e:=l) (by rw [hH];exact trivial) (.inl rfl) (fun b' u hb hu=>(Heap.get?_update_other s.heap (Obj.mapSeq f) (Ne.symm hb)).trans hu) ⟨_,q⟩ ?_
 exact ⟨hz,its',_,hv,q⟩
theorem Inv.lnew {its:List Value} {t':Nat} (I:Inv X pins σ H s) (hv:Vals ys its) (hz:ys.length≤sizeLine) :
  Inv X pins σ (upd H s.heap.objs.size (.lst ys)) { s with heap:=s.heap.push { cls:=.type "list",data:=.seq its.toArray },toks:=t' } :=
 I.laid (fun _ _ q=>Heap.get?_push_of_some _ q) (Nat.le_refl _) ⟨hz,its,0,hv,Heap.get?_push_size _ rfl⟩
theorem Inv.fresh (I:Inv X pins σ H s):H s.heap.objs.size=none:=I.hok.fresh (Nat.le_refl _)
theorem Inv.lstM (I:Inv X pins σ H s) (hH:H l=some (.lst xs)):xs.length≤sizeLine∧∃ (its:List Value) (n:Nat),Vals xs its∧xs.length=its.length∧s.heap.get? l=some { cls:=.type "list",data:=.seq its.toArray n }:=by
 obtain ⟨z,its,n,r,e⟩:=I.hok l _ hH
 exact ⟨z,its,n,r,r.length,e⟩
theorem notLongL {n:Nat} (h:n≤sizeLine):Builtin.List.listTooLong n=false:=by
 unfold Builtin.List.listTooLong
 exact decide_eq_false (by omega)
end
section
variable {X:Cx}
def rAppend:V→List V→Hp→VK→Prop:=fun x vs H Q=>∃ l xs y,x=.ref l∧vs=[y]∧H l=some (.lst xs)∧xs.length < sizeLine∧Q .non (upd H l (.lst (xs ++ [y])))
theorem mt_append:MtM X "list.append" rAppend:=by
 intro pins s σ H x vs v us Q I rx rv h
 obtain ⟨l,xs,y,rfl,rfl,hH,hz,q⟩:=h
 cases rx
 obtain ⟨u,rfl,ru⟩:=rv.one
 obtain ⟨z,its,n,r,hl,e⟩:=I.lstM hH
 refine call_meets F.slot_list_append ⟨_,e,rfl⟩ F.entry_list_append (F.args_list_append_2 _ _) (PySem.list_append l its.toArray n u (by rw [List.size_toArray];omega)) ⟨e,?_⟩
 refine ⟨.non,_,I.lset (its':=its ++ [u]) hH e (by simp) (r.append (.cons ru .nil)) ?_,rfl,q⟩
 rw [List.length_append,List.length_singleton]
 omega
def rPopAt:V→List V→Hp→VK→Prop:=fun x vs H Q=>∃ l xs i k y,x=.ref l∧vs=[.int i]∧H l=some (.lst xs)∧-(2 ^ 63)≤i∧i < 2 ^ 63∧seqIndex? i xs.length=some k∧xs[k]?=some y∧Q y (upd H l (.lst (xs.eraseIdx k)))
theorem mt_popAt:MtM X "list.pop" rPopAt:=by
 intro pins s σ H x vs v us Q I rx rv h
 obtain ⟨l,xs,i,k,y,rfl,rfl,hH,h1,h2,hk,hy,q⟩:=h
 cases rx
 obtain ⟨u,rfl,ru⟩:=rv.one
 obtain ⟨t,rfl⟩:=ru
 obtain ⟨z,its,n,r,hl,e⟩:=I.lstM hH
 obtain ⟨w,hw,rw'⟩:=r.get hy
 refine call_meets F.slot_list_pop ⟨_,e,rfl⟩ F.entry_list_pop (F.args_list_pop_2 _ _)
  (MeetsSeq.list_pop_at l its.toArray n i t k w (fitsIndex_both h1 h2) (by rw [List.size_toArray,← hl];exact hk) (by rw [← Array.getElem?_toList];exact hw) (by rw [List.size_toArray];omega)) ⟨e,?_⟩
 refine ⟨y,_,I.lset (its':=its.eraseIdx k) hH e ?_ (r.eraseIdx k) ?_,rw',q⟩
 ·show its.toArray.eraseIdxIfInBounds k=(its.eraseIdx k).toArray
  rw [List.eraseIdxIfInBounds_toArray]
 ·have:=len_erase xs k
  omega
def rRep:R2:=fun x y H Q=>∃ l k xs,x=.ref l∧y=.int k∧H l=some (.lst xs)∧-(2 ^ 63)≤k∧k < 2 ^ 63∧xs.length * k.toNat≤sizeLine ∧
 ∀ p,H p=none→Q (.ref p) (upd H p (.lst (List.replicate k.toNat xs).flatten))
theorem len_rep {α:Type} (xs:List α) (k:Nat):(List.replicate k xs).flatten.length=k * xs.length:=by
 induction k with
 | zero=>simp
 | succ k ih=>rw [List.replicate_succ,List.flatten_cons,List.length_append,ih,Nat.succ_mul,Nat.add_comm]
theorem op_rep:OpR X (binaryOp .Mult) rRep:=by
 intro pins s σ H x y v u Q I rx ry h
 obtain ⟨l,k,xs,rfl,rfl,hH,h1,h2,hz,q⟩:=h
 cases rx
 obtain ⟨t,rfl⟩:=ry
 obtain ⟨z,its,n,r,hl,e⟩:=I.lstM hH
 have hlen:its.toArray.size * k.toNat≤sizeLine:=by rw [List.size_toArray,← hl];exact hz
 have hcap:¬ its.toArray.size * k.toNat > (2 ^ 63 - 1) / 8:=by
  have:(sizeLine:Nat)≤(2 ^ 63 - 1) / 8:=by decide
  omega
 have hfit:¬ (!Builtin.List.listFitsIndex k)=true:=by
  rw [fitsIndex_both h1 h2]
  exact Bool.false_ne_true
 have hlong:¬ Builtin.List.listTooLong (its.toArray.size * k.toNat)=true:=by
  rw [notLongL hlen]
  exact Bool.false_ne_true
 have hnew:List.foldl (fun x1 x2=>x1 ++ x2) #[] (List.replicate (if its.toArray.isEmpty=true then 0 else k.toNat) its.toArray)=(List.replicate k.toNat its).flatten.toArray:=by
  have f0:∀ m:Nat,List.foldl (fun x1 x2=>x1 ++ x2) #[] (List.replicate m its.toArray)=(List.replicate m its).flatten.toArray:=fun m=>by
   have:=foldl_rep its m []
   rw [List.nil_append] at this
   exact this
  rw [f0]
  cases its with
  | nil=>simp
  | cons a r'=>rw [if_neg (by simp)]
 refine wpAny_binaryOp_repeat_ref (T:="list") (U:="int") (by decide) ⟨_,e,rfl⟩ (fun s'=>typeIs_int s' k t) noFill_list_mul F.fills_int_mul F.slot_int_rmul repeat_list F.slot_int_index.lookup
  (call_meets F.slot_int_rmul (typeIs_int s k t) F.entry_int_rmul (F.args_int_rmul_2 _ _) (int___rmul___int_list k t l its.toArray n)
   ⟨e,rfl,⟨_,e,rfl⟩,call_meets F.slot_list_mul ⟨_,e,rfl⟩ F.entry_list_mul (F.args_list_mul_2 _ _) (AutoListH.list___mul___list_int_3 l its.toArray n k t hfit hcap hlong) ⟨e,?_⟩⟩)
 rw [hnew]
 exact ⟨.ref _,_,I.lnew (t':=s.toks) (r.rep k.toNat) (by rw [len_rep,Nat.mul_comm];exact hz),rfl,q _ I.fresh⟩
end
section
variable {prog:Program} {w:World} {A:Around} {E:Value→Shared→Prop} {s:Shared}
end
section
variable {X:Cx}
end
end L2
namespace Att
open PySem PySem.W PySem.Calls PyProof.Rows
theorem ints_of_wellAll {P:Params} {h:Heap}:∀ (ns:List Int) (vs:List Value),WellAll P h vs (ns.map WData.int)→IntsAre vs ns:=by
 intro ns
 induction ns with
 | nil =>
  intro vs w
  rw [List.map_nil] at w
  cases w
  exact .nil
 | cons n ns ih =>
  intro vs w
  rw [List.map_cons] at w
  cases w with
  | cons a b =>
   cases a
   exact .cons _ _ (ih _ b)
theorem script_of {l:OpenLaw} {n:Nat} (hn:l.most=some n) {P:Params} {h:Heap} {args:List WData} {vals:List Value}
  (hpre:l.row.toRowW.claim.pre args=true) (hwl:WellAll P h vals args) :
  ∃ a vs ns,vals=[Value.ref a]∧args=[WData.list (ns.map WData.int)]∧h.get? a=some { cls:=.type "list",data:=.seq vs.toArray }∧IntsAre vs ns∧ns.length≤n:=by
 have hsh:WShape.hasAll [] args [.list .int]=true:=(pre_splitW hpre).1
 have hc:l.pre.holds [] { args:=args }=true:=(pre_splitW hpre).2
 obtain ⟨d,r,rfl,h1,h2⟩:=hasAllW_cons hsh
 obtain rfl:=hasAllW_nil h2
 obtain ⟨xs,rfl,h3⟩:=hasW_list h1
 obtain ⟨ns,rfl⟩:=items_int h3
 have hlen:ns.length≤n:=by
  unfold OpenLaw.pre at hc
  have h4:(WTm.not (.lt (.lit (.int (n:Int))) (.len (.arg 0)))).holds [] { args:=[.list (ns.map .int)] }=true:=by
   have h4:=(holds_andW hc).1
   rw [hn] at h4
   exact h4
  have h5:=condW_of h4 (w_not (w_lt w_lit (w_len_list (w_arg rfl))))
  rw [List.length_map] at h5
  refine Nat.le_of_not_lt fun q=>?_
  have q':(n:Int) < ((ns.length:Nat):Int):=by omega
  first
   | (rw [decide_eq_true q'] at h5;exact absurd h5 (by decide))
   | (simp at h5;omega)
 cases hwl with
 | cons w1 w2 =>
  cases w2
  cases w1 with
  | list ho hall=>exact ⟨_,_,ns,rfl,rfl,ho,ints_of_wellAll ns _ hall,hlen⟩
theorem post_true (l:OpenLaw) (args:List WData):l.row.toRowW.claim.post args (.bool true) args=true :=
 postW_of (r:=l.row.toRowW) (X:=(true == true))
  (show WShape.has [] (.bool true) .bool=true by first | rfl | decide | simp [WShape.has,WShape.arms,WShape.armsAll])
  (show (WTm.eq .res (.lit (.bool true))).value [] { args:=args,res:=some (.bool true),after:=args }=some (.bool (true == true)) from w_eq_bool (w_res rfl) w_lit) rfl
theorem attach_call {l:OpenLaw} {n:Nat} {q:Program} {loose:List Str} {XP:(Str→Option Value)→Heap→Prop} {YP:World→Heap→Prop} {d:DefRec}
  (hn:l.most=some n) (hdf:d.params.defaults=[])
  (call:∀ (w:World) (s₀ s₁:Shared) (mg mb:Str→Option Value) (fa:Addr) (o:Obj) (pm cd doc:Value) (a:Addr) (vs:List Value) (ns:List Int),
   Ground q loose [] XP w s₀ mg mb s₁.heap→YP w s₁.heap →
   s₁.heap.get? fa=some o→o.data=.func (docDef d.name d.params d.body d.scope pm cd doc)→s₁.heap.CodeRec cd d.name→mg d.name=some (.ref fa) →
   s₁.heap.get? a=some { cls:=.type "list",data:=.seq vs.toArray }→IntsAre vs ns→ns.length≤n→s₁.gens=#[] →
   codeAny (model l.prog w) callerA (.call (.ref fa) ⟨[.ref a],[]⟩) (fun r s'=>r=.ok (.ret (.bool true))∧OldK s₁.heap s'.heap∧s'.os=s₁.os∧AllBare s'.gens) s₁) :
  WalkO q loose XP YP l.row.toRowW d [] (fun f vs=>PySem.call f vs):=by
 intro w s₀ s₁ mg mb G Y fa o pm cd doc dV kV ho hd hcd hD hmg hg args vals as hpre hlay hrd hwl hlo
 obtain rfl:dV=.none:=Dflts.none hD hdf
 obtain rfl:kV=.none:=Dflts.noKw hD
 obtain ⟨a,vs,ns,rfl,rfl,hobj,hints,hlen⟩:=script_of hn hpre hwl
 refine enter_call (codeAny_mono (call w s₀ s₁ mg mb fa o pm cd doc a vs ns G Y ho (fd_plain hd) hcd hmg hobj hints hlen hg) fun r s' hq=>?_)
 obtain ⟨rfl,h2,h3,h4⟩:=hq
 exact ⟨.inl ⟨.bool true,.bool true,[],rfl,fun _=>rfl,.bool true,post_true l _,fun _=>⟨List.Pairwise.nil,fun _ hm=>(nomatch hm)⟩⟩,h2,h3,h4⟩
section
variable {prog:Program} {w:World} {A:Around} {E:Value→Shared→Prop} {s:Shared} {K:Frag}
end
end Att
namespace L2
open PySem PySem.Spec PyProof.Rows
theorem vals_ints:∀ {vs:List Value} {ns:List Int},IntsAre vs ns→Vals (ns.map V.int) vs
 | _,_,.nil=>.nil
 | _,_,.cons n t h=>.cons ⟨t,rfl⟩ (vals_ints h)
def Only (H:Hp):Prop:=∀ b,H b=none∨∃ o xs,H b=some (.frz o (.lst xs))
theorem law_call {P:Program} {w:World} {K:PySem.W.Frag} {mg mb:Str→Option Value} {CX:CXT} {k:Nat} {fa a:Addr} {fd:FuncData} {x:Str} {sp:Sp} {s₁:Shared} {vs:List Value} {ns:List Int}
  (KX:K.In s₁.heap) (hns:s₁.heap.Ns mainGlobals mg) (hb:s₁.heap.Ns builtinsNs mb) (hbb:∀ x:Str,x≠"__name__"→mb x=bootBuiltins x) (hlim:s₁.heap.NoLimit) (hg:s₁.gens=#[])
  (ha:s₁.heap.get? a=some { cls:=.type "list",data:=.seq vs.toArray }) (hi:IntsAre vs ns) (hl:ns.length≤sizeLine) (hr:Room k callerA)
  (F:∀ base:Heap,K.In base→base.Ns mainGlobals mg→FnOk P w K mg base CX k fa fd [x] sp) (hbind:∀ (s:Shared) (u:Value),BindsTo s fd ⟨[u],[]⟩ [(x,u)])
  (hsp:∀ H:Hp,Only H→SqL K H a (ns.map V.int)→sp [.ref a] H (fun v _=>v=.bl true) fun _ _ _=>False)
  (hCX:∀ H e s',CX [] H s₁ (fun _ _ _=>False) e s'→False) :
  codeAny (model P w) callerA (.call (.ref fa) ⟨[.ref a],[]⟩) (fun r s'=>r=.ok (.ret (.bool true))∧OldK s₁.heap s'.heap∧s'.os=s₁.os∧AllBare s'.gens) s₁:=by
 have rv:=vals_ints hi
 have lenV:=hi.length
 have core:∀ H:Hp,Only H→SqL K H a (ns.map V.int)→HOk P w H s₁.heap→(∀ b,H b≠none→b=a)→(H a≠none→K.lookup a=none) →
   codeAny (model P w) callerA (.call (.ref fa) ⟨[.ref a],[]⟩) (fun r s'=>r=.ok (.ret (.bool true))∧OldK s₁.heap s'.heap∧s'.os=s₁.os∧AllBare s'.gens) s₁:=by
  intro H hO hS hok hA hK
  have base_of:∀ {b:Addr} {o:Obj},s₁.heap.get? b=some o→H b=none→(hidT s₁.heap H).get? b=some o:=fun e n=>hidT_get e n
  have noA:∀ {b:Addr} {o:Obj} {es:Array DictEntry} {ep:Nat},s₁.heap.get? b=some o→o.data=.dict es ep→H b=none:=fun {b o es ep} e d=>by
   cases q:H b with
   | none=>rfl
   | some u =>
    have e':b=a:=hA b (by rw [q];simp)
    subst e'
    rw [ha] at e;cases e
    have d':Data.seq vs.toArray _=Data.dict es ep:=d
    cases d'
  have nsK:∀ {b:Addr} {m:Str→Option Value},s₁.heap.Ns b m→(hidT s₁.heap H).Ns b m:=fun {b m} ⟨o,es,ep,e,d,r⟩=>⟨o,es,ep,base_of e (noA e d),d,r⟩
  have hKb:K.In (hidT s₁.heap H):=fun b o e=>base_of (KX b o e) (by
   cases q:H b with
   | none=>rfl
   | some u =>
    have e':b=a:=hA b (by rw [q];simp)
    subst e'
    rw [hK (by rw [q];simp)] at e;cases e)
  have hM:Mod K mg (hidT s₁.heap H):=⟨hKb,nsK hns,⟨mb,nsK hb,hbb⟩,let ⟨mc,h1,h2⟩:=hlim;⟨mc,nsK h1,h2⟩⟩
  have e0:Env0 P w K mg (hidT s₁.heap H) callerA [] s₁ H:=⟨rfl,hM,fun b o e=>of_hidT e,Nat.le_of_eq (hidT_size _ _),trivial,fun b hb=>absurd (show b ∈ ([]:List Addr) from hb) (by simp),hok,.of_eq hg⟩
  refine codeAny_mono ((F _ hKb (nsK hns)).run callerA [] s₁ H ⟨[.ref a],[]⟩ [.ref a] [.ref a] _ _ hr e0 (hbind s₁ (.ref a)) (.cons rfl .nil) (hsp H hO hS)) fun r s' h=>?_
  cases r with
  | error e=>exact (hCX H e s' h).elim
  | ok fl =>
   cases fl with
   | next=>exact False.elim h
   | brk=>exact False.elim h
   | cont=>exact False.elim h
   | ret u =>
    obtain ⟨v,H',os,bare,un,hok',r',q⟩:=h
    have q':v=.bl true:=q
    subst q'
    obtain rfl:u=Value.bool true:=r'
    refine ⟨rfl,OldK.of_keep fun b o e=>?_,os,bare⟩
    cases q:H b with
    | none=>exact un.keep b o e q (by intro z;exact absurd (show b ∈ ([]:List Addr) from z) (by simp)) (by simp)
    | some u =>
     rcases hO b with z | ⟨ob,xs,z⟩
     ·rw [q] at z;cases z
     ·have z2:=un.frzs b ob _ z
      obtain ⟨e1,_⟩:=hok b _ z
      obtain ⟨e2,_⟩:=hok' b _ z2
      rw [e] at e1;cases e1
      exact e2
 cases hk:K.lookup a with
 | some o =>
  have e:=KX a o hk
  rw [ha] at e
  cases e
  refine core (fun _=>none) (fun _=>.inl rfl) (.inr ⟨_,vs.toArray,_,hk,rfl,rfl,rfl,by rw [List.size_toArray,lenV];exact hl,by simpa using rv⟩) (fun b u z=>by have z':(none:Option HO)=some u:=z;cases z') (fun b z=>absurd rfl z) fun z=>absurd rfl z
 | none =>
  refine core (fun b=>if b=a then some (.frz { cls:=.type "list",data:=.seq vs.toArray } (.lst (ns.map V.int))) else none) (fun b=>?_) (.inl (.inr ⟨{ cls:=.type "list",data:=.seq vs.toArray },if_pos rfl⟩)) (fun b u z=>?_) (fun b z=>?_) fun _=>hk
  ·by_cases hb:b=a
   ·exact .inr ⟨_,_,if_pos hb⟩
   ·exact .inl (if_neg hb)
  ·by_cases hb:b=a
   ·have z':=(if_pos hb).symm.trans z
    cases z'
    subst hb
    exact ⟨ha,by rw [List.length_map];exact hl,vs,_,rv,ha⟩
   ·have z':=(if_neg hb).symm.trans z
    cases z'
  ·by_cases hb:b=a
   ·exact hb
   ·exact absurd (if_neg hb) z
end L2
namespace L2
open PySem PySem.Spec PyProof.Rows
abbrev KOf {K:PySem.W.Frag} {h:Heap} (_:K.In h):PySem.W.Frag:=K
theorem walk_of {l:PySem.W.OpenLaw} {n k:Nat} {q:Program} {loose:List Str} {XP:(Str→Option Value)→Heap→Prop} {YP:World→Heap→Prop} {d:DefRec} {K:Params→PySem.W.Frag} {CX:World→CXT} {sp:World→Sp} {x:Str}
  (hn:l.most=some n) (hn2:n≤sizeLine) (hdf:d.params.defaults=[]) (hr:Room k callerA)
  (hY:∀ (w:World) (h:Heap),YP w h→(K w.params).In h)
  (F:∀ (w:World) (mg:Str→Option Value) (fa:Addr) (h:Heap),(K w.params).In h→h.Ns mainGlobals mg→mg d.name=some (.ref fa) →
   ∃ fd:FuncData,(∀ (s:Shared) (u:Value),BindsTo s fd ⟨[u],[]⟩ [(x,u)]) ∧
    ∀ base:Heap,(K w.params).In base→base.Ns mainGlobals mg→FnOk l.prog w (K w.params) mg base (CX w) k fa fd [x] (sp w))
  (hsp:∀ (w:World) (H:Hp) (a:Addr) (ns:List Int),ns.length≤n→Only H→SqL (K w.params) H a (ns.map V.int)→sp w [.ref a] H (fun v _=>v=.bl true) fun _ _ _=>False)
  (hCX:∀ (w:World) (H:Hp) (s:Shared) (e:Value) (s':Shared),CX w [] H s (fun _ _ _=>False) e s'→False) :
  PySem.W.WalkO q loose XP YP l.row.toRowW d [] (fun f vs=>PySem.call f vs):=by
 refine Att.attach_call hn hdf fun w s₀ s₁ mg mb fa o pm cd doc a vs ns G Y ho hd hcd hmg hobj hints hlen hg=>?_
 have KX:=hY w _ Y
 obtain ⟨fd,hb,hF⟩:=F w mg fa _ KX G.T.g hmg
 exact law_call KX G.T.g G.T.b G.T.builtins G.T.nolimit hg hobj hints (Nat.le_trans hlen hn2) hr hF hb (fun H hO hS=>hsp w H a ns hlen hO hS) fun H e s'=>hCX w H s₁ e s'
end L2
namespace L2
open PySem PySem.Spec PyProof.Rows
def defArgs (s:Stmt):Arguments:=match s with
 | .FunctionDef _ a _ _ _ _ _ _ _ _=>a
 | _=>{ posonlyargs:=[],args:=[],vararg:=none,kwonlyargs:=[],kw_defaults:=[],kwarg:=none,defaults:=[] }
def defBody (s:Stmt):List Stmt:=match s with
 | .FunctionDef _ _ b _ _ _ _ _ _ _=>b
 | _=>[]
def defScope (s:Stmt):Scope:=match s with
 | .FunctionDef _ _ _ _ _ _ sc _ _ _=>sc
 | _=>{ kind:=.function,names:=[],isGenerator:=false,isCoroutine:=false }
abbrev E0:XK:=fun _ _ _=>False
structure Fun (K:PySem.W.Frag) (x qual:Str) (st:Stmt) (f:Addr) (fd:FuncData):Prop where
 ex:∃ (oc:Value) (od:Option Addr) (kV doc pm:Value) (an:Option Addr) (cdv ct:Value) (osl:Array (Option Value)),
  fd=PySem.W.fnOf x qual (defArgs st) (defBody st) (defScope st) .none kV doc pm an cdv ct∧K.lookup f=some ⟨oc,od,.func fd,osl⟩∧PySem.W.codeIn K cdv qual=true
 kp:PySem.W.keepIn K (.ref f)=true
section
variable {P:Program} {w:World} {K:PySem.W.Frag} {mg:Str→Option Value} {base:Heap}
theorem Fun.binds {x qual:Str} {st:Stmt} {f:Addr} {fd:FuncData} {ps:List Str} (F:Fun K x qual st f fd)
  (h:∀ (kV doc pm:Value) (an:Option Addr) (cdv ct:Value) (us:List Value),us.length=ps.length→bindArgs (PySem.W.fnOf x qual (defArgs st) (defBody st) (defScope st) .none kV doc pm an cdv ct) ⟨us,[]⟩=pure (ps.zip us)):Binds K fd ps []:=by
 obtain ⟨oc,od,kV,doc,pm,an,cdv,ct,osl,rfl,lk,hcd⟩:=F.ex
 exact .all (h kV doc pm an cdv ct)
theorem fun_mk {x qual:Str} {st:Stmt} {f:Addr} {oc:Value} {od an:Option Addr} {osl:Array (Option Value)} {kV doc pm cdv ct:Value} (l:K.lookup f=some ⟨oc,od,.func (PySem.W.fnOf x qual (defArgs st) (defBody st) (defScope st) .none kV doc pm an cdv ct),osl⟩)
  (c:PySem.W.codeIn K cdv qual=true) (k:PySem.W.keepIn K (.ref f)=true):Fun K x qual st f (PySem.W.fnOf x qual (defArgs st) (defBody st) (defScope st) .none kV doc pm an cdv ct):=⟨⟨oc,od,kV,doc,pm,an,cdv,ct,osl,rfl,l,c⟩,k⟩
end
theorem hu_of {A:Around} {k:Nat} (hr:Room k A):A.units+1 < cLine:=Nat.lt_of_le_of_lt (Nat.add_le_add_left (by decide:1≤64) _) hr.units
section
variable {X:Cx}
theorem pv (i:Nat) {x:Str} {pos:Pos} (hN:X.N[i]?=some x:=by rfl) (hv:Vis X.env.scope x:=by first | exact Or.inl rfl | exact Or.inr (Or.inl rfl) | exact Or.inr (Or.inr rfl)) (hd:(x == ("__debug__":Str))=false:=by decide)
  (hcd:(x == ("__classdict__":Str))=false:=by decide):PE X (.Name x pos) (tVar i):=pe_var hN hv hd hcd
end
theorem iteF {A B:Prop} (h:B):if false=true then A else B:=by
 rw [if_neg Bool.false_ne_true]
 exact h
theorem iteT {A B:Prop} (h:A):if true=true then A else B:=by
 rw [if_pos rfl]
 exact h
theorem ite2 {c A B:Prop} [Decidable c] (h1:c→A) (h2:¬ c→B):if c then A else B:=by
 by_cases h:c
 ·rw [if_pos h]
  exact h1 h
 ·rw [if_neg h]
  exact h2 h
def Same (H H':Hp):Prop:=∀ b o,H b=some o→H' b=some o
theorem Same.refl (H:Hp):Same H H:=fun _ _ h=>h
theorem Same.trans {H H1 H2:Hp} (a:Same H H1) (b:Same H1 H2):Same H H2:=fun c o h=>b c o (a c o h)
theorem Same.free {H H':Hp} (e:Same H H') {l:Addr} (h:H' l=Option.none):H l=Option.none:=by
 cases q:H l with
 | none=>rfl
 | some o =>
  rw [e l o q] at h
  cases h
theorem Same.seq {K:PySem.W.Frag} {H H':Hp} {a:Addr} {xs:List V} (e:Same H H') (h:SqL K H a xs):SqL K H' a xs:=by
 rcases h with (h | ⟨o,h⟩) | h
 ·exact .inl (.inl (e _ _ h))
 ·exact .inl (.inr ⟨o,e _ _ h⟩)
 ·exact .inr h
end L2
namespace L2
open PySem PySem.Spec PyProof.Rows
def clFrom (env:Env):List (Str × NameKind)→List (Str × Addr)→List (Str × Addr)
 | [],acc=>acc
 | (n,k) :: r,acc=>if k == .free then clFrom env r ((n,(env.cells.lookup n).getD 0) :: acc) else clFrom env r acc
theorem closure_eq {env:Env}:∀ (names:List (Str × NameKind)) (acc:List (Str × Addr)) (f:Str × NameKind→List (Str × Addr)→Sem (ForInStep (List (Str × Addr)))),
  (∀ n k cs,f (n,k) cs=if k == .free then (do let c ← cellOf env n;pure (.yield ((n,c) :: cs))) else pure (.yield cs)) →
  (∀ x ∈ names,x.2=.free→∃ c,env.cells.lookup x.1=some c)→(forIn names acc f:Sem _)=pure (clFrom env names acc)
 | [],acc,f,_,_=>rfl
 | (n,k) :: r,acc,f,hf,h=>by
  rw [List.forIn_cons,hf]
  unfold clFrom
  by_cases hk:(k == .free)=true
  ·rw [if_pos hk,if_pos hk]
   obtain ⟨c,e⟩:=h (n,k) List.mem_cons_self (beq_iff_eq.mp hk)
   have e':env.cells.lookup n=some c:=e
   unfold cellOf
   rw [e']
   show (forIn r ((n,c) :: acc) f:Sem _)=_
   exact closure_eq r _ f hf fun x hx=>h x (List.mem_cons_of_mem _ hx)
  ·rw [if_neg hk,if_neg hk]
   show (forIn r acc f:Sem _)=_
   exact closure_eq r _ f hf fun x hx=>h x (List.mem_cons_of_mem _ hx)
theorem closure_of {env:Env} {scope:Scope} (h:∀ x ∈ scope.names,x.2=.free→∃ c,env.cells.lookup x.1=some c):closureFor scope env=pure (clFrom env scope.names []):=by
 unfold closureFor
 have e:=closure_eq scope.names [] (fun x cs=>if x.2 == .free then (do let c ← cellOf env x.1;pure (.yield ((x.1,c) :: cs))) else pure (.yield cs)) (fun _ _ _=>rfl) h
 show (forIn scope.names [] _ >>= fun cs=>pure cs)=_
 exact (bind_pure_comp_id e)
where
 bind_pure_comp_id {α:Type} {a:α} {t:Sem α} (e:t=pure a):(t >>= fun x=>pure x)=pure a:=by rw [e];rfl
theorem clFrom_look {env:Env} {x:Str} {c:Addr}:∀ (names:List (Str × NameKind)) (acc:List (Str × Addr)),(∀ y ∈ names,y.2=.free→∃ c,env.cells.lookup y.1=some c) →
  (∀ c,acc.lookup x=some c→env.cells.lookup x=some c)→(clFrom env names acc).lookup x=some c→env.cells.lookup x=some c
 | [],acc,_,ha,h=>ha c h
 | (n,k) :: r,acc,hn,ha,h=>by
  unfold clFrom at h
  have hr:∀ y ∈ r,y.2=.free→∃ c,env.cells.lookup y.1=some c:=fun y hy=>hn y (List.mem_cons_of_mem _ hy)
  by_cases hk:(k == .free)=true
  ·rw [if_pos hk] at h
   obtain ⟨c',e⟩:=hn (n,k) List.mem_cons_self (beq_iff_eq.mp hk)
   have e':env.cells.lookup n=some c':=e
   rw [e'] at h
   refine clFrom_look r _ hr (fun c2 q=>?_) h
   rw [List.lookup_cons] at q
   cases hb:x == n with
   | true=>rw [hb] at q;cases q;rw [beq_iff_eq.mp hb];exact e'
   | false=>rw [hb] at q;exact ha c2 q
  ·rw [if_neg hk] at h
   exact clFrom_look r _ hr ha h
theorem clFrom_has {env:Env} {x:Str}:∀ (names:List (Str × NameKind)) (acc:List (Str × Addr)),((x,NameKind.free) ∈ names∨∃ c,acc.lookup x=some c)→∃ c,(clFrom env names acc).lookup x=some c
 | [],acc,h=>h.elim (fun z=>by cases z) id
 | (n,k) :: r,acc,h=>by
  unfold clFrom
  by_cases hk:(k == .free)=true
  ·rw [if_pos hk]
   refine clFrom_has r _ ?_
   cases hb:x == n with
   | true=>exact .inr ⟨_,by rw [List.lookup_cons,hb]⟩
   | false =>
    rcases h with h | ⟨c,h⟩
    ·rcases List.mem_cons.mp h with e | e
     ·injection e with e1 _
      rw [e1] at hb;simp at hb
     ·exact .inl e
    ·exact .inr ⟨c,by rw [List.lookup_cons,hb];exact h⟩
  ·rw [if_neg hk]
   refine clFrom_has r _ ?_
   rcases h with h | h
   ·rcases List.mem_cons.mp h with e | e
    ·injection e with _ e2
     rw [← e2] at hk;exact absurd rfl hk
    ·exact .inl e
   ·exact .inr h
theorem cells_look {x:Str} {c:Addr}:∀ (names:List (Str × NameKind)) (n:Nat) (acc:List (Str × Addr)),(cellsFrom n names acc).lookup x=some c→acc.lookup x=some c∨(n≤c∧(x,NameKind.cell) ∈ names)
 | [],_,_,h=>.inl h
 | (y,k) :: r,n,acc,h=>by
  unfold cellsFrom at h
  by_cases hk:(k == .cell)=true
  ·rw [if_pos hk] at h
   rcases cells_look r _ _ h with q | ⟨q1,q2⟩
   ·rw [List.lookup_cons] at q
    cases hb:x == y with
    | true=>rw [hb] at q;cases q;exact .inr ⟨Nat.le_refl _,by rw [beq_iff_eq.mp hb,beq_iff_eq.mp hk];exact List.mem_cons_self⟩
    | false=>rw [hb] at q;exact .inl q
   ·exact .inr ⟨by omega,List.mem_cons_of_mem _ q2⟩
  ·rw [if_neg hk] at h
   rcases cells_look r _ _ h with q | ⟨q1,q2⟩
   ·exact .inl q
   ·exact .inr ⟨q1,List.mem_cons_of_mem _ q2⟩
theorem cells_own {x:Str} {lo:Nat}:∀ (names:List (Str × NameKind)) (n:Nat) (acc:List (Str × Addr)),lo≤n→((x,NameKind.cell) ∈ names∨∃ c,acc.lookup x=some c∧lo≤c)→∃ c,(cellsFrom n names acc).lookup x=some c∧lo≤c
 | [],_,_,_,h=>h.elim (fun z=>by cases z) id
 | (y,k) :: r,n,acc,hn,h=>by
  unfold cellsFrom
  by_cases hk:(k == .cell)=true
  ·rw [if_pos hk]
   refine cells_own r _ _ (by omega) ?_
   cases hb:x == y with
   | true=>exact .inr ⟨n,by rw [List.lookup_cons,hb],hn⟩
   | false =>
    rcases h with h | ⟨c,h,hc⟩
    ·rcases List.mem_cons.mp h with e | e
     ·injection e with e1 _
      rw [e1] at hb;simp at hb
     ·exact .inl e
    ·exact .inr ⟨c,by rw [List.lookup_cons,hb];exact h,hc⟩
  ·rw [if_neg hk]
   refine cells_own r _ _ hn ?_
   rcases h with h | h
   ·rcases List.mem_cons.mp h with e | e
    ·injection e with _ e2
     rw [← e2] at hk;exact absurd rfl hk
    ·exact .inl e
   ·exact .inr h
theorem cells_keep {x:Str}:∀ (names:List (Str × NameKind)) (n:Nat) (acc:List (Str × Addr)),(x,NameKind.cell) ∉ names→(cellsFrom n names acc).lookup x=acc.lookup x
 | [],_,_,_=>rfl
 | (y,k) :: r,n,acc,h=>by
  unfold cellsFrom
  have hr:(x,NameKind.cell) ∉ r:=fun z=>h (List.mem_cons_of_mem _ z)
  by_cases hk:(k == .cell)=true
  ·rw [if_pos hk,cells_keep r _ _ hr,List.lookup_cons]
   cases hb:x == y with
   | true=>exact absurd (by rw [beq_iff_eq.mp hb,beq_iff_eq.mp hk];exact List.mem_cons_self) h
   | false=>rfl
  ·rw [if_neg hk];exact cells_keep r _ _ hr
theorem cells_inj:∀ (names:List (Str × NameKind)) (n:Nat) (acc:List (Str × Addr)),(∀ x c,acc.lookup x=some c→c < n)→(∀ x y c,acc.lookup x=some c→acc.lookup y=some c→x=y) →
  ∀ x y c,(cellsFrom n names acc).lookup x=some c→(cellsFrom n names acc).lookup y=some c→x=y
 | [],_,_,_,h=>h
 | (z,k) :: r,n,acc,hlt,h=>by
  unfold cellsFrom
  by_cases hk:(k == .cell)=true
  ·rw [if_pos hk]
   refine cells_inj r (n+1) _ (fun x c e=>?_) fun x y c e1 e2=>?_
   ·rw [List.lookup_cons] at e
    cases hb:x == z with
    | true=>rw [hb] at e;cases e;exact Nat.lt_succ_self _
    | false=>rw [hb] at e;exact Nat.lt_succ_of_lt (hlt x c e)
   ·rw [List.lookup_cons] at e1 e2
    cases hb:x == z with
    | true =>
     rw [hb] at e1;cases e1
     cases hb2:y == z with
     | true=>rw [beq_iff_eq.mp hb,beq_iff_eq.mp hb2]
     | false=>rw [hb2] at e2;exact absurd (hlt y _ e2) (Nat.lt_irrefl _)
    | false =>
     rw [hb] at e1
     cases hb2:y == z with
     | true=>rw [hb2] at e2;cases e2;exact absurd (hlt x _ e1) (Nat.lt_irrefl _)
     | false=>rw [hb2] at e2;exact h x y c e1 e2
  ·rw [if_neg hk];exact cells_inj r n _ hlt h
theorem push_cells_is {x:Str} {c:Addr}:∀ (names:List (Str × NameKind)) (h:Heap) (acc:List (Str × Addr)),(∀ y c,acc.lookup y=some c→∃ v,h.IsCell c v) →
  (cellsFrom h.objs.size names acc).lookup x=some c→∃ v,(pushCells h names).IsCell c v
 | [],h,acc,ha,e=>ha x c e
 | (y,k) :: r,h,acc,ha,e=>by
  unfold cellsFrom at e
  unfold pushCells
  by_cases hk:(k == .cell)=true
  ·rw [if_pos hk] at e ⊢
   rw [show h.objs.size+1=(h.push { cls:=.type "cell",data:=.cell none }).objs.size from (Heap.size_push ..).symm] at e
   refine push_cells_is r _ _ (fun z c' q=>?_) e
   rw [List.lookup_cons] at q
   cases hb:z == y with
   | true=>rw [hb] at q;cases q;exact ⟨none,_,Heap.get?_push_size _ rfl,rfl⟩
   | false =>
    rw [hb] at q
    obtain ⟨v,w⟩:=ha z c' q
    exact ⟨v,w.keeps fun b o e=>Heap.get?_push_of_some _ e⟩
  ·rw [if_neg hk] at e ⊢
   exact push_cells_is r _ _ ha e
section
variable {M:Model} {A:Around} {E:Value→Shared→Prop} {s:Shared}
theorem newEnv_comp {scope:Scope} {globals:Addr} {cl:List (Str × Addr)} {qual:Str} {env:Env} {Q:Env→Shared→Prop}
  (h:Q { scope,locals:=s.heap.objs.size,globals,cells:=cellsFrom (s.heap.objs.size+1) scope.names cl,qual,func:=none,code:=env.code,frame:=env.frame,builtins:=env.builtins }
   { s with heap:=pushCells (s.heap.push { cls:=.type "dict",data:=.dict #[] }) scope.names }) :
  wpAny M A (newFunctionEnv scope globals cl [] qual none .none (some env)) Q E s:=by
 simp only [newFunctionEnv,Option.isSome_some,if_true]
 refine wpAny_bind (wpAny_alloc ?_)
 refine wpAny_bind (wpAny_layCells _ (fun name kind cells=>by cases hkc:kind == NameKind.cell <;> simp [hkc]) _ _ _ _ ?_)
 rw [show ({ s with heap:=s.heap.push { cls:=.type "dict",data:=.dict #[] } }:Shared).heap.objs.size=s.heap.objs.size+1 from Heap.size_push ..]
 refine wpAny_bind ?_
 rw [List.forIn_nil]
 exact wpAny_pure (wpAny_pure h)
end
section
variable {prog:Program} {w:World} {A:Around} {R:Result→Shared→Prop} {s:Shared}
theorem compLoop_any {elt target iter:Expr} {ifs:List Expr} {scope:Scope} {pos:Pos} {it acc:Value} {env:Env} (I:Nat→Shared→Prop)
  (turn:∀ n s,I n s→wpAny (model prog w) A (pyNext it) (fun r s₁=>match r with
   | none=>R (.ok .next) s₁
   | some v=>wpAny (model prog w) A (letOwnedTupleGo target it v) (fun _ s₁'=>wpAny (model prog w) A (assign target env v) (fun _ s₂ =>
     wpAny (model prog w) A (forIn ifs true fun c r=>if r=true then do let ok ← isTrue c env (eval c env);pure (ForInStep.yield ok) else pure (ForInStep.yield r)) (fun ok s₃ =>
      if ok=true then wpAny (model prog w) A (eval elt env) (fun x s₄ =>
       wpAny (model prog w) A (call (.builtin "list.append") [acc,x]) (fun _ s₅=>∃ m,m < n∧I m s₅) (fun _ _=>False) s₄) (fun _ _=>False) s₃
      else ∃ m,m < n∧I m s₃) (fun _ _=>False) s₂) (fun _ _=>False) s₁') (fun _ _=>False) s₁) (fun _ _=>False) s)
  (n:Nat) (h:I n s) :
  codeAny (model prog w) A (.compLoop (.ListComp elt [⟨target,iter,ifs,0⟩] scope pos) 0 it acc env) R s:=by
 refine codeAny_loop rfl I (fun n s hI=>?_) n h
 show wpAny _ A ((compTurn (.ListComp elt [⟨target,iter,ifs,0⟩] scope pos) 0 it acc env).onRaise (fun x=>do noteFrame x env;theTreesLotGoes x)) _ _ s
 refine wpAny_noted ?_
 rw [compTurn_list]
 refine wpAny_bind (wpAny_standAt (wpAny_bind (wpAny_mono (turn n s hI) (fun r s₁ h₁=>?_) fun _ _ h'=>h'.elim)))
 cases r with
 | none=>exact wpAny_pure h₁
 | some v =>
  refine wpAny_bind (wpAny_mono h₁ (fun _ s₁' h₁'=>?_) fun _ _ h'=>h'.elim)
  refine wpAny_bind (wpAny_mono h₁' (fun _ s₂ h₂=>wpAny_bind (wpAny_mono h₂ (fun ok s₃ h₃=>?_) fun _ _ h'=>h'.elim)) fun _ _ h'=>h'.elim)
  cases ok with
  | false=>exact wpAny_pure ⟨rfl,h₃⟩
  | true =>
   exact wpAny_bind (wpAny_bind (wpAny_mono h₃ (fun x s₄ h₄=>wpAny_bind (wpAny_mono h₄ (fun _ s₅ h₅=>wpAny_pure (wpAny_pure ⟨rfl,h₅⟩)) fun _ _ h'=>h'.elim)) fun _ _ h'=>h'.elim))
end
end L2
namespace L2
open PySem PySem.Spec PyProof.Rows
def cxC (X:Cx) (Nc:List Str) (scope:Scope) (C:Addr) (fp:List Addr) (s:Shared) (H:Hp):Cx where
 prog:=X.prog
 w:=X.w
 K:=X.K
 mg:=X.mg
 base:=X.base
 A:=X.A
 N:=Nc
 s₀:=s
 H₀:=H
 env:=compEnvC scope (cellsFrom (C+1) scope.names (clFrom X.env scope.names [])) C X.env
 outer:=X.stack
 stack:=X.stack
 ex:=fp
 fn:=fun x=>scope.names.contains (x,NameKind.cell)
 calm:=X.calm
 pn:=[]
 xe:=fun _ _=>False
structure CompScope (X:Cx) (Nc:List Str) (ix:List (Option Nat)) (scope:Scope):Prop where
 kind:scope.kind=.function
 nd:Nc.Nodup
 len:ix.length=Nc.length
 loc:∀ x ∈ scope.names,x.2=.local→scope.names.lookup x.1=some .local
 free:∀ x ∈ scope.names,x.2=.free→X.env.kindOf x.1=some .cell∨X.env.kindOf x.1=some .free
 once:∀ x,(x,NameKind.free) ∈ scope.names→(x,NameKind.cell) ∉ scope.names
 out:∀ (i j:Nat) (x:Str),ix[i]?=some (some j)→Nc[i]?=some x→X.N[j]?=some x∧scope.names.lookup x=some .free
def startC (ix:List (Option Nat)) (σ:St):St:=ix.map fun o=>o.bind fun j=>(σ[j]?).bind id
theorem relabel_look {env:Env} {x:Str}:∀ {names:List (Str × NameKind)} {k:NameKind},names.lookup x=some k →
  (names.map fun (n,k)=>if (k == NameKind.free && env.scope.kind == .function && env.kindOf n == some .cell) then (n,NameKind.cell) else (n,k)).lookup x =
   some (if (k == NameKind.free && env.scope.kind == .function && env.kindOf x == some .cell) then NameKind.cell else k)
 | [],_,h=>by simp at h
 | (n,k') :: r,k,h=>by
  show List.lookup x ((if (k' == NameKind.free && env.scope.kind == .function && env.kindOf n == some .cell)=true then (n,NameKind.cell) else (n,k')) :: _)=_
  cases hx:x == n with
  | true =>
   simp only [List.lookup_cons,hx] at h
   cases h
   have e:=beq_iff_eq.mp hx
   subst e
   split <;> simp [List.lookup_cons]
  | false =>
   simp only [List.lookup_cons,hx] at h
   have ih:=relabel_look (env:=env) (names:=r) h
   split <;> (simp only [List.lookup_cons,hx];exact ih)
theorem relabel_none {env:Env} {x:Str}:∀ {names:List (Str × NameKind)},names.lookup x=none →
  (names.map fun (n,k)=>if (k == NameKind.free && env.scope.kind == .function && env.kindOf n == some .cell) then (n,NameKind.cell) else (n,k)).lookup x=none
 | [],_=>rfl
 | (n,k') :: r,h=>by
  show List.lookup x ((if (k' == NameKind.free && env.scope.kind == .function && env.kindOf n == some .cell)=true then (n,NameKind.cell) else (n,k')) :: _)=_
  cases hx:x == n with
  | true=>simp only [List.lookup_cons,hx] at h;cases h
  | false =>
   simp only [List.lookup_cons,hx] at h
   have ih:=relabel_none (env:=env) (names:=r) h
   split <;> (simp only [List.lookup_cons,hx];exact ih)
section
variable {X:Cx} {pins:List (Addr × Obj)} {σ:St} {H:Hp} {s:Shared} {Nc:List Str} {ix:List (Option Nat)} {scope:Scope} {fp:List Addr}
theorem CompScope.cells (S:CompScope X Nc ix scope) (I:Inv X pins σ H s):∀ x ∈ scope.names,x.2=.free→∃ c,X.env.cells.lookup x.1=some c:=fun x hx hf=>I.ok.has x.1 (S.free x hx hf)
theorem cell_from (S:CompScope X Nc ix scope) (I:Inv X pins σ H s) {C:Addr} {x:Str} {c:Addr} (e:(cellsFrom (C+1) scope.names (clFrom X.env scope.names [])).lookup x=some c) :
  X.env.cells.lookup x=some c∨(C+1≤c∧(x,NameKind.cell) ∈ scope.names):=by
 rcases cells_look _ _ _ e with q | q
 ·exact .inl (clFrom_look _ _ (S.cells I) (fun _ z=>by simp at z) q)
 ·exact .inr q
theorem inv_comp (S:CompScope X Nc ix scope) (I:Inv X pins σ H s) (hfp:∀ b ∈ fp,FpOk X pins H b) (ho:∀ b ∈ fp,∃ o,s.heap.get? b=some o) {t':Nat} :
  Inv (cxC X Nc scope (s.heap.objs.size+1) fp s H) [] (startC ix σ) (upd H s.heap.objs.size (.lst []))
   { s with heap:=pushCells ((s.heap.push { cls:=.type "list",dict:=none,data:=.seq ([]:List Value).toArray }).push { cls:=.type "dict",data:=.dict #[] }) scope.names,toks:=t' }:=by
 have keep:∀ b o,s.heap.get? b=some o→(pushCells ((s.heap.push { cls:=.type "list",dict:=none,data:=.seq ([]:List Value).toArray }).push { cls:=.type "dict",data:=.dict #[] }) scope.names).get? b=some o :=
  fun b o e=>pushCells_keeps _ _ b o (Heap.get?_push_of_some _ (Heap.get?_push_of_some _ e))
 have hD:(pushCells ((s.heap.push { cls:=.type "list",dict:=none,data:=.seq ([]:List Value).toArray }).push { cls:=.type "dict",data:=.dict #[] }) scope.names).get? s.heap.objs.size =
   some { cls:=.type "list",dict:=none,data:=.seq ([]:List Value).toArray }:=pushCells_keeps _ _ _ _ (Heap.get?_push_of_some _ (Heap.get?_push_size _ rfl))
 have hsz:(s.heap.push { cls:=.type "list",dict:=none,data:=.seq ([]:List Value).toArray }).objs.size=s.heap.objs.size+1:=Heap.size_push ..
 have fresh:∀ a:Addr,s.heap.objs.size≤a→H a=none:=fun a h=>I.hok.fresh h
 have hcc:∀ x c,X.env.cells.lookup x=some c→c < s.heap.objs.size:=fun x c e=>let ⟨_,q⟩:=I.cell x c e;q.lt
 have clt:∀ x c,(clFrom X.env scope.names []).lookup x=some c→c < s.heap.objs.size+1+1:=fun x c e =>
  Nat.lt_succ_of_lt (Nat.lt_succ_of_lt (hcc x c (clFrom_look _ _ (S.cells I) (fun _ z=>by simp at z) e)))
 have cinj:∀ x y c,(clFrom X.env scope.names []).lookup x=some c→(clFrom X.env scope.names []).lookup y=some c→x=y:=fun x y c e1 e2 =>
  I.ok.inj x y c (clFrom_look _ _ (S.cells I) (fun _ z=>by simp at z) e1) (clFrom_look _ _ (S.cells I) (fun _ z=>by simp at z) e2)
 refine ⟨⟨I.ok.mod,S.kind,I.ok.glob,I.ok.blt,Nat.le_succ _,cells_inj _ _ _ clt cinj,fun x hx=>?has,fun x c hf e=>?cab,I.ok.hd,I.ok.frames,.inl rfl,fun b hb=>?exf,I.bs,Nat.le_trans I.ok.bsz I.sz,fun b o e hb=>?noex,fun b hb hs=>?exfs,I.stack,I.stkFree⟩,
  rfl,I.bare,Un.laid keep (Nat.le_refl _) (fresh _ (Nat.le_refl _)),⟨fun _=>none,?ns,fun i x v e1 e2 e3=>?loc⟩,fun x c e=>?cell,?free,fun x c e=>?freeC,fun p hp=>absurd (show p ∈ ([]:List (Addr × Obj)) from hp) (by simp),I.hok.laid keep (Nat.le_refl _) ?obj,?len⟩
 case has =>
  have hx:(relabel scope X.env).names.lookup x=some .cell∨(relabel scope X.env).names.lookup x=some .free:=hx
  show ∃ c,(cellsFrom (s.heap.objs.size+1+1) scope.names (clFrom X.env scope.names [])).lookup x=some c
  cases hk:scope.names.lookup x with
  | none =>
   rw [show (relabel scope X.env).names.lookup x=none from relabel_none hk] at hx
   rcases hx with z | z <;> cases z
  | some k =>
   have hm:=PySem.mem_of_lookup hk
   rw [show (relabel scope X.env).names.lookup x=_ from relabel_look hk] at hx
   cases k with
   | cell=>obtain ⟨c,e,_⟩:=cells_own (x:=x) (lo:=0) scope.names (s.heap.objs.size+1+1) (clFrom X.env scope.names []) (Nat.zero_le _) (.inl hm);exact ⟨c,e⟩
   | free =>
    obtain ⟨c,e⟩:=clFrom_has (env:=X.env) (x:=x) scope.names [] (.inl hm)
    exact ⟨c,by rw [cells_keep _ _ _ (S.once x hm)];exact e⟩
   | _=>rcases hx with z | z <;> simp at z
 case cab =>
  have hm:(x,NameKind.cell) ∈ scope.names:=List.contains_iff_mem.mp hf
  obtain ⟨c',e',hc⟩:=cells_own (x:=x) (lo:=s.heap.objs.size+1+1) scope.names (s.heap.objs.size+1+1) (clFrom X.env scope.names []) (Nat.le_refl _) (.inl hm)
  have e2:(cellsFrom (s.heap.objs.size+1+1) scope.names (clFrom X.env scope.names [])).lookup x=some c:=e
  rw [e'] at e2;cases e2
  exact Nat.le_trans (Nat.le_trans (Nat.le_succ _) (Nat.le_succ _)) hc
 case exf =>
  obtain ⟨o,eo⟩:=ho b hb
  have hlt:=Heap.lt_size eo
  refine ⟨Nat.ne_of_lt (Nat.lt_succ_of_lt hlt),fun x c e=>?_⟩
  rcases cell_from S I e with q | ⟨q,_⟩
  ·exact (hfp b hb).2.2.2.2.1 x c q
  ·exact Nat.ne_of_gt (Nat.lt_of_lt_of_le (Nat.lt_succ_of_lt (Nat.lt_succ_of_lt hlt)) q)
 case noex =>
  obtain ⟨_,_,_,q,_⟩:=hfp b hb
  rcases q with q | q
  ·exact I.ok.noex b o e q
  ·exact absurd (Nat.lt_of_lt_of_le (Nat.lt_of_lt_of_le (Heap.lt_size e) I.ok.bsz) q) (Nat.lt_irrefl _)
 case exfs =>
  obtain ⟨_,q1,q2,_⟩:=hfp b hb
  rcases List.mem_cons.mp (I.stkSub b hs) with z | z
  ·exact q1 z
  ·exact q2 z
 case ns =>
  refine Heap.Ns.keeps (h:=(s.heap.push { cls:=.type "list",dict:=none,data:=.seq ([]:List Value).toArray }).push { cls:=.type "dict",data:=.dict #[] }) ?_ (pushCells_keeps _ _)
  have q:=Heap.Ns.new (s.heap.push { cls:=.type "list",dict:=none,data:=.seq ([]:List Value).toArray }) (.type "dict")
  rw [hsz] at q
  exact q
 case loc =>
  have e2':(ix.map fun o=>o.bind fun j=>(σ[j]?).bind id)[i]?=some (some v):=e2
  rw [List.getElem?_map] at e2'
  cases ei:ix[i]? with
  | none=>rw [ei] at e2';cases e2'
  | some o =>
   rw [ei] at e2'
   cases o with
   | none=>simp at e2'
   | some j =>
    obtain ⟨hN,hfr⟩:=S.out i j x ei e1
    have ej:σ[j]?=some (some v):=by
     cases q:σ[j]? with
     | none=>simp [q] at e2'
     | some y=>simp [q] at e2';rw [e2']
    have hm:=PySem.mem_of_lookup hfr
    have hvis:Vis X.env.scope x:=by
     rcases S.free (x,.free) hm rfl with z | z
     ·exact .inr (.inl z)
     ·exact .inr (.inr z)
    obtain ⟨m0,hn0,hl0⟩:=I.loc
    obtain ⟨u,r,l⟩:=hl0 j x v hN ej hvis
    refine ⟨u,r,?_⟩
    have hk:X.env.kindOf x=some .cell∨X.env.kindOf x=some .free:=S.free (x,.free) hm rfl
    rcases l with ⟨z,_⟩ | ⟨_,c,ec,hcell⟩
    ·rcases hk with y | y <;> (rw [z] at y;cases y)
    ·refine .inr ⟨?_,c,?_,hcell.keeps keep⟩
     ·show (relabel scope X.env).names.lookup x=_∨(relabel scope X.env).names.lookup x=_
      rw [show (relabel scope X.env).names.lookup x=_ from relabel_look hfr]
      split
      ·exact .inl rfl
      ·exact .inr rfl
     ·show (cellsFrom (s.heap.objs.size+1+1) scope.names (clFrom X.env scope.names [])).lookup x=some c
      rw [cells_keep _ _ _ (S.once x hm)]
      obtain ⟨c',e'⟩:=clFrom_has (env:=X.env) (x:=x) scope.names [] (.inl hm)
      have q:=clFrom_look _ _ (S.cells I) (fun _ z=>by simp at z) e'
      rw [ec] at q;cases q
      exact e'
 case cell =>
  have q:=push_cells_is (x:=x) (c:=c) scope.names ((s.heap.push { cls:=.type "list",dict:=none,data:=.seq ([]:List Value).toArray }).push { cls:=.type "dict",data:=.dict #[] }) (clFrom X.env scope.names [])
   (fun y c' e'=>by
    obtain ⟨v,z⟩:=I.cell y c' (clFrom_look _ _ (S.cells I) (fun _ z=>by simp at z) e')
    exact ⟨v,z.keeps fun b o e=>Heap.get?_push_of_some _ (Heap.get?_push_of_some _ e)⟩)
  rw [Heap.size_push,hsz] at q
  exact q e
 case free =>
  show upd H s.heap.objs.size (.lst []) (s.heap.objs.size+1)=none
  rw [upd_ne (Nat.succ_ne_self _)]
  exact fresh _ (Nat.le_succ _)
 case freeC =>
  rcases cell_from S I e with q | ⟨q,_⟩
  ·rw [upd_ne (Nat.ne_of_lt (hcc x c q))]
   exact I.freeC x c q
  ·have h1:s.heap.objs.size < c:=Nat.lt_of_lt_of_le (Nat.lt_succ_of_lt (Nat.lt_succ_self _)) q
   rw [upd_ne (Nat.ne_of_gt h1)]
   exact fresh c (Nat.le_of_lt h1)
 case obj=>exact ⟨Nat.zero_le _,[],0,.nil,hD⟩
 case len =>
  show (startC ix σ).length=Nc.length
  unfold startC
  rw [List.length_map,S.len]
end
def PTs (X:Cx) (ifs:List Expr) (t:TT):Prop :=
 ∀ (pins:List (Addr × Obj)) (s:Shared) (σ:St) (H:Hp) (Q:Bool→Hp→Prop),Inv X pins σ H s→t σ H Q →
  wpAny (model X.prog X.w) X.A (forIn ifs true fun c r=>if r=true then do let ok ← isTrue c X.env (eval c X.env);pure (ForInStep.yield ok) else pure (ForInStep.yield r)) (TP X pins σ Q) X.xe s
def tYes:TT:=fun _ H Q=>Q true H
theorem pts_nil {X:Cx}:PTs X [] tYes:=fun _ _ _ H _ I h=>wpAny_tests_nil ⟨H,I,h⟩
theorem pts_one {X:Cx} {c:Expr} {t:TT} (h:PT X c t):PTs X [c] t:=fun pins s σ H Q I hw=>wpAny_tests_one (h pins s σ H Q I hw)
def lcRun (J:It) (g:TG) (tt:TT) (te:TE) (D:Addr) (σ:St) (H:Hp) (Q:VK):Prop:=∃ W:Nat→Nat→St→Hp→Prop,(∃ m,W 0 m σ H)∧∀ i m σ' H',W i m σ' H' →
 (J.stop i H'∧Q (.ref D) H')∨(J.go i H'∧∀ x H2,J.yld i H' x H2→g x σ' H2 fun σ3 H3=>tt σ3 H3 fun b H4 =>
  if b=true then te σ3 H4 fun v H5=>∃ xs,H5 D=some (.lst xs)∧xs.length < sizeLine∧∃ m',m' < m∧W (i+1) m' σ3 (upd H5 D (.lst (xs ++ [v])))
  else ∃ m',m' < m∧W (i+1) m' σ3 H4)
def tLC (wi:TI) (ix:List (Option Nat)) (g:TG) (tt:TT) (te:TE):TE:=fun σ H Q=>wi σ H fun J H1=>∀ D,H1 D=none→lcRun J g tt te D (startC ix σ) (upd H1 D (.lst [])) Q
section
variable {X:Cx} {tg elt iter:Expr} {ifs:List Expr} {scope:Scope} {pos:Pos} {wi:TI} {g:TG} {tt:TT} {te:TE} {Nc:List Str} {ix:List (Option Nat)}
theorem comp_run {pins:List (Addr × Obj)} {σ:St} {H:Hp} {s:Shared} {it:Addr} {fp:List Addr} {tn:Nat→Heap→Prop} {J:It} {Q:VK} {R:Value→Addr→Result→Shared→Prop}
  (hc:X.calm=true) (S:CompScope X Nc ix scope) (I:Inv X pins σ H s) (T:Turn X.prog X.w X.K tg J fp it tn) (st:tn 0 s.heap) (f:∀ b ∈ fp,FpOk X pins H b)
  (hg:PG (cxC X Nc scope (s.heap.objs.size+1) fp s H) tg g) (ht:PTs (cxC X Nc scope (s.heap.objs.size+1) fp s H) ifs tt) (he:PE (cxC X Nc scope (s.heap.objs.size+1) fp s H) elt te)
  (h:∀ D,H D=none→∃ W:Nat→Nat→St→Hp→Prop,(∃ m,W 0 m (startC ix σ) (upd H D (.lst [])))∧∀ i m σ' H',W i m σ' H' →
   (J.stop i H'∧Q (.ref D) H')∨(J.go i H'∧∀ x H2,J.yld i H' x H2→g x σ' H2 fun σ3 H3=>tt σ3 H3 fun b H4 =>
    if b=true then te σ3 H4 fun v H5=>∃ xs,H5 D=some (.lst xs)∧xs.length < sizeLine∧∃ m',m' < m∧W (i+1) m' σ3 (upd H5 D (.lst (xs ++ [v])))
    else ∃ m',m' < m∧W (i+1) m' σ3 H4))
  (hR:∀ σ' H' s',Inv (cxC X Nc scope (s.heap.objs.size+1) fp s H) [] σ' H' s'→(∀ b ∈ fp,H' b=none)→Q (.ref s.heap.objs.size) H'→R (.ref s.heap.objs.size) (s.heap.objs.size+1) (.ok .next) s') :
  wpAny (model X.prog X.w) X.A (newList []) (fun acc s₃=>wpAny (model X.prog X.w) X.A (newFunctionEnv scope X.env.globals (clFrom X.env scope.names []) [] X.env.qual none .none (some X.env)) (fun cenv s₄ =>
   codeAny (model X.prog X.w) X.A (.compStart (.ListComp elt [⟨tg,iter,ifs,0⟩] scope pos) 0 (.ref it) acc { cenv with scope:=relabel scope X.env }) (R acc cenv.locals) s₄) X.xe s₃) X.xe s:=by
 obtain ⟨W,⟨m0,w0⟩,turn⟩:=h s.heap.objs.size (I.hok.fresh (Nat.le_refl _))
 refine wpAny_newObj_type (newEnv_comp ?_)
 have I4:=inv_comp (t':=s.toks) S I f (fun b hb=>let ⟨o,e,_⟩:=T.obj _ _ st b hb;⟨o,e⟩)
 have hsz:(s.heap.push { cls:=.type "list",dict:=none,data:=.seq ([]:List Value).toArray }).objs.size=s.heap.objs.size+1:=Heap.size_push ..
 dsimp only
 rw [hsz]
 have st4:tn 0 (pushCells ((s.heap.push { cls:=.type "list",dict:=none,data:=.seq ([]:List Value).toArray }).push { cls:=.type "dict",data:=.dict #[] }) scope.names) :=
  T.keep _ _ _ st fun b _ o e=>pushCells_keeps _ _ b o (Heap.get?_push_of_some _ (Heap.get?_push_of_some _ e))
 have fr4:∀ b ∈ fp,upd H s.heap.objs.size (.lst []) b=none:=fun b hb=>by
  obtain ⟨o,e,_⟩:=T.obj _ _ st b hb
  rw [upd_ne (Nat.ne_of_lt (Heap.lt_size e))]
  exact (f b hb).1
 have stat:∀ {H':Hp},(∀ b ∈ fp,H' b=none)→∀ b ∈ fp,FpOk (cxC X Nc scope (s.heap.objs.size+1) fp s H) [] H' b:=fun {H'} hn b hb=>by
  obtain ⟨q1,q2⟩:=I4.ok.exf b hb
  exact ⟨hn b hb,q1,I4.ok.exfs b hb,.inl hb,q2,fun p hp=>absurd (show p ∈ ([]:List (Addr × Obj)) from hp) (by simp)⟩
 have loop:codeAny (model X.prog X.w) X.A (.compLoop (.ListComp elt [⟨tg,iter,ifs,0⟩] scope pos) 0 (.ref it) (.ref s.heap.objs.size) (cxC X Nc scope (s.heap.objs.size+1) fp s H).env)
   (R (.ref s.heap.objs.size) (s.heap.objs.size+1))
   { s with heap:=pushCells ((s.heap.push { cls:=.type "list",dict:=none,data:=.seq ([]:List Value).toArray }).push { cls:=.type "dict",data:=.dict #[] }) scope.names }:=by
  refine compLoop_any (fun n s'=>∃ i σ' H',Inv (cxC X Nc scope (s.heap.objs.size+1) fp s H) [] σ' H' s'∧tn i s'.heap∧(∀ b ∈ fp,H' b=none)∧W i n σ' H') ?_ m0 ⟨0,_,_,I4,st4,fr4,w0⟩
  rintro n s5 ⟨i,σ5,H5,I5,st5,fr5,w5⟩
  rcases turn i n σ5 H5 w5 with ⟨stop,qn⟩ | ⟨go,step⟩
  ·refine thn (T.done (cxC X Nc scope (s.heap.objs.size+1) fp s H) rfl rfl rfl hc i [] s5 σ5 H5 _ I5 (stat fr5) st5 stop) fun r s6 ⟨hr,I6⟩=>?_
   subst hr
   exact hR σ5 H5 s6 I6 fr5 qn
  ·refine thn (T.item (cxC X Nc scope (s.heap.objs.size+1) fp s H) rfl rfl rfl hc i [] s5 σ5 H5 _ I5 (stat fr5) st5 go) fun r s6 ⟨u,hr,h6⟩=>?_
   subst hr
   refine thn h6 fun _ s7 ⟨x,H7,I7,r7,y7,st7,fr7⟩=>?_
   have I7':=I7.pinned (stat fr7) (T.obj _ _ st7)
   refine thn (hg _ s7 σ5 H7 x u _ I7' r7 (step x H7 y7)) fun _ s8 ⟨σ8,H8,I8,q8⟩=>?_
   refine thn (ht _ s8 σ8 H8 _ I8 q8) fun b s9 ⟨H9,I9,q9⟩=>?_
   have again:∀ {s':Shared} {σ':St} {H':Hp},Inv (cxC X Nc scope (s.heap.objs.size+1) fp s H) ([] ++ pinsAt fp s7.heap) σ' H' s'→tn (i+1) s'.heap∧∀ b ∈ fp,H' b=none:=fun {s' σ' H'} I'=>by
    refine ⟨T.keep _ _ _ st7 fun b hb o e=>(I'.pin (b,o) (List.mem_append_right _ (List.mem_append_right _ (mem_pinsAt hb e)))).1,fun b hb=>?_⟩
    obtain ⟨o,e,d⟩:=T.obj _ _ st7 b hb
    exact (I'.pin (b,o) (List.mem_append_right _ (List.mem_append_right _ (mem_pinsAt hb e)))).2.1
   cases b with
   | false =>
    rw [if_neg Bool.false_ne_true] at q9 ⊢
    obtain ⟨m',hm,w9⟩:=q9
    obtain ⟨a1,a2⟩:=again I9
    exact ⟨m',hm,i+1,σ8,H9,I9.unpinned,a1,a2,w9⟩
   | true =>
    rw [if_pos rfl] at q9 ⊢
    refine thn (he _ s9 σ8 H9 _ I9 q9) fun v s10 ⟨x',H10,I10,r10,xs,eD,hlt,m',hm,w10⟩=>?_
    refine thn (mt_append (X:=cxC X Nc scope (s.heap.objs.size+1) fp s H) _ s10 σ8 H10 (.ref s.heap.objs.size) [x'] (.ref s.heap.objs.size) [v] (fun _ H'=>H'=upd H10 s.heap.objs.size (.lst (xs ++ [x']))) I10 rfl (.cons r10 .nil)
     ⟨_,xs,x',rfl,rfl,eD,hlt,rfl⟩) fun _ s11 ⟨_,H11,I11,_,e11⟩=>?_
    subst e11
    obtain ⟨a1,a2⟩:=again I11
    exact ⟨m',hm,i+1,σ8,_,I11.unpinned,a1,a2,w10⟩
 exact codeAny_compStart_list loop (T.self X.A 0 _ _ _ st4 loop)
theorem comp_back {pins:List (Addr × Obj)} {σ σ':St} {H H':Hp} {s s':Shared} {fp:List Addr} (I:Inv X pins σ H s) (f:∀ b ∈ fp,FpOk X pins H b) (J:Inv (cxC X Nc scope (s.heap.objs.size+1) fp s H) [] σ' H' s'):Inv X pins σ H' s' :=
 I.call' (ch:=fp) J.os J.base J.hok J.bare fun b hb=>let ⟨_,q1,_,q3,q4,q5⟩:=f b hb;⟨q3,q1,q4,q5⟩
theorem Inv.letgo {pins:List (Addr × Obj)} {σ:St} {H:Hp} {s:Shared} {C:Addr} {h':Heap} (I:Inv X pins σ H s) (f:FpOk X pins H C) (hs:Heap.SameBut C s.heap h'):Inv X pins σ H { s with heap:=h' } :=
 I.turned (t':=s.toks) (it:=C) (fun b o hb e=>(hs.2 b hb).trans e) f.1 f.2.1 f.2.2.2.1 f.2.2.2.2.1 f.2.2.2.2.2
theorem pe_lc (hc:X.calm=true) (S:CompScope X Nc ix scope) (hi:PI X tg iter wi)
  (hb:∀ (C:Addr) (fp:List Addr) (s:Shared) (H:Hp),PG (cxC X Nc scope C fp s H) tg g∧PTs (cxC X Nc scope C fp s H) ifs tt∧PE (cxC X Nc scope C fp s H) elt te)
  (hs:∀ x,foldedSetIterable iter X.env x=pure x:=by intro _;rfl):PE X (.ListComp elt [⟨tg,iter,ifs,0⟩] scope pos) (tLC wi ix g tt te):=by
 intro pins s σ H Q I h
 rw [eval_ListComp]
 refine wpAny_comprehension_free (use:=none) rfl hs (closure_of (S.cells I)) S.kind S.loc (thn (hi pins s σ H _ I h) fun v s1 h1=>thn h1 fun itv s2 h2=>?_)
 obtain ⟨it,fp,tn,J,H2,e,I2,T,st2,f2,q2⟩:=h2
 subst e
 obtain ⟨hg,ht,he⟩:=hb (s2.heap.objs.size+1) fp s2 H2
 refine comp_run (R:=fun acc C=>compPost (model X.prog X.w) X.A X.xe none (EP X pins σ Q) acc C) hc S I2 T st2 f2 hg ht he q2 fun σ' H' s' J' fr' q'=>?_
 obtain ⟨m,hn,_⟩:=J'.loc
 refine ⟨m,hn,fun h' hsb=>⟨.ref _,H',?_,rfl,q'⟩⟩
 exact (comp_back I2 f2 J').letgo (I2.fpOk (Nat.le_succ _) J'.free) hsb
theorem ps_setLC {i:Nat} {y:Str} {py spos:Pos} (hN:X.N.Nodup) (hy:X.N[i]?=some y) (hl:Loc X.env.scope y) (hc:X.calm=true) (S:CompScope X Nc ix scope) (hi:PI X tg iter wi)
  (hb:∀ (C:Addr) (fp:List Addr) (s:Shared) (H:Hp),PG (cxC X Nc scope C fp s H) tg g∧PTs (cxC X Nc scope C fp s H) ifs tt∧PE (cxC X Nc scope C fp s H) elt te)
  (hsw:swapsWith (.ListComp elt [⟨tg,iter,ifs,0⟩] scope pos) (some (.Name y py)) spos.line X.env=pure true:=by rfl)
  (hs:∀ x,foldedSetIterable iter X.env x=pure x:=by intro _;rfl)
  (hf:X.fn y=true∨X.env.scope.names.lookup y=some .local:=by first | exact .inl rfl | exact .inr rfl | assumption) :
  PS X (.Assign [.Name y py] (.ListComp elt [⟨tg,iter,ifs,0⟩] scope pos) spos) (tAsg (tLC wi ix g tt te) (gName i)):=by
 intro pins s σ H D I h
 rw [exec_Assign_Name_used _ _ _ _ hsw]
 refine wpAny_bind (wpAny_standAt (wpAny_bind ?_))
 show wpAny _ X.A (do let _ ← comprehension (.ListComp elt [⟨tg,iter,ifs,0⟩] scope pos) scope X.env _ (newList []) false (eval iter X.env) (some (assign (.Name y py) X.env))) _ _ s
 refine wpAny_bind (wpAny_mono (wpAny_comprehension_free (use:=some (assign (.Name y py) X.env)) (Q:=fun _ s'=>SP X pins D .next s') rfl hs (closure_of (S.cells I)) S.kind S.loc
  (thn (hi pins s σ H _ I h) fun v s1 h1=>thn h1 fun itv s2 h2=>?_)) (fun _ s' hq=>wpAny_pure (wpAny_pure hq)) fun _ _ e=>e)
 obtain ⟨it,fp,tn,J,H2,e,I2,T,st2,f2,q2⟩:=h2
 subst e
 obtain ⟨hg,ht,he⟩:=hb (s2.heap.objs.size+1) fp s2 H2
 refine comp_run (Q:=fun x H1=>gName i x σ H1 D.nx) (R:=fun acc C=>compPost (model X.prog X.w) X.A X.xe (some (assign (.Name y py) X.env)) (fun _ s'=>SP X pins D .next s') acc C) hc S I2 T st2 f2 hg ht he q2 fun σ' H' s' J' fr' q'=>?_
 obtain ⟨m,hn,_⟩:=J'.loc
 have I3:=comp_back I2 f2 J'
 have fC:=I2.fpOk (Nat.le_succ _) J'.free
 show wpAny _ X.A (assign (.Name y py) X.env (.ref s2.heap.objs.size)) _ _ s'
 refine wpAny_assign_Name (store_ok2 (v:=.ref s2.heap.objs.size) I3 hN hy hl rfl (fun s4 I4 ⟨a,hsa,ha⟩=>?_) hf)
 have haC:s2.heap.objs.size+1≠a:=by
  rcases ha with z | z
  ·rw [z];exact fC.2.1
  ·exact Ne.symm (fC.2.2.2.2.1 y a z)
 refine ⟨m,hn.sameBut hsa haC,fun h' hsb=>⟨_,H',I4.letgo fC hsb,q'⟩⟩
end
end L2
namespace L2
open PySem PySem.Spec PyProof.Rows
structure Thrown (P:Program) (w:World) (outer:List Env) (H:Hp) (s:Shared) (a C:Addr) (a0:Value) (B:Heap) (H':Hp) (s':Shared):Prop where
 os:s'.os=s.os
 bare:AllBare s'.gens
 un:Un (frs outer) [] H H' s.heap s'.heap
 hok:HOk P w H' s'.heap
 fly:Heap.FlyingW B outer a (.ref C) a0 s'.heap
 cov:∀ b o,s.heap.get? b=some o→b ∉ frs outer→∃ o',B.get? b=some o'
 trk:∀ b u,H' b=some u→∃ o',B.get? b=some o'
def CX1 (P:Program) (w:World):CXT:=fun outer H s E e s'=>∃ (a C:Addr) (a0:Value) (B:Heap) (H':Hp),e=.ref a∧Thrown P w outer H s a C a0 B H' s'∧E (.ref C) none H'
theorem frs_mem {l:List Env} {b:Addr} {base h:Heap} (F:h.FunFrames base l) (hb:b ∈ frs l):base.get? b=none∧∃ o,h.get? b=some o∧∀ vs,o.data≠.fields vs:=F.mem hb
theorem un_later {outer:List Env} {H H':Hp} {h h1 h2 B:Heap} (u:Un (frs outer) [] H H' h h1) (F:h1.FunFrames B outer) (hB1:B.StaysIn h1) (hB2:B.StaysIn h2) (up:h1.UpToSlots h2)
  (cov:∀ b o,h.get? b=some o→b ∉ frs outer→∃ o',B.get? b=some o'):Un (frs outer) [] H H' h h2:=by
 have at2:∀ b o,h.get? b=some o→b ∉ frs outer→∀ o1,h1.get? b=some o1→h2.get? b=some o1:=fun b o e hb o1 e1=>by
  obtain ⟨o',eB⟩:=cov b o e hb
  have q:=hB1 b o' eB
  rw [e1] at q;cases q
  exact hB2 b _ eB
 refine ⟨fun b o e n hb hx=>at2 b o e hb o (u.keep b o e n hb hx),fun b o e n hb hx=>?_,u.free,fun b o e hx=>?_,u.tups,u.frzs,u.tbls⟩
 ·obtain ⟨sl,e1⟩:=u.slot b o e n hb hx
  obtain ⟨_,o1,q1,q2⟩:=frs_mem F hb
  rw [e1] at q1;cases q1
  obtain ⟨sl2,e2⟩:=up b _ e1 q2
  exact ⟨sl2,e2⟩
 ·obtain ⟨o1,e1⟩:=u.there b o e hx
  by_cases hb:b ∈ frs outer
  ·obtain ⟨_,o2,q1,q2⟩:=frs_mem F hb
   obtain ⟨sl2,e2⟩:=up b _ q1 q2
   exact ⟨_,e2⟩
  ·exact ⟨o1,at2 b o e hb o1 e1⟩
theorem hok_later {P:Program} {w:World} {H:Hp} {h1 h2 B:Heap} (x:HOk P w H h1) (hB1:B.StaysIn h1) (hB2:B.StaysIn h2) (trk:∀ b u,H b=some u→∃ o',B.get? b=some o'):HOk P w H h2:=fun b o e=>by
 refine (x b o e).stay (fun c u hc q=>?_) (fun _ q=>q) fun _ _ q=>q
 have ht:∃ o',B.get? c=some o':=by
  rcases hc with z | z
  ·rw [z];exact trk b o e
  ·exact trk c _ z
 obtain ⟨o',eB⟩:=ht
 have q1:=hB1 c o' eB
 rw [q] at q1;cases q1
 exact hB2 c _ eB
structure Body (X:Cx) (E:XK):Prop where
 xe:X.xe=fun e s'=>wpAny (model X.prog X.w) X.A (leaving X.env e) (fun _ s''=>CX1 X.prog X.w X.outer X.H₀ X.s₀ E e s'') (fun e' s''=>CX1 X.prog X.w X.outer X.H₀ X.s₀ E e' s'') s'
 stk:X.stack=X.env :: X.outer
 fr:X.env.frame=some X.env.locals
 ex:X.ex=[]
section
variable {X:Cx} {E:XK} {pins:List (Addr × Obj)} {σ:St} {H:Hp} {s:Shared}
theorem Inv.old (I:Inv X pins σ H s) {b:Addr} {o:Obj} (e:X.s₀.heap.get? b=some o):b≠X.env.locals:=Nat.ne_of_lt (Nat.lt_of_lt_of_le (Heap.lt_size e) I.ok.above)
theorem Body.base (Bd:Body X E) (I:Inv X pins σ H s):Un X.fs [] X.H₀ H X.s₀.heap s.heap:=by
 have q:=I.base
 rw [Bd.ex] at q
 exact q
theorem Body.notin (Bd:Body X E) {b:Addr} (h1:b≠X.env.locals) (h2:b ∉ frs X.outer):b ∉ frs X.stack:=by
 rw [Bd.stk]
 intro z
 obtain ⟨env,he,hf⟩:=List.mem_filterMap.mp z
 rcases List.mem_cons.mp he with rfl | he
 ·rw [Bd.fr] at hf;exact h1 (Option.some.inj hf).symm
 ·exact h2 (List.mem_filterMap.mpr ⟨env,he,hf⟩)
theorem pass1 (Bd:Body X E):Passes (CX1 X.prog X.w) X E:=by
 intro pins σ H s e s' I h
 obtain ⟨a,C,a0,B,H',rfl,T,q⟩:=h
 rw [Bd.xe]
 have hfr:X.A.frames=some (X.env :: X.outer):=by rw [← Bd.stk];exact I.ok.frames
 have fly:=T.fly
 rw [Bd.stk] at fly
 refine wpAny_leaves_onW hfr Bd.fr fly fun h' fly' up=>?_
 have cov:∀ b o,X.s₀.heap.get? b=some o→b ∉ frs X.outer→∃ o',B.get? b=some o':=fun b o e hb=>by
  obtain ⟨o1,e1⟩:=(Bd.base I).there b o e (by simp)
  exact T.cov b o1 e1 (Bd.notin (I.old e) hb)
 have u1:Un (frs X.outer) [] X.H₀ H' X.s₀.heap s'.heap:=by
  have ub:=Bd.base I
  refine ⟨fun b o e n hb hx=>T.un.keep b o (ub.keep b o e n hb hx) (ub.free b o e n hx) (Bd.notin (I.old e) hb) (by simp),fun b o e n hb hx=>?_,fun b o e n hx=>?_,fun b o e hx=>?_,fun b xs e=>T.un.tups b xs (ub.tups b xs e),
   fun b o xs e=>T.un.frzs b o xs (ub.frzs b o xs e),fun b ps e=>?_⟩
  ·obtain ⟨sl,e1⟩:=ub.slot b o e n hb hx
   obtain ⟨sl',e2⟩:=T.un.any e1 (ub.free b o e n hx) (by simp)
   exact ⟨sl',e2⟩
  ·obtain ⟨o1,e1⟩:=ub.there b o e hx
   exact T.un.free b o1 e1 (ub.free b o e n hx) (by simp)
  ·obtain ⟨o1,e1⟩:=ub.there b o e hx
   exact T.un.there b o1 e1 (by simp)
  ·obtain ⟨m1,e1⟩:=ub.tbls b ps e
   obtain ⟨m2,e2⟩:=T.un.tbls b _ e1
   exact ⟨m1 ++ m2,by rw [e2,Array.append_assoc]⟩
 have F':s'.heap.FunFrames B X.outer:=by obtain ⟨_,_,⟨_,_,k⟩,_⟩:=fly;exact k
 exact ⟨a,C,a0,B,H',rfl,⟨T.os.trans I.os,T.bare,un_later u1 F' fly.1 fly'.1 up cov,hok_later T.hok fly.1 fly'.1 T.trk,fly',cov,T.trk⟩,q⟩
theorem own_of_K {K:PySem.W.Frag} {h:Heap} {mg:Str→Option Value} {x:Str} {C:Addr} {bmB:List Value} {newId:String} (KX:K.In h) (hm:mg x=some (.ref C)) (q:PySem.W.excIn K C bmB newId=true):OwnCls x C bmB newId mg h:=by
 refine ⟨hm,?_⟩
 unfold PySem.W.excIn at q
 split at q
 ·rename_i dd cd sl ho
  split at q
  ·rename_i C' bm k0 k1 k2 k3 n k5 hm' hs
   simp only [Bool.and_eq_true,beq_iff_eq,Bool.not_eq_true'] at q
   obtain ⟨⟨⟨⟨⟨rfl,rfl⟩,hdel⟩,ht⟩,hok⟩,hni⟩:=q
   obtain ⟨nm,bs,mro,ns,qn,hd,sn,sub,ab,col,del⟩:=cd
   dsimp only at hm' hdel hok hni
   subst hm' hdel
   have hsl:sl=#[k0,k1,k2,k3,some (.builtin n),k5]:=by
    obtain ⟨l⟩:=sl
    simp only at hs
    rw [hs]
   subst hsl
   exact ⟨bm,ns,nm,qn,bs,hd,sn,sub,ab,col,dd,k0,k1,k2,k3,k5,_,KX _ _ ho,.of_isNs (PySem.W.isNs_of_in KX hok),PySem.W.nsMap_none_of_in KX hok hni,PySem.W.tail_of_in KX ht⟩
  ·cases q
 ·cases q
def tRaise (C:Addr) (E:XK) (t:TA):TS:=fun _ σ H=>t σ H fun vs H1=>vs.length≤sizeLine∧E (.ref C) none H1
theorem ps_raise {x:Str} {np cpos pos:Pos} {e:Expr} {es:List Expr} {t:TA} {C:Addr} {bmB:List Value} {B newId initId:String} (Bd:Body X E) (hc:X.calm=true) (hg:Gl X x) (hm:X.mg x=some (.ref C))
  (hk:PySem.W.excIn X.K C bmB newId=true) (FB:ExcBaseFacts B newId initId bmB) (ha:PA X (e :: es) t)
  (he:starEach (e :: es) X.env=(false,eval e X.env) :: starEach es X.env:=by rfl) (hpl:(backTo cpos (starEach es X.env)).any (·.1)=false:=by rfl) (hdb:(x == ("__debug__":Str))=false:=by decide) :
  PS X (.Raise (some (.Call (.Name x np) (e :: es) [] cpos)) none pos) (tRaise C E t):=by
 intro pins s σ H D I h
 have O:=own_of_K (I.mod.kin) hm hk
 obtain ⟨tl,N,nm,q,bs,hdct,sn,sub,ab,col,dd,k0,k1,k2,k3,k5,mN,hC,hN,hni,T⟩:=O.obj
 refine wpAny_Raise_call_subT (C:=C) (nm:=nm) (q:=q) (N:=N) (bs:=bs) (bm:=tl) (hdct:=hdct) (sn:=sn) (sub:=sub) (ab:=ab) (col:=col) (dd:=dd) (k0:=k0) (k1:=k1) (k2:=k2) (k3:=k3) (k5:=k5)
  FB (mN:=mN) (T.hasType FB.hasBase) (I.ok.hd hc) (by rw [he];show (false || (backTo cpos (starEach es X.env)).any (·.1))=false;rw [hpl];rfl) hni (ld_glob I hg hm ⟨rfl,?_⟩ hdb)
 have hA:=ha cpos pins s σ H _ I h
 rw [he] at hA ⊢
 refine Calls.evalArgs_plain (thn hA fun us s2 ⟨vs,H2,I2,r,hz,q2⟩=>?_)
 refine ⟨rfl,by rw [← r.length];exact hz,I2.bk _ _ hC,hN.keeps I2.bk,T.keeps I2.bk,fun h' a hx=>?_⟩
 rw [Bd.xe]
 have hfr:X.A.frames=some (X.env :: X.outer):=by rw [← Bd.stk];exact I.ok.frames
 have hin:∀ env ∈ X.stack,∀ b,env.frame=some b→b ∈ frs X.stack:=fun env he b hb=>List.mem_filterMap.mpr ⟨env,he,hb⟩
 have F0:s2.heap.FunFrames (PySem.W.hideAll s2.heap (frs X.stack)) X.stack:=PySem.W.funFrames_hide I2.stack hin
 have F1:s2.heap.FunFrames (PySem.W.hideAll s2.heap (frs X.stack)) (X.env :: X.outer):=by rw [← Bd.stk];exact F0
 have hB0:(PySem.W.hideAll s2.heap (frs X.stack)).StaysIn s2.heap:=fun b o q=>PySem.W.of_hideAll _ q
 have hBget:∀ b o,s2.heap.get? b=some o→b ∉ frs X.stack→(PySem.W.hideAll s2.heap (frs X.stack)).get? b=some o:=fun b o e hb=>PySem.W.hideAll_get _ e hb
 refine wpAny_leaves_madeW hfr Bd.fr hB0 F1 hx fun h'' t fly tup tn up=>?_
 have cov:∀ b o,X.s₀.heap.get? b=some o→b ∉ frs X.outer→∃ o',(PySem.W.hideAll s2.heap (frs X.stack)).get? b=some o':=fun b o e hb=>by
  obtain ⟨o1,e1⟩:=(Bd.base I2).there b o e (by simp)
  exact ⟨o1,hBget b o1 e1 (Bd.notin (I2.old e) hb)⟩
 have trk:∀ b u,H2 b=some u→∃ o',(PySem.W.hideAll s2.heap (frs X.stack)).get? b=some o':=fun b u e=>by
  have hb:b ∉ frs X.stack:=fun z=>by rw [I2.stkFree b z] at e;cases e
  have hlt:=I2.hok.lt e
  obtain ⟨o1,e1⟩:∃ o1,s2.heap.get? b=some o1:=by
   cases hq:s2.heap.get? b with
   | some o1=>exact ⟨o1,rfl⟩
   | none=>exact absurd hq (objOk_there (I2.hok b u e))
  exact ⟨o1,hBget b o1 e1 hb⟩
 have F2:s2.heap.FunFrames (PySem.W.hideAll s2.heap (frs X.stack)) X.outer:=by obtain ⟨_,_,k⟩:=F1;exact k
 have up2:s2.heap.UpToSlots h'':=(Heap.UpToSlots.of_keeps hx.keeps).trans up
 exact ⟨a,C,.ref t,_,H2,rfl,⟨I2.os,I2.bare,un_later (Bd.base I2) F2 hB0 fly.1 up2 cov,hok_later I2.hok hB0 fly.1 trk,fly,cov,trk⟩,q2⟩
where
 objOk_there {P:Program} {w:World} {H:Hp} {h:Heap} {a:Addr} {o:HO} (x:ObjOk P w H h a o):h.get? a≠none:=by
  cases o with
  | lst xs=>obtain ⟨_,_,_,_,e⟩:=x;rw [e];simp
  | tup xs=>obtain ⟨_,_,_,ob,e,_⟩:=x;rw [e];simp
  | dK kvs=>obtain ⟨_,_,_,_,o,_,_,e,_⟩:=x;rw [e];simp
  | dT kvs=>obtain ⟨_,_,_,_,o,_,_,e,_⟩:=x;rw [e];simp
  | set S n=>obtain ⟨o,_,_,_,e,_⟩:=x;rw [e];simp
  | ins C dx fs=>obtain ⟨_,_,_,e,_⟩:=x;rw [e];simp
  | own y=>obtain ⟨_,e⟩:=x;rw [e];simp
  | xd fs=>obtain ⟨_,⟨_,_,_,e,_⟩,_⟩:=x;rw [e];simp
  | rng lo hi=>obtain ⟨_,_,_,e⟩:=x;rw [e];simp
  | frz ob u=>obtain ⟨e,_⟩:=x;rw [e];simp
  | tbl ps=>have e:h.get? a=some _:=x;rw [e];simp
  | met f y=>have e:h.get? a=some _:=x;rw [e];simp
  | ext φ=>obtain ⟨_,⟨_,e⟩,_⟩:=x;rw [e];simp
end
end L2
namespace L2
open PySem PySem.Spec PyProof.Rows
section
variable {X:Cx} {E:XK} {pins:List (Addr × Obj)} {σ:St} {H:Hp} {s:Shared} {a:Addr}
end
end L2
namespace L2
open PySem PySem.Spec PyProof.Rows
structure ExcCls (K:PySem.W.Frag) (C:Addr):Prop where
 ga:PySem.W.findIn K (.ref C) "__getattribute__"=some (some (.builtin "BaseException.__getattribute__"))
 nga:PySem.W.findIn K (.ref C) "__getattr__"=some none
 at_:PySem.W.findIn K (.ref C) "__class__"=some (some (.builtin "object.__class__"))
 cls:(PySem.W.clsIn K C).isSome=true
 obj:PySem.W.mroIn K C (.type "object")=some true
 base:PySem.W.subIn K (.ref C) (.type "BaseException")=some true
section
variable {prog:Program} {w:World} {A:Around} {E:Value→Shared→Prop} {h:Heap} {g:Array GenState} {d:Drawn} {t:Nat} {os:OsState} {K:PySem.W.Frag} {a C:Addr}
end
end L2
namespace L2
open PySem PySem.Spec PyProof.Rows
abbrev TJ:=Str→St→Hp→VK→Prop
def PJ (X:Cx) (es:List Expr) (t:TJ):Prop :=
 ∀ (out:Str) (pins:List (Addr × Obj)) (s:Shared) (σ:St) (H:Hp) (Q:VK),Inv X pins σ H s→t out σ H Q→wpAny (model X.prog X.w) X.A (joinParts out (evalEach es X.env)) (EP X pins σ Q) X.xe s
section
variable {X:Cx} {e:Expr} {es:List Expr} {te:TE} {t:TJ} {pos:Pos}
def jNil:TJ:=fun out _ H Q=>out.length≤sizeLine∧Q (.str out) H
theorem pj_nil:PJ X [] jNil:=fun out pins s σ H Q I h=>joinParts_nil (show EP X pins σ Q (.str out s.toks) { s with toks:=s.toks+1 } from ⟨.str out,H,I.tok _,⟨_,rfl⟩,h.2⟩) h.1
def jCons (te:TE) (t:TJ):TJ:=fun out σ H Q=>te σ H fun v H1=>∃ y,v=.str y∧(out ++ y).length≤sizeLine∧t (out ++ y) σ H1 Q
theorem pj_cons (he:PE X e te) (hr:PJ X es t):PJ X (e :: es) (jCons te t):=by
 intro out pins s σ H Q I h
 refine joinParts_consE (joinParts_cons (thn (he pins s σ H _ I h) fun v s1 ⟨x,H1,I1,r1,y,ex,hz,q⟩=>?_))
 subst ex
 obtain ⟨tk,rfl⟩:=r1
 exact ⟨hz,hr _ pins s1 σ H1 Q I1 q⟩
theorem pe_fstr {e1 e2:Expr} {rest:List Expr} (h:PJ X (e1 :: e2 :: rest) t):PE X (.JoinedStr (e1 :: e2 :: rest) pos) (fun σ H Q=>t Str.empty σ H Q):=fun pins s σ H Q I hw=>JoinedStr_many (h Str.empty pins s σ H Q I hw)
def tFmtI (te:TE):TE:=fun σ H Q=>te σ H fun v H1=>∃ i,v=.int i∧i.natAbs.log2 < 1920∧Q (.str (toString i)) H1
theorem pe_fmtI (he:PE X e te):PE X (.FormattedValue e (-1) none pos) (tFmtI te):=by
 intro pins s σ H Q I h
 refine FormattedValue_plain (thn (he pins s σ H _ I h) fun v s1 ⟨x,H1,I1,r1,i,ex,hi,q⟩=>?_)
 subst ex
 obtain ⟨tk,rfl⟩:=r1
 exact formatField_int_small hi ⟨.str _,H1,I1.tok _,⟨_,rfl⟩,q⟩
def tFmtR (te:TE):TE:=fun σ H Q=>te σ H fun v H1=>∃ y,v=.str y∧(reprText y).length≤sizeLine∧Q (.str (reprText y)) H1
theorem pe_fmtR (he:PE X e te):PE X (.FormattedValue e 114 none pos) (tFmtR te):=by
 intro pins s σ H Q I h
 refine wpAny_FormattedValue_repr (thn (he pins s σ H _ I h) fun v s1 ⟨x,H1,I1,r1,y,ex,hi,q⟩=>?_)
 subst ex
 obtain ⟨tk,rfl⟩:=r1
 refine pyReprObj_str ?_ hi
 exact formatField_str (fun t' tk=>⟨.str _,H1,(I1.tok _).tok _,⟨_,rfl⟩,q⟩) hi
theorem log_lt {i:Int} {n:Nat} (h:i.natAbs < 2 ^ n) (hn:n≤1920) (h0:0 < n):i.natAbs.log2 < 1920:=by
 by_cases z:i.natAbs=0
 ·rw [z];decide
 ·have:=(Nat.log2_lt z).mpr h
  omega
end
end L2
namespace L2
open PySem PySem.Spec PyProof.Rows
theorem PS.nox {X:Cx} {st:Stmt} {t:TS} (h:PS X.nox st t):PS X st t:=fun pins s σ H D I hw =>
 wpAny_mono (h pins s σ H D (I.wish _) hw) (fun _ _ q=>q.unwish) fun _ _ z=>False.elim z
theorem passN {X:Cx}:Passes (CX1 X.prog X.w) X E0:=fun _ _ _ _ _ _ _ h=>by obtain ⟨_,_,_,_,_,_,_,q⟩:=h;exact q.elim
structure Def (P:Program) (w:World) (K:PySem.W.Frag) (mg:Str→Option Value) (base:Heap) (k:Nat) (x:Str) (ps:List Str) (sp:Sp):Prop where
 ex:∃ (f:Addr) (fd:FuncData),FnOk P w K mg base (CX1 P w) k f fd ps sp∧mg x=some (.ref f)∧PySem.W.keepIn K (.ref f)=true∧Binds K fd ps []
section
variable {P:Program} {w:World} {K:PySem.W.Frag} {mg:Str→Option Value} {base:Heap}
theorem Def.mono {j k:Nat} {x:Str} {ps:List Str} {sp:Sp} (D:Def P w K mg base j x ps sp) (h:j≤k):Def P w K mg base k x ps sp:=let ⟨f,fd,a,r⟩:=D.ex;⟨f,fd,a.mono h,r⟩
structure Site (K:PySem.W.Frag) (mg:Str→Option Value) (x:Str) (st:Stmt):Prop where
 ex:∃ (f:Addr) (fd:FuncData),Fun K x x st f fd∧mg x=some (.ref f)
theorem Site.mk' {h:Heap} {x:Str} {st:Stmt} {f:Addr} {oc:Value} {od an:Option Addr} {osl:Array (Option Value)} {kV doc pm cdv ct:Value} (KX:K.In h) (G:h.Ns mainGlobals mg)
  (a:PySem.W.nsIn K mainGlobals x=some (some (.ref f))) (l:K.lookup f=some ⟨oc,od,.func (PySem.W.fnOf x x (defArgs st) (defBody st) (defScope st) .none kV doc pm an cdv ct),osl⟩)
  (c:PySem.W.codeIn K cdv x=true) (k:PySem.W.keepIn K (.ref f)=true):Site K mg x st:=⟨f,_,fun_mk l c k,PySem.W.mg_of KX G a⟩
abbrev cx1 (P:Program) (w:World) (K:PySem.W.Frag) (mg:Str→Option Value) (base:Heap) (N:List Str) (x:Str) (st:Stmt) (f:Addr) (cdv:Value) (A:Around) (outer:List Env) (s:Shared) (H:Hp) (E:XK):Cx :=
 cxOf (CX1 P w) P w K mg base N x (defScope st) f cdv A outer s H E
theorem cx1_body {N:List Str} {x:Str} {st:Stmt} {f:Addr} {cdv:Value} {A:Around} {outer:List Env} {s:Shared} {H:Hp} {E:XK}:Body (cx1 P w K mg base N x st f cdv A outer s H E) E:=⟨rfl,rfl,rfl,rfl⟩
theorem Site.def {x:Str} {st:Stmt} {N ps:List Str} {k:Nat} {sp:Sp} (F:Site K mg x st) (S:FnScope N ps (defScope st))
  (hb:∀ (kV doc pm:Value) (an:Option Addr) (cdv ct:Value) (us:List Value),us.length=ps.length→bindArgs (PySem.W.fnOf x x (defArgs st) (defBody st) (defScope st) .none kV doc pm an cdv ct) ⟨us,[]⟩=pure (ps.zip us))
  (len:∀ vs H Q E,sp vs H Q E→vs.length=ps.length)
  (hbody:∀ (f:Addr) (cdv:Value) (A:Around) (outer:List Env) (s:Shared) (H:Hp) (vs:List V) (Q:VK) (E:XK),Room k (A.deeper (envOfC x (defScope st) s.heap.objs.size f cdv))→sp vs H Q E →
   ∃ t,PSs (cx1 P w K mg base N x st f cdv A outer s H E) (defBody st) t∧t { nx:=fun _ H'=>Q .non H',rt:=Q } (start N vs) H):Def P w K mg base (k+1) x ps sp:=by
 obtain ⟨f,fd,F1,hm⟩:=F.ex
 have b:=F1.binds hb
 have kp:=F1.kp
 obtain ⟨oc,od,kV,doc,pm,an,cdv,ct,osl,rfl,lk,hcd⟩:=F1.ex
 exact ⟨f,_,fn_of lk hcd S len fun A outer s H vs Q E hr hsp=>hbody f cdv A outer s H vs Q E hr hsp,hm,kp,b⟩
end
section
variable {X:Cx} {k:Nat} {ps:List Str} {sp:Sp} {E:XK} {x:Str} {p pos:Pos} {e:Expr} {es:List Expr} {t:TA}
theorem pe_def (D:Def X.prog X.w X.K X.mg X.base k x ps sp) (hr:Room k X.A) (hx:Passes (CX1 X.prog X.w) X E) (ha:PA X (e :: es) t) (hg:Gl X x:=by rfl) (hdb:(x == ("__debug__":Str))=false:=by decide)
  (he:starEach (e :: es) X.env=(false,eval e X.env) :: starEach es X.env:=by rfl) (hpl:(backTo pos (starEach es X.env)).any (·.1)=false:=by rfl) :
  PE X (.Call (.Name x p) (e :: es) [] pos) (tCall sp [] E t):=by
 obtain ⟨f,fd,F,hm,hk,hb⟩:=D.ex
 exact pe_call F hr hg hm hk hb .nil hx ha hdb he hpl
end
end L2
namespace L2
open PySem PySem.Spec PyProof.Rows
section
variable {X:Cx}
def rCatS (K:PySem.W.Frag):R2:=fun x y H Q=>∃ l b xs zs,x=.ref l∧y=.ref b∧SqL K H l xs∧SqL K H b zs∧xs.length+zs.length≤sizeLine∧∀ p,H p=none→Q (.ref p) (upd H p (.lst (xs ++ zs)))
theorem op_catS:OpR X (binaryOp .Add) (rCatS X.K):=by
 intro pins s σ H x y v u Q I rx ry h
 obtain ⟨l,b,xs,zs,rfl,rfl,hH,hB,hz,q⟩:=h
 cases rx
 cases ry
 obtain ⟨its,r,pl,_⟩:=I.list hH
 obtain ⟨its2,r2,pl2,_⟩:=I.list hB
 obtain ⟨⟨cls,dd,data,sl⟩,ho,hc,n,hd⟩:=id pl.isList
 obtain ⟨⟨cls2,dd2,data2,sl2⟩,ho2,hc2,n2,hd2⟩:=id pl2.isList
 simp only at hc hd hc2 hd2
 subst hc hd hc2 hd2
 have e:its.toArray ++ its2.toArray=(its ++ its2).toArray:=by simp
 have hsz:its.toArray.size+its2.toArray.size≤sizeLine:=by
  rw [List.size_toArray,List.size_toArray,← r.length,← r2.length];exact hz
 refine concat_meets ⟨_,ho,rfl⟩ ⟨_,ho2,rfl⟩ noFill_list_add seq_list_add PySem.F.slot_list_add PySem.F.entry_list_add (PySem.F.args_list_add_2 _ _) (list_addW l b its.toArray its2.toArray n n2 dd dd2 sl sl2 hsz) ⟨ho,ho2,?_⟩
 rw [e]
 exact ⟨.ref _,_,I.lnew (t':=s.toks) (r.append r2) (by rw [List.length_append];exact hz),rfl,q _ I.fresh⟩
end
end L2
namespace L2
open PySem PySem.Spec PyProof.Rows
end L2
namespace L2
open PySem PySem.Spec PyProof.Rows
def spLaw (K:PySem.W.Frag):Sp:=fun vs H Q _=>∃ (a:Addr) (ns:List Int),vs=[.ref a]∧SqL K H a (ns.map V.int)∧ns.length≤63∧∀ H',Q (.bl true) H'
section
variable {P:Program} {w:World} {K:PySem.W.Frag} {mg:Str→Option Value} {base:Heap}
theorem Fun.ok1 {x:Str} {st:Stmt} {f:Addr} {fd:FuncData} {N ps:List Str} {k:Nat} {sp:Sp} (F:Fun K x x st f fd) (S:FnScope N ps (defScope st)) (len:∀ vs H Q E,sp vs H Q E→vs.length=ps.length)
  (hbody:∀ (f:Addr) (cdv:Value) (A:Around) (outer:List Env) (s:Shared) (H:Hp) (vs:List V) (Q:VK) (E:XK),Room k (A.deeper (envOfC x (defScope st) s.heap.objs.size f cdv))→sp vs H Q E →
   ∃ t,PSs (cx1 P w K mg base N x st f cdv A outer s H E) (defBody st) t∧t { nx:=fun _ H'=>Q .non H',rt:=Q } (start N vs) H):FnOk P w K mg base (CX1 P w) (k+1) f fd ps sp:=by
 obtain ⟨oc,od,kV,doc,pm,an,cdv,ct,osl,rfl,lk,hcd⟩:=F.ex
 exact fn_of lk hcd S len fun A outer s H vs Q E hr hsp=>hbody f cdv A outer s H vs Q E hr hsp
theorem law_site {st:Stmt} {fa:Addr} {k:Nat} (S:Site K mg "law" st)
  (hb:∀ (kV doc pm:Value) (an:Option Addr) (cdv ct:Value) (us:List Value),us.length=1→bindArgs (PySem.W.fnOf "law" "law" (defArgs st) (defBody st) (defScope st) .none kV doc pm an cdv ct) ⟨us,[]⟩=pure ((["script"]:List Str).zip us))
  (hmg:mg "law"=some (.ref fa)) (hF:∀ (f:Addr) (fd:FuncData) (base:Heap),Fun K "law" "law" st f fd→FnOk P w K mg base (CX1 P w) k f fd ["script"] (spLaw K)) :
  ∃ fd:FuncData,(∀ (s:Shared) (u:Value),BindsTo s fd ⟨[u],[]⟩ [("script",u)])∧∀ base:Heap,K.In base→base.Ns mainGlobals mg→FnOk P w K mg base (CX1 P w) k fa fd ["script"] (spLaw K):=by
 obtain ⟨f,fd,F,hm⟩:=S.ex
 rw [hmg] at hm
 cases hm
 refine ⟨fd,?_,fun base _ _=>hF fa fd base F⟩
 obtain ⟨oc,od,kV,doc,pm,an,cdv,ct,osl,rfl,lk,hcd⟩:=F.ex
 exact fun s u=>.of_eq (hb kV doc pm an cdv ct [u] rfl)
end
theorem walk_ofS {l:PySem.W.OpenLaw} {k:Nat} {q:Program} {loose:List Str} {XP:(Str→Option Value)→Heap→Prop} {YP:World→Heap→Prop} {d:DefRec} {K:Params→PySem.W.Frag}
  (hr:Room k callerA) (hn:l.most=some 63) (hdf:d.params.defaults=[])
  (hY:∀ (w:World) (h:Heap),YP w h→(K w.params).In h)
  (F:∀ (w:World) (mg:Str→Option Value) (fa:Addr) (h:Heap),(K w.params).In h→h.Ns mainGlobals mg→mg d.name=some (.ref fa) →
   ∃ fd:FuncData,(∀ (s:Shared) (u:Value),BindsTo s fd ⟨[u],[]⟩ [("script",u)]) ∧
    ∀ base:Heap,(K w.params).In base→base.Ns mainGlobals mg→FnOk l.prog w (K w.params) mg base (CX1 l.prog w) k fa fd ["script"] (spLaw (K w.params))) :
  PySem.W.WalkO q loose XP YP l.row.toRowW d [] (fun f vs=>PySem.call f vs) :=
 walk_of (n:=63) (k:=k) (x:="script") (CX:=fun w=>CX1 l.prog w) (sp:=fun w=>spLaw (K w.params)) hn (by decide) hdf hr hY F (fun _ _ a ns hl _ hS=>⟨a,ns,rfl,hS,hl,fun _=>rfl⟩)
  fun _ _ _ _ _ h=>by obtain ⟨_,_,_,_,_,_,_,q⟩:=h;exact q.elim
theorem pe_gint {X:Cx} {x:Str} {n:Int} {pos:Pos} (h:∃ tk,X.mg x=some (.int n tk)) (hg:Gl X x:=by rfl) (hd:(x == ("__debug__":Str))=false:=by decide):PE X (.Name x pos) (tC (.int n)):=by
 obtain ⟨tk,e⟩:=h
 exact pe_glob hg e ⟨tk,rfl⟩ hd
end L2
namespace L2
open PySem
theorem iteN {p A B:Prop} [Decidable p] (hp:¬ p) (h:B):if decide p=true then A else B:=by rw [decide_eq_false hp];exact iteF h
theorem iteY {p A B:Prop} [Decidable p] (hp:p) (h:A):if decide p=true then A else B:=by rw [decide_eq_true hp];exact iteT h
theorem iteNN {p A B:Prop} [Decidable p] (hp:p) (h:B):if (!decide p)=true then A else B:=by rw [decide_eq_true hp];exact iteF h
theorem iteNY {p A B:Prop} [Decidable p] (hp:¬ p) (h:A):if (!decide p)=true then A else B:=by rw [decide_eq_false hp];exact iteT h
theorem small_abs {n:Int} (h:-1000≤n) (h2:n≤1000):n.natAbs < 2 ^ 1000:=by
 have:n.natAbs≤1000:=by omega
 exact Nat.lt_of_le_of_lt this (by decide)
theorem far_abs {n:Int} (h:-(10 ^ 60)≤n) (h2:n≤10 ^ 60):n.natAbs < 2 ^ 1000:=by
 have:n.natAbs≤10 ^ 60:=by omega
 exact Nat.lt_of_le_of_lt this (by decide)
theorem Same.put {H H':Hp} {p:Addr} {o:HO} (s:Same H H') (hp:H p=none):Same H (upd H' p o):=fun b u e=>by rw [upd_ne (ne_of_none e hp)];exact s b u e
theorem Same.new {H H':Hp} {p:Addr} {o:HO} (s:Same H H') (hp:H' p=none):Same H (upd H' p o):=s.put (s.free hp)
end L2
namespace L2
open PySem
end L2
namespace L2
open PySem PySem.Spec PyProof.Rows
theorem own1 {X:Cx} {E:XK} (Bd:Body X E):PassesOwn (model X.prog X.w) X.A X.env X.xe:=by
 rw [Bd.xe]
 exact PassesOwn.leaving
theorem all_true (n:Nat):(List.range n).all (fun _=>true)=true:=by simp
section
variable {X:Cx} {pins:List (Addr × Obj)} {σ:St} {H:Hp} {s:Shared}
theorem rel_at {xs:List V} {its:List Value} (r:Vals xs its) (j:Nat) (h:j < its.toArray.size):∃ x,xs[j]?=some x∧RelV x its.toArray[j]:=by
 have hj:j < its.length:=by simpa using h
 have hl:=r.length
 have hx:xs[j]?=some xs[j]:=by simp [show j < xs.length by omega]
 obtain ⟨u,hu,ru⟩:=r.get hx
 refine ⟨_,hx,?_⟩
 have e:its.toArray[j]=u:=by
  have:=hu
  rw [List.getElem?_eq_getElem hj] at this
  simpa using Option.some.inj this
 rw [e]
 exact ru
end
section
variable {X:Cx}
theorem hu16 {A:Around} {k:Nat} (hr:Room k A):A.units+16 < cLine:=by have:=hr.un;omega
theorem call_all:CallR X (.builtin "all") (fun xs H Q=>∃ (p:Addr) (bs:List Bool),X.calm=true∧xs=[.ref p]∧SqL X.K H p (bs.map V.bl)∧Q (.bl (bs.all id)) H):=by
 intro pins s σ H xs us Q I r h
 obtain ⟨p,bs,hc,rfl,hq,q⟩:=h
 obtain ⟨u,rfl,rx⟩:=vals1 r
 cases rx
 obtain ⟨its,r1,p1,_⟩:=I.list hq
 have l1:=r1.length
 rw [List.length_map] at l1
 refine call_all_walk (wpAny_pyIter_list p1.isList ?_)
 have hne:p≠s.heap.objs.size:=by
  obtain ⟨o,n,ho,_⟩:=p1
  exact Nat.ne_of_lt (Heap.lt_size ho)
 refine ⟨_,_,_,its.toArray.size,_,_,fun i=>bs.getD i true,rfl,Walks.list (A:=X.A.in1) (I.ok.hd hc) s.heap.objs.size p hne its.toArray,?_,?_,fun h' tk kp=>?_⟩
 ·exact ⟨⟨_,Heap.get?_push_size _ rfl,rfl,rfl⟩,p1.isList.at fun o e=>Heap.get?_push_of_some _ e⟩
 ·intro i v s' Q' E' hv hQ
  have hi:i < its.length:=by
   have:=hv
   simp only [List.getElem?_toArray] at this
   exact (List.getElem?_eq_some_iff.mp this).1
  have hb:(bs.map V.bl)[i]?=some (V.bl bs[i]):=by simp [show i < bs.length by omega]
  obtain ⟨u,hu,ru⟩:=r1.get hb
  have e:u=v:=by
   simp only [List.getElem?_toArray] at hv
   rw [hu] at hv
   exact Option.some.inj hv
  subst e
  cases ru
  refine wpAny_truthy_bool ?_
  have e2:bs.getD i true=bs[i]:=by simp [List.getD,show i < bs.length by omega]
  rw [← e2]
  exact hQ
 ·have e:(List.range its.toArray.size).all (fun i=>bs.getD i true)=bs.all id:=by
   have hz:its.toArray.size=bs.length:=by simp;omega
   rw [hz,Bool.eq_iff_iff]
   simp only [List.all_eq_true,List.mem_range,id]
   constructor
   ·intro h b hb
    obtain ⟨n,hn,rfl⟩:=List.getElem_of_mem hb
    have:=h n hn
    simpa [List.getD,hn] using this
   ·intro h i hi
    have:=h bs[i] (List.getElem_mem hi)
    simpa [List.getD,hi] using this
  rw [e]
  exact ⟨.bl (bs.all id),H,I.kept (t':=tk) fun b o eb=>kp b o (by
   intro z
   have hb:b=s.heap.objs.size:=by simpa using z
   exact absurd (Heap.lt_size eb) (by rw [hb];exact Nat.lt_irrefl _)) (Heap.get?_push_of_some _ eb),rfl,q⟩
end
end L2
namespace L2
open PySem PySem.Spec PyProof.Rows
def scopeOk (Nc:List Str) (ix:List (Option Nat)) (scope sc:Scope) (N:List Str):Bool :=
 decide (scope.kind=.function) && decide Nc.Nodup && decide (ix.length=Nc.length) &&
 (scope.names.all fun x=>decide (x.2=.local→scope.names.lookup x.1=some .local)) &&
 (scope.names.all fun x=>decide (x.2=.free→sc.names.lookup x.1=some .cell∨sc.names.lookup x.1=some .free)) &&
 (scope.names.all fun x=>decide (x.2=.free→(x.1,NameKind.cell) ∉ scope.names)) &&
 ((ix.zip Nc).all fun p=>match p.1 with | none=>true | some j=>decide (N[j]?=some p.2∧scope.names.lookup p.2=some .free))
theorem cscope {X:Cx} {Nc:List Str} {ix:List (Option Nat)} {scope:Scope} (sc:Scope) (N:List Str) (hsc:X.env.scope=sc) (hN:X.N=N) (h:scopeOk Nc ix scope sc N=true):CompScope X Nc ix scope:=by
 subst hsc hN
 simp only [scopeOk,Bool.and_eq_true,decide_eq_true_eq,List.all_eq_true] at h
 obtain ⟨⟨⟨⟨⟨⟨h1,h2⟩,h3⟩,h4⟩,h5⟩,h6⟩,h7⟩:=h
 refine ⟨h1,h2,h3,h4,h5,fun x hx=>h6 _ hx rfl,fun i j x e1 e2=>?_⟩
 have hm:(some j,x) ∈ ix.zip Nc:=by
  refine List.mem_iff_getElem?.mpr ⟨i,?_⟩
  rw [List.getElem?_zip_eq_some]
  exact ⟨e1,e2⟩
 have:=h7 _ hm
 simpa using this
end L2
namespace L2
open PySem PySem.Spec PyProof.Rows
section
variable {K:PySem.W.Frag} {g:TG} {tt:TT} {te:TE} {D:Addr} {σ:St} {H:Hp} {Q:VK}
theorem lc_list {a:Addr} {xs:List V} (Pv:Nat→St→Hp→Prop) (h0:Pv 0 σ H) (hl:∀ i σ H,i≤xs.length→Pv i σ H→SqL K H a xs)
  (hs:∀ (i:Nat) (x:V) (σ:St) (H:Hp) (N:St→Hp→Prop),(∀ σ H,Pv (i+1) σ H→N σ H)→xs[i]?=some x→Pv i σ H→g x σ H fun σ3 H3=>tt σ3 H3 fun b H4 =>
   if b=true then te σ3 H4 fun v H5=>∃ ys,H5 D=some (.lst ys)∧ys.length < sizeLine∧N σ3 (upd H5 D (.lst (ys ++ [v]))) else N σ3 H4)
  (hd:∀ σ H,Pv xs.length σ H→Q (.ref D) H) :
  lcRun (Itl K a) g tt te D σ H Q:=by
 refine ⟨fun i m σ H=>m=xs.length - i∧i≤xs.length∧Pv i σ H,⟨xs.length,by simp,Nat.zero_le _,h0⟩,?_⟩
 rintro i m σ' H' ⟨rfl,hi,p⟩
 have q:=hl i σ' H' hi p
 by_cases hlt:i < xs.length
 ·refine .inr ⟨⟨xs,xs[i],q,by simp [hlt]⟩,fun x H2 y=>?_⟩
  obtain ⟨e,y⟩:=y
  subst e
  exact hs i x σ' _ (fun σ3 H3=>∃ m',m' < xs.length - i∧m'=xs.length - (i+1)∧i+1≤xs.length∧Pv (i+1) σ3 H3) (fun σ3 H3 z=>⟨xs.length - (i+1),by omega,rfl,hlt,z⟩) (y xs q) p
 ·have e:i=xs.length:=by omega
  subst e
  exact .inl ⟨⟨xs,q,Nat.le_refl _⟩,hd σ' H' p⟩
theorem lc_range {lo:Int} {n:Nat} (Pv:Nat→St→Hp→Prop) (h0:Pv 0 σ H)
  (hs:∀ (i:Nat) (σ:St) (H:Hp) (N:St→Hp→Prop),(∀ σ H,Pv (i+1) σ H→N σ H)→i < n→Pv i σ H→g (.int (lo+i)) σ H fun σ3 H3=>tt σ3 H3 fun b H4 =>
   if b=true then te σ3 H4 fun v H5=>∃ ys,H5 D=some (.lst ys)∧ys.length < sizeLine∧N σ3 (upd H5 D (.lst (ys ++ [v]))) else N σ3 H4)
  (hd:∀ σ H,Pv n σ H→Q (.ref D) H) :
  lcRun (Itr lo n) g tt te D σ H Q:=by
 refine ⟨fun i m σ H=>m=n - i∧i≤n∧Pv i σ H,⟨n,by simp,Nat.zero_le _,h0⟩,?_⟩
 rintro i m σ' H' ⟨rfl,hi,p⟩
 by_cases hlt:i < n
 ·refine .inr ⟨hlt,fun x H2 y=>?_⟩
  obtain ⟨e,y⟩:=y
  subst e y
  exact hs i σ' _ (fun σ3 H3=>∃ m',m' < n - i∧m'=n - (i+1)∧i+1≤n∧Pv (i+1) σ3 H3) (fun σ3 H3 z=>⟨n - (i+1),by omega,rfl,hlt,z⟩) hlt p
 ·have e:i=n:=by omega
  subst e
  exact .inl ⟨Nat.le_refl _,hd σ' H' p⟩
end
theorem item_of {ns:List Int} {i:Nat} {y:V} (h:(ns.map V.int)[i]?=some y):∃ z,ns[i]?=some z∧y=V.int z:=by
 rw [List.getElem?_map] at h
 cases e:ns[i]? with
 | none=>rw [e] at h;cases h
 | some z=>rw [e] at h;exact ⟨z,rfl,(Option.some.inj h).symm⟩
theorem take_succ {α:Type} {l:List α} {i:Nat} {x:α} (h:l[i]?=some x):l.take (i+1)=l.take i ++ [x]:=by
 rw [List.take_succ,h];rfl
end L2
namespace L2
open PySem
end L2
namespace L2
open PySem
theorem turn_do {i:Nat} {x:V} {σ:St} {H:Hp} {A B:St→Hp→Prop} (h:A (σ.set i (some x)) H):gName i x σ H fun σ3 H3=>tYes σ3 H3 fun b H4=>if b=true then A σ3 H4 else B σ3 H4:=by
 show if true=true then A (σ.set i (some x)) H else B (σ.set i (some x)) H
 exact iteT h
end L2
namespace L2
open PySem PySem.Spec PyProof.Rows
section
variable {X:Cx} {pins:List (Addr × Obj)} {σ:St} {H:Hp} {s:Shared} {h':Heap}
theorem Inv.turnedL {ch:List Addr} {t':Nat} (I:Inv X pins σ H s) (k:∀ b o,b ∉ ch→s.heap.get? b=some o→h'.get? b=some o) (hf:∀ b ∈ ch,FpOk X pins H b):Inv X pins σ H { s with heap:=h',toks:=t' }:=by
 have nin:∀ b u,H b=some u→b ∉ ch:=fun b u e z=>by rw [(hf b z).1] at e;cases e
 refine I.call' (s':={ s with heap:=h',toks:=t' }) (ch:=ch) rfl ⟨fun b o e _ _ hx=>k b o hx e,fun b o e _ _ hx=>⟨o.slots,k b o hx e⟩,fun _ _ _ n _=>n,fun b o e hx=>⟨o,k b o hx e⟩,fun _ _ e=>e,fun _ _ _ e=>e,fun b ps e=>⟨#[],by rw [e];simp⟩⟩ ?_ I.bare fun b hb=>?_
 ·intro b o e
  refine (I.hok b o e).stay (fun c u hc q=>k c u ?_ q) (fun _ q=>q) fun _ _ q=>q
  rcases hc with z | z
  ·rw [z];exact nin b o e
  ·exact nin c _ z
 ·obtain ⟨_,q1,_,q3,q4,q5⟩:=hf b hb
  exact ⟨q3,q1,q4,q5⟩
theorem Inv.turnedNew {ch:List Addr} {T:Addr} {o:HO} {t':Nat} (I:Inv X pins σ H s) (k:∀ b o,b ∉ ch→s.heap.get? b=some o→h'.get? b=some o) (hf:∀ b ∈ ch,FpOk X pins H b) (hT:s.heap.objs.size≤T)
  (new:ObjOk X.prog X.w (upd H T o) h' T o):Inv X pins σ (upd H T o) { s with heap:=h',toks:=t' }:=by
 have nin:∀ b u,H b=some u→b ∉ ch:=fun b u e z=>by rw [(hf b z).1] at e;cases e
 have hn:=I.hok.fresh hT
 have old:∀ b u,s.heap.get? b=some u→b≠T:=fun b u e=>Nat.ne_of_lt (Nat.lt_of_lt_of_le (Heap.lt_size e) hT)
 refine I.call' (s':={ s with heap:=h',toks:=t' }) (ch:=ch) rfl ⟨fun b o e _ _ hx=>k b o hx e,fun b o e _ _ hx=>⟨o.slots,k b o hx e⟩,fun b u e n _=>by rw [upd_ne (old b u e)];exact n,fun b o e hx=>⟨o,k b o hx e⟩,
  fun b xs e=>by rw [upd_ne (ne_of_none e hn)];exact e,fun b o u e=>by rw [upd_ne (ne_of_none e hn)];exact e,fun b ps e=>⟨#[],by rw [upd_ne (ne_of_none e hn),e];simp⟩⟩ ?_ I.bare fun b hb=>?_
 ·intro b u e
  by_cases hb:b=T
  ·subst hb
   rw [upd_same] at e
   cases e
   exact new
  ·rw [upd_ne hb] at e
   refine (I.hok b u e).stay (fun c v hc q=>k c v ?_ q) (fun c q=>by rw [upd_ne (ne_of_none q hn)];exact q) fun c xs q=>by rw [upd_ne (ne_of_none q hn)];exact q
   rcases hc with z | z
   ·rw [z];exact nin b u e
   ·exact nin c _ z
 ·obtain ⟨_,q1,_,q3,q4,q5⟩:=hf b hb
  exact ⟨q3,q1,q4,q5⟩
end
section
variable {X:Cx}
theorem pg_two {i j:Nat} {x y:Str} {px py pos:Pos} {k:Nat} (hc:X.calm=true) (hN:X.N.Nodup) (hi:X.N[i]?=some x) (hj:X.N[j]?=some y) (lx:Loc X.env.scope x) (ly:Loc X.env.scope y)
  (fx:X.fn x=true∨X.env.scope.names.lookup x=some .local:=by first | exact .inl rfl | exact .inr rfl) (fy:X.fn y=true∨X.env.scope.names.lookup y=some .local:=by first | exact .inl rfl | exact .inr rfl)
  (hs:(assignEach [.Name x px,.Name y py] X.env).map (·.2)=[assign (.Name x px) X.env,assign (.Name y py) X.env]:=by rfl) (hs2:(assignEach [.Name y py] X.env).map (·.2)=[assign (.Name y py) X.env]:=by rfl) (hs0:(assignEach [] X.env).map (·.2)=[]:=by rfl)
  (hn:(assignEach [.Name x px,.Name y py] X.env).length=2:=by rfl) (hst:(assignEach [.Name x px,.Name y py] X.env).findIdx? (·.1)=none:=by rfl) :
  PG X (.Tuple [.Name x px,.Name y py] k pos) (gTup X.K 2 (gCons (gName i) (gCons (gName j) gNil))) :=
 pg_tup hc (pgs_cons (pg_name hN hi lx fx) (pgs_cons (pg_name hN hj ly fy) pgs_nil (by rw [hs2,hs0])) (by rw [hs,hs2])) hn hst
end
end L2
namespace L2
open PySem PySem.Spec PyProof.Rows
section
variable {K:PySem.W.Frag} {g:TG} {tt:TT} {te:TE} {D:Addr} {σ:St} {H:Hp} {Q:VK}
end
section
variable {X:Cx}
end
end L2
namespace L2
open PySem PySem.Spec PyProof.Rows
def tabV (n:Nat) (f:Nat→V):List V:=(List.range n).map f
abbrev tabR (n:Nat) (f:Nat→Addr):List V:=tabV n fun j=>V.ref (f j)
theorem tab_len (n:Nat) (f:Nat→V):(tabV n f).length=n:=by simp [tabV]
theorem tab_get {n i:Nat} {f:Nat→V} (h:i < n):(tabV n f)[i]?=some (f i):=by simp [tabV,h]
end L2
namespace L2
open PySem PySem.Spec PyProof.Rows
section
variable {K:PySem.W.Frag} {g:TG} {tt:TT} {te:TE} {D:Addr} {σ:St} {H:Hp} {Q:VK}
end
end L2
namespace L2
open PySem
end L2
namespace L2
open PySem
theorem cut_ints (ns:List Int) (lo hi:Option Int):∃ as:List Int,cutV (ns.map V.int) lo hi=as.map V.int∧(∀ a ∈ as,a ∈ ns)∧as.length≤ns.length:=by
 refine ⟨(ns.drop (HT.sIx (ns.map V.int).length 0 lo)).take (HT.sIx (ns.map V.int).length (ns.map V.int).length hi - HT.sIx (ns.map V.int).length 0 lo),?_,fun a ha=>List.mem_of_mem_drop (List.mem_of_mem_take ha),?_⟩
 ·unfold cutV
  rw [List.map_take,List.map_drop]
 ·rw [List.length_take,List.length_drop]
  omega
end L2
namespace L2
end L2
namespace L2
open PySem PySem.Spec PyProof.Rows
def tCut (t:TS):TS:=fun D σ H=>∃ R:St→Hp→Prop,t { D with nx:=R } σ H∧∀ σ' H',R σ' H'→D.nx σ' H'
theorem ps_cut {X:Cx} {st:Stmt} {t:TS} (h:PS X st t):PS X st (tCut t):=by
 intro pins s σ H D I ⟨R,h1,h2⟩
 refine wpAny_mono (h pins s σ H { D with nx:=R } I h1) (fun f s' q=>?_) fun _ _ z=>z
 cases f with
 | next=>obtain ⟨σ',H',I',q⟩:=q;exact ⟨σ',H',I',h2 σ' H' q⟩
 | brk=>exact q
 | cont=>exact q
 | ret u=>exact q
end L2
namespace L2
open PySem PySem.Spec PyProof.Rows
section
variable {X:Cx} (K:PySem.W.Frag)
theorem ix_listK (hK:X.K=K:=by rfl):IxR X (rIxL K):=by subst hK;exact ix_list
theorem ix_tupK (hK:X.K=K:=by rfl):IxR X (rIxT K):=by subst hK;exact ix_tup
theorem sl_listK (hK:X.K=K:=by rfl):SlR X (rSlL K):=by subst hK;exact sl_list
theorem call_lenK (hK:X.K=K:=by rfl):CallR X (.builtin "len") (fun xs H Q=>∃ p ys,xs=[.ref p]∧(SqL K H p ys∨SqT K H p ys)∧Q (.int ys.length) H):=by subst hK;exact call_len_seq
theorem call_allK (hc:X.calm=true) (hK:X.K=K:=by rfl):CallR X (.builtin "all") (fun xs H Q=>∃ (p:Addr) (bs:List Bool),xs=[.ref p]∧SqL K H p (bs.map V.bl)∧Q (.bl (bs.all id)) H):=by
 subst hK
 intro pins s σ H xs us Q I r ⟨p,ns,h1,h2,h3⟩
 exact call_all pins s σ H xs us Q I r ⟨p,ns,hc,h1,h2,h3⟩
theorem op_catK (hK:X.K=K:=by rfl):OpR X (binaryOp .Add) (rCatS K):=by subst hK;exact op_catS
theorem pi_listK {tg l:Expr} {tl:TE} (hl:PE X l tl) (hK:X.K=K:=by rfl):PI X tg l (iList K tl):=by subst hK;exact pi_list hl
theorem pg_twoK {i j:Nat} {x y:Str} {px py pos:Pos} {k:Nat} (hc:X.calm=true) (hN:X.N.Nodup) (hi:X.N[i]?=some x) (hj:X.N[j]?=some y) (lx:Loc X.env.scope x) (ly:Loc X.env.scope y) (hK:X.K=K:=by rfl)
  (fx:X.fn x=true∨X.env.scope.names.lookup x=some .local:=by first | exact .inl rfl | exact .inr rfl) (fy:X.fn y=true∨X.env.scope.names.lookup y=some .local:=by first | exact .inl rfl | exact .inr rfl)
  (hs:(assignEach [.Name x px,.Name y py] X.env).map (·.2)=[assign (.Name x px) X.env,assign (.Name y py) X.env]:=by rfl) (hs2:(assignEach [.Name y py] X.env).map (·.2)=[assign (.Name y py) X.env]:=by rfl) (hs0:(assignEach [] X.env).map (·.2)=[]:=by rfl)
  (hn:(assignEach [.Name x px,.Name y py] X.env).length=2:=by rfl) (hst:(assignEach [.Name x px,.Name y py] X.env).findIdx? (·.1)=none:=by rfl) :
  PG X (.Tuple [.Name x px,.Name y py] k pos) (gTup K 2 (gCons (gName i) (gCons (gName j) gNil))):=by
 subst hK
 exact pg_two hc hN hi hj lx ly fx fy hs hs2 hs0 hn hst
theorem pe_bmK {o e:Expr} {es:List Expr} {to:TE} {t:TA} {name:Str} {apos cpos:Pos} {T id:String} {r:V→List V→Hp→VK→Prop} (pa:PlainAttrs T) (slot:Slot T name id) (hty:typeOf (.builtin id)=pure (.type "method_descriptor")) (hm:MtR X id r) (ho:PE X o to) (ha:PA X (e :: es) t) (hK:X.K=K:=by rfl)
  (hbase:attributeBase o name X.env (eval o X.env)=eval o X.env:=by rfl)
  (hfew:((backTo cpos (starEach (e :: es) X.env)).all (fun x=>!x.1) && (backToKw cpos (keywordEach [] X.env)).all (fun x=>x.1.isSome)
   && decide ((e :: es).length+([]:List Keyword).length+(if ([]:List Keyword).isEmpty then 0 else 1) < 30))=true:=by rfl)
  (hline:(apos.endLine == cpos.line)=true:=by rfl) (hs:starEach (e :: es) X.env=(false,eval e X.env) :: starEach es X.env:=by rfl) (hplain:(backTo cpos (starEach es X.env)).any (·.1)=false:=by rfl) :
  PE X (.Call (.Attribute o name apos) (e :: es) [] cpos) (tBM K T r to t):=by subst hK;exact pe_bm pa slot hty hm ho ha hbase hfew hline hs hplain
end
end L2
namespace L2
open PySem PySem.Spec PyProof.Rows
section
variable {X:Cx}
end
end L2
namespace L2
open PySem PySem.Spec PyProof.Rows
section
variable {prog:Program} {w:World} {A:Around} {E:Value→Shared→Prop} {s:Shared}
theorem nextOf_tup {it t:Addr} {i:Nat} {items:Array Value} {x:Value} {Q:Value→Shared→Prop} (hit:s.heap.IsTupleIter it t i) (ht:s.heap.IsTuple t items) (hx:items[i]?=some x)
  (hQ:∀ h',h'.IsTupleIter it t (i+1)→Heap.SameBut it s.heap h'→Q x { s with heap:=h' }):wpAny (model prog w) A (Builtin.SmallTypes.nextOf (.ref it)) Q E s:=by
 obtain ⟨o,ho,hc,hd⟩:=id hit
 obtain ⟨u,hu,_,m,du⟩:=ht
 unfold Builtin.SmallTypes.nextOf
 refine wpAny_bind (wpAny_callSpecial?_slot (name:=Str.ofString "__next__") hit.typeIs F.slot_tuple_iterator_next (wpAny_call_entry F.slot_tuple_iterator_next hit.typeIs F.entry_tuple_iterator_next ?_ (F.args_tuple_iterator_next_1 _)))
 refine (show wpAny _ _ (field (.ref it) 0 >>= _) _ _ s from wpAny_bind (wpAny_field ho hd (x:=.ref t) rfl ?_))
 refine (show wpAny _ _ (if (Value.ref t == Value.none)=true then _ else _) _ _ s from ?_)
 rw [if_neg (by exact Bool.false_ne_true)]
 refine (show wpAny _ _ (field (.ref it) 1 >>= _) _ _ s from wpAny_bind (wpAny_field ho hd (x:=.int i 0) rfl ?_))
 refine (show wpAny _ _ (seqItems? (.ref t) >>= _) _ _ s from wpAny_bind (wpAny_seqItems hu du ?_))
 simp only [hx,Int.toNat_natCast]
 refine wpAny_bind (wpAny_setField ho hd (by simp) (wpAny_pure ⟨x,rfl,wpAny_pure (hQ _ ⟨_,Heap.get?_update_self _ ho (Obj.isFreed_of_fields (Obj.data_mapFields hd _)),(Obj.cls_mapFields ..).trans hc,?_⟩ (Heap.SameBut.update ..))⟩))
 rw [Obj.data_mapFields hd]
 simp [rawInt]
end
section
variable {prog:Program} {w:World} {A:Around} {E:Value→Shared→Prop} {s:Shared}
end
section
variable {X:Cx}
end
section
variable {K:PySem.W.Frag} {g:TG} {tt:TT} {te:TE} {D:Addr} {σ:St} {H:Hp} {Q:VK}
end
end L2
namespace L2
open PySem
end L2
namespace L2
open PySem PySem.Spec PyProof.Rows
section
variable {K:PySem.W.Frag} {g:TG} {tt:TT} {te:TE} {D:Addr} {σ:St} {H:Hp} {Q:VK}
end
section
variable {P:Program} {w:World} {K:PySem.W.Frag} {mg:Str→Option Value} {base:Heap}
def spNo:Sp:=fun _ _ _ _=>False
theorem Site.no {x:Str} {st:Stmt} {N ps:List Str} (F:Site K mg x st) (S:FnScope N ps (defScope st))
  (hb:∀ (kV doc pm:Value) (an:Option Addr) (cdv ct:Value) (us:List Value),us.length=ps.length→bindArgs (PySem.W.fnOf x x (defArgs st) (defBody st) (defScope st) .none kV doc pm an cdv ct) ⟨us,[]⟩=pure (ps.zip us)):Def P w K mg base 1 x ps spNo :=
 F.def S hb (fun _ _ _ _ h=>h.elim) fun _ _ _ _ _ _ _ _ _ _ h=>h.elim
end
end L2
namespace L2
open PySem PySem.Spec PyProof.Rows
theorem Same.tup {K:PySem.W.Frag} {H H':Hp} {a:Addr} {xs:List V} (e:Same H H') (h:SqT K H a xs):SqT K H' a xs:=by
 rcases h with (h | ⟨o,h⟩) | h
 ·exact .inl (.inl (e _ _ h))
 ·exact .inl (.inr ⟨o,e _ _ h⟩)
 ·exact .inr h
section
variable {prog:Program} {w:World} {A:Around} {E:Value→Shared→Prop} {s:Shared}
theorem item_whole {t sl:Addr} {items:Array Value} {vl vu:Value} {lo hi:Option Int} {Q:Value→Shared→Prop} (ht:IsTup s.heap t items) (hs:s.heap.IsSliceOf sl vl vu .none) (pl:IsPart vl lo) (pu:IsPart vu hi)
  (h1:HT.sIx items.size 0 lo=0) (h2:HT.sIx items.size items.size hi=items.size) (h:Q (.ref t) s):wpAny (model prog w) A (getItem (.ref t) (.ref sl)) Q E s:=by
 obtain ⟨os,hos,hcs,hds⟩:=id hs
 have hTs:s.TypeIs (.ref sl) "slice":=⟨os,hos,hcs⟩
 unfold getItem
 try with_reducible refine wpAny_holding ?_
 first | refine wpAny_bind (wpAny_pure ?_) | skip
 refine wpAny_bind (wpAny_sequenceKey ht.typeIs (by decide) (wpAny_bind (wpAny_callSpecial?_slot (name:=Str.ofString "__getitem__") ht.typeIs PyProof.Rows.slot_tuple_getitem (wpAny_call_entry PyProof.Rows.slot_tuple_getitem ht.typeIs PyProof.Rows.entry_tuple_getitem ?_ (PyProof.Rows.args_tuple_getitem _ _)))))
 refine (show wpAny _ _ (Builtin.Tuple.tupleItemsOf (.ref t) >>= _) _ _ s from wpAny_bind (PyProof.Rows.tupleItemsOf_ ht (wpAny_bind (wpAny_typeOf hTs ?_))))
 rw [if_pos (by decide)]
 refine wpAny_bind (HT.sliceApplied_gen hs pl pu ?_)
 rw [h1,h2,Nat.sub_zero]
 refine (show wpAny _ _ (if ((((0:Nat):Int) == 0) && (1:Int) == 1 && items.size == items.size)=true then _ else _) _ _ s from ?_)
 rw [if_pos (by simp)]
 refine wpAny_bind ?_
 unfold Builtin.Tuple.tupleIsExact
 refine wpAny_bind (wpAny_typeOf ht.typeIs (wpAny_pure ?_))
 rw [if_pos (by decide)]
 first
  | exact wpAny_bind (wpAny_rule (wpAny_pure ⟨_,rfl,wpAny_pure h⟩))
  | exact wpAny_bind (wpAny_rule (wpAny_bind (wpAny_pure (wpAny_pure ⟨_,rfl,wpAny_pure h⟩))))
  | exact wpAny_bind (wpAny_bind (wpAny_rule (wpAny_pure (wpAny_pure ⟨_,rfl,wpAny_pure h⟩))))
end
section
variable {X:Cx}
def rSlA (K:PySem.W.Frag):V→Option Int→Option Int→Hp→VK→Prop:=fun x lo hi H Q=>∃ a xs,x=.ref a∧SqT K H a xs∧∀ r H',Same H H'→SqT K H' r (cutV xs lo hi)→Q (.ref r) H'
theorem sl_tupA (K:PySem.W.Frag) (hK:X.K=K:=by rfl):SlR X (rSlA K):=by
 subst hK
 intro pins s σ H x v vl vu lo hi sl Q I rx hs pl pu h
 obtain ⟨a,xs,rfl,hx,q⟩:=h
 by_cases hw:HT.sIx xs.length 0 lo=0∧HT.sIx xs.length xs.length hi=xs.length
 ·cases rx
  obtain ⟨its,r,ht,hz⟩:=I.tuple hx
  have hlen:its.toArray.size=xs.length:=by rw [List.size_toArray];exact r.length.symm
  refine ⟨"tuple",_,PyProof.Rows.slot_tuple_getitem.lookup,ht.typeIs,?_⟩
  refine item_whole ht hs pl pu (by rw [hlen];exact hw.1) (by rw [hlen];exact hw.2) ?_
  refine ⟨.ref a,H,I,rfl,q a H (Same.refl _) ?_⟩
  have e:cutV xs lo hi=xs:=by
   unfold cutV
   rw [hw.1,hw.2,List.drop_zero,Nat.sub_zero,List.take_length]
  rw [e]
  exact hx
 ·exact sl_tup pins s σ H (.ref a) v vl vu lo hi sl Q I rx hs pl pu ⟨a,xs,rfl,hx,hw,fun p hp=>q p _ ((Same.refl _).new hp) (SqT.of upd_same)⟩
def rCatA (K:PySem.W.Frag):R2:=fun x y H Q=>∃ a b xs ys,x=.ref a∧y=.ref b∧SqT K H a xs∧SqT K H b ys∧xs.length+ys.length≤sizeLine∧∀ r H',Same H H'→SqT K H' r (xs ++ ys)→Q (.ref r) H'
theorem op_catA (K:PySem.W.Frag) (hK:X.K=K:=by rfl):OpR X (binaryOp .Add) (rCatA K):=by
 subst hK
 intro pins s σ H x y v u Q I rx ry h
 obtain ⟨a,b,xs,ys,rfl,rfl,hx,hy,hz,q⟩:=h
 by_cases he:xs=[]
 ·subst he
  cases rx
  cases ry
  obtain ⟨its,r,ht,_⟩:=I.tuple hx
  obtain ⟨its2,r2,ht2,_⟩:=I.tuple hy
  cases r
  obtain ⟨⟨cls,dd,data,sl⟩,ho,hc,n,hd⟩:=id ht
  obtain ⟨⟨cls2,dd2,data2,sl2⟩,ho2,hc2,n2,hd2⟩:=id ht2
  simp only at hc hd hc2 hd2
  subst hc hd hc2 hd2
  refine concat_meets ⟨_,ho,rfl⟩ ⟨_,ho2,rfl⟩ PySem.noFill_tuple_add PySem.seq_tuple_add PySem.F.slot_tuple_add PySem.F.entry_tuple_add (PySem.F.args_tuple_add_2 _ _) (tuple_addW0 a b _ its2.toArray n n2 dd dd2 sl sl2 (by simp)) ⟨ho,ho2,?_⟩
  exact ⟨.ref b,H,I,rfl,q b H (Same.refl _) hy⟩
 ·refine op_catT pins s σ H (.ref a) (.ref b) v u Q I rx ry ⟨a,b,xs,ys,rfl,rfl,hx,hy,he,hz,?_⟩
  by_cases hw:ys=[]
  ·subst hw
   first
    | exact ⟨fun _=>q a H (Same.refl _) (by rw [List.append_nil];exact hx),fun z=>absurd rfl z⟩
    | exact .inl ⟨rfl,q a H (Same.refl _) (by rw [List.append_nil];exact hx)⟩
  ·first
    | exact ⟨fun z=>absurd z hw,fun _ p hp=>q p _ ((Same.refl _).new hp) (SqT.of upd_same)⟩
    | exact .inr ⟨hw,fun p hp=>q p _ ((Same.refl _).new hp) (SqT.of upd_same)⟩
end
inductive Like (K:PySem.W.Frag) (H:Hp):Nat→V→V→Prop where
 | flat {n:Nat} (x:V):flatV x=true→Like K H n x x
 | same {n:Nat} (a:Addr):Like K H n (.ref a) (.ref a)
 | lst {n:Nat} {a b:Addr} {xs ys:List V} (ha:SqL K H a xs) (hb:SqL K H b ys) (hl:xs.length=ys.length) (h:∀ (j:Nat) (x y:V),xs[j]?=some x→ys[j]?=some y→Like K H n x y):Like K H (n+1) (.ref a) (.ref b)
 | tup {n:Nat} {a b:Addr} {xs ys:List V} (ha:SqT K H a xs) (hb:SqT K H b ys) (hl:xs.length=ys.length) (h:∀ (j:Nat) (x y:V),xs[j]?=some x→ys[j]?=some y→Like K H n x y):Like K H (n+1) (.ref a) (.ref b)
theorem eqV_same:∀ (x:V),flatV x=true→eqV x x=true
 | .non,_=>rfl
 | .bl b,_=>by simp [eqV]
 | .int i,_=>by simp [eqV]
 | .str z,_=>by simp [eqV]
 | .ref _,h=>absurd h (by intro z;cases z)
 | .ty _,h=>absurd h (by intro z;cases z)
section
variable {X:Cx} {pins:List (Addr × Obj)} {σ:St} {H:Hp} {s:Shared}
theorem like_at (I:Inv X pins σ H s) {n:Nat} {x y:V} (h:Like X.K H n x y):∀ {A:Around} {u v:Value},A.units+n < cLine→RelV x u→RelV y v→SeqAt.EqAt A s u v true:=by
 induction h with
 | flat x fx=>intro A u v _ ru rv;have:=eqAt_V (A:=A) (s:=s) ru rv fx fx;rwa [eqV_same x fx] at this
 | same a=>intro A u v _ ru rv;cases ru;cases rv;exact SeqAt.EqAt.same _
 | @lst n a b xs ys ha hb hl h ih =>
  intro A u v hu ru rv
  cases ru
  cases rv
  by_cases hab:a=b
  ·subst hab
   exact SeqAt.EqAt.same _
  ·obtain ⟨its,r1,p1,_⟩:=I.list ha
   obtain ⟨its2,r2,p2,_⟩:=I.list hb
   have l1:=r1.length
   have l2:=r2.length
   refine SeqAt.EqAt.of_refs hab ?_
   have q:=SeqAt.RcAt.lists (A:=A) (s:=s) (e:=fun _=>true) p1.isList p2.isList (by simp;omega) (by omega) fun j h1 h2=>?_
   ·rw [all_true] at q
    exact q
   ·obtain ⟨x,hx,rx⟩:=rel_at r1 j h1
    obtain ⟨y,hy,ry⟩:=rel_at r2 j h2
    exact ih j x y hx hy (A:=A.in1) (by show A.units+1+n < cLine;omega) rx ry
 | @tup n a b xs ys ha hb hl h ih =>
  intro A u v hu ru rv
  cases ru
  cases rv
  by_cases hab:a=b
  ·subst hab
   exact SeqAt.EqAt.same _
  ·obtain ⟨its,r1,p1,_⟩:=I.tuple ha
   obtain ⟨its2,r2,p2,_⟩:=I.tuple hb
   have l1:=r1.length
   have l2:=r2.length
   refine SeqAt.EqAt.of_refs hab ?_
   have q:=SeqAt.RcAt.tuples (A:=A) (s:=s) (e:=fun _=>true) (show s.heap.IsTuple a its.toArray from p1) (show s.heap.IsTuple b its2.toArray from p2) (by omega) fun j h1 h2=>?_
   ·rw [all_true,Bool.true_and,show (its.toArray.size == its2.toArray.size)=true by simp;omega] at q
    exact q
   ·obtain ⟨x,hx,rx⟩:=rel_at r1 j h1
    obtain ⟨y,hy,ry⟩:=rel_at r2 j h2
    exact ih j x y hx hy (A:=A.in1) (by show A.units+1+n < cLine;omega) rx ry
end
section
variable {X:Cx}
def rEqG (K:PySem.W.Frag) (neg:Bool):R2:=fun x y H Q=>∃ a b xs ys,x=.ref a∧y=.ref b∧SqL K H a xs∧SqL K H b ys ∧
 ((xs.length=ys.length∧(∀ (j:Nat) (u v:V),xs[j]?=some u→ys[j]?=some v→Like K H 8 u v)∧Q (.bl (!neg)) H)∨(xs.length≠ys.length∧Q (.bl neg) H))
theorem op_eqGK (K:PySem.W.Frag) (hu:X.A.units+16 < cLine) (hK:X.K=K:=by rfl):OpR X (compareOp .Eq) (rEqG K false):=by
 subst hK
 intro pins s σ H x y v u Q I rx ry h
 obtain ⟨a,b,xs,ys,rfl,rfl,ha,hb,h⟩:=h
 cases rx
 cases ry
 obtain ⟨its,r1,p1,_⟩:=I.list ha
 obtain ⟨its2,r2,p2,_⟩:=I.list hb
 have l1:=r1.length
 have l2:=r2.length
 rcases h with ⟨hl,he,q⟩ | ⟨hl,q⟩
 ·refine SeqAt.eq_listAt (e:=fun _=>true) p1.isList p2.isList (by simp;omega) (by omega) (fun j h1 h2=>?_) ?_
  ·obtain ⟨x,hx,rx⟩:=rel_at r1 j h1
   obtain ⟨y,hy,ry⟩:=rel_at r2 j h2
   exact like_at I (he j x y hx hy) (A:=X.A.in1) (by show X.A.units+1+8 < cLine;omega) rx ry
  ·rw [all_true]
   exact ⟨.bl true,H,I,rfl,q⟩
 ·refine SeqAt.eq_list_lengthsAt p1.isList p2.isList (by simp;omega) (by omega) ?_
  exact ⟨.bl false,H,I,rfl,q⟩
theorem pi_tupK (K:PySem.W.Frag) {tg l:Expr} {tl:TE} (hl:PE X l tl) (hK:X.K=K:=by rfl):PI X tg l (iTup K tl):=by subst hK;exact pi_tup hl
theorem call_tupleK (K:PySem.W.Frag) (hK:X.K=K:=by rfl):CallR X (.type "tuple") (fun xs H Q=>∃ p ys,xs=[.ref p]∧((SqL K H p ys∧∀ l,H l=none→Q (.ref l) (upd H l (.tup ys)))∨(SqT K H p ys∧Q (.ref p) H))):=by subst hK;exact call_tuple_of
end
section
variable {K:PySem.W.Frag} {g:TG} {tt:TT} {te:TE} {D:Addr} {σ:St} {H:Hp} {Q:VK}
end
end L2
namespace L2
open PySem PySem.Spec PyProof.Rows
theorem int_pairs:∀ {ns:List Int} {its:List Value},Vals (ns.map V.int) its→∃ ps:List (Int × Tok),its=ps.map (fun q=>Value.int q.1 q.2)∧ps.map (·.1)=ns
 | [],_,.nil=>⟨[],rfl,rfl⟩
 | n :: ns,_,.cons r rr=>by
  obtain ⟨t,rfl⟩:=r
  obtain ⟨ps,rfl,e⟩:=int_pairs rr
  exact ⟨(n,t) :: ps,rfl,by rw [List.map_cons,e]⟩
section
variable {X:Cx}
theorem call_minL (hc:X.calm=true):CallR X (.builtin "min") (fun xs H Q=>∃ (p:Addr) (ns:List Int),xs=[.ref p]∧SqL X.K H p (ns.map V.int)∧ns≠[]∧∀ M,M ∈ ns→(∀ a ∈ ns,M≤a)→Q (.int M) H):=by
 intro pins s σ H xs us Q I r h
 obtain ⟨p,ns,rfl,hq,hne,q⟩:=h
 obtain ⟨u,rfl,rx⟩:=vals1 r
 cases rx
 obtain ⟨its,r1,p1,_⟩:=I.list hq
 obtain ⟨ps,rfl,eps⟩:=int_pairs r1
 have hh:X.A.handled=none:=I.ok.hd hc
 have hsz:0 < ps.length:=by
  rcases ps with _ | ⟨a,b⟩
  ·exact absurd eps.symm hne
  ·simp
 refine min_intList (xs:=ps.toArray) hh (by simpa [intItems] using p1.isList) (by simpa using hsz) fun v h' tk hv hk=>?_
 obtain ⟨t,rfl⟩:=intItems_at hv
 obtain ⟨h1,h2⟩:=argBest_lt (numAt ps.toArray) (ps.toArray.size - 1)
 refine ⟨.int _,H,I.kept (t':=tk) hk,⟨t,rfl⟩,q _ ?_ fun a ha=>?_⟩
 ·rw [← eps,numAt_eq];exact getD_mem (by simp at h1 ⊢;omega)
 ·rw [← eps] at ha
  obtain ⟨j,hj,rfl⟩:=mem_getD ha
  rw [List.length_map] at hj
  have:=h2 j (by simp;omega)
  rw [numAt_eq,numAt_eq] at this
  rw [numAt_eq]
  exact this
def rMin (K:PySem.W.Frag):List V→Hp→VK→Prop:=fun xs H Q=>∃ (p:Addr) (ns:List Int),xs=[.ref p]∧SqL K H p (ns.map V.int)∧ns≠[]∧∀ M,M ∈ ns→(∀ a ∈ ns,M≤a)→Q (.int M) H
theorem call_minK (K:PySem.W.Frag) (hc:X.calm=true:=by rfl) (hK:X.K=K:=by rfl):CallR X (.builtin "min") (rMin K):=by subst hK;exact call_minL hc
end
end L2
namespace L2
open PySem PySem.Spec PyProof.Rows
end L2
namespace L2
open PySem PySem.Spec PyProof.Rows
section
variable (P:Program) (w:World)
end
section
variable {P:Program} {w:World} {H H':Hp} {h h':Heap} {a:Addr} {o:HO}
end
section
variable {P:Program} {w:World} {H:Hp} {h h':Heap} {x e:Addr} {o':HO}
end
section
variable {fs fs' ex ex':List Addr} {H H1 H2:Hp} {h h1 h2 h':Heap} {a x e:Addr} {o:HO}
end
end L2
namespace L2
open PySem PySem.Spec PyProof.Rows
section
variable {X:Cx} {pins:List (Addr × Obj)} {σ:List (Option V)} {H H':Hp} {s:Shared} {h':Heap}
end
end L2
namespace L2
open PySem PySem.Spec PyProof.Rows
section
variable {X:Cx}
variable {a b:Expr} {ta tb:TE} {pos:Pos}
variable {tA tB':TT} {rest:List Expr}
end
end L2
namespace L2
open PySem PySem.Spec PyProof.Rows
section
variable {X:Cx} {pins:List (Addr × Obj)} {σ:St} {H:Hp} {s:Shared} {a:Addr} {xs ys:List V}
end
section
variable {X:Cx} {pins:List (Addr × Obj)} {σ:St} {H:Hp} {s:Shared} {E:Value→Shared→Prop}
end
section
variable {X:Cx} {st:Stmt} {rest:List Stmt} {t u:TS} {e:Expr} {te:TE} {pos:Pos}
end
section
variable {X:Cx} {pos:Pos}
end
section
variable {X:Cx} {pos:Pos}
end
end L2
namespace L2
open PySem PySem.Spec PyProof.Rows
section
variable {X:Cx} {tg:Expr}
end
end L2
namespace L2
open PySem PySem.Spec PyProof.Rows
section
variable {X:Cx} {a b c:Expr} {ta tb tc:TE} {pos:Pos}
end
section
variable {X:Cx} {a b c:Expr} {ta tb tc:TE} {pos:Pos}
end
end L2
namespace L2
open PySem PySem.Spec PyProof.Rows
section
variable {prog:Program} {w:World} {A:Around} {E:Value→Shared→Prop} {s:Shared} {K:PySem.W.Frag} {x dx C f:Addr} {mA:Str→Option Value} {name:Str} {v:Value}
end
section
variable {P:Program} {w:World} {H H':Hp} {h h':Heap} {a C dx:Addr} {fs fs':List (Str × V)}
end
section
variable {X:Cx} {pins:List (Addr × Obj)} {σ:St} {H:Hp} {s:Shared} {a C dx:Addr} {fs:List (Str × V)} {f:Str} {v:V} {A:Around} {E:Value→Shared→Prop}
end
section
variable {X:Cx} {o e value:Expr} {f:Str} {pos pos' tpos:Pos} {ta tv:TE}
end
section
variable {X:Cx} {pins:List (Addr × Obj)} {σ:St} {H:Hp} {s:Shared} {A:Around} {E:Value→Shared→Prop} {Q:Value→Shared→Prop} {c:Value} {b:Bool}
end
end L2
namespace L2
open PySem PySem.Spec PyProof.Rows
section
variable {X:Cx} {e:Expr} {es:List Expr} {te:TE} {t:TA} {pos:Pos}
end
section
variable {X:Cx} {pins:List (Addr × Obj)} {σ:St} {H:Hp} {s s':Shared}
end
section
variable {X:Cx} {CX:CXT} {k:Nat} {f C:Addr} {fd:FuncData} {ps:List Str} {sp:Sp} {dvs:List V} {ds:List Value} {E:XK} {x m:Str} {p pos apos:Pos} {e o:Expr} {es:List Expr} {ta:TE} {t:TA}
end
section
variable {X:Cx} {CX:CXT} {k:Nat} {f C:Addr} {fd:FuncData} {ps ks:List Str} {sp:Sp} {E:XK} {x m:Str} {p pos apos kpos:Pos} {e o:Expr} {es:List Expr} {kws:List Keyword} {te ta:TE} {t tk:TA} {nm:Option Str}
variable {g:List Value→List Value→List Value} {gV:List V→List V→List V}
end
end L2
namespace L2
open PySem PySem.Spec PyProof.Rows
section
variable {X:Cx} {x:Str} {p pos:Pos} {e:Expr} {es:List Expr} {t:TA} {id T:String} {r:List V→Hp→VK→Prop}
end
end L2
namespace L2
open PySem PySem.Spec PyProof.Rows
section
variable {κ:Type} [DecidableEq κ]
def valV (kvs:List (κ × V)) (k:κ):Option V:=(kvs.find? fun kv=>decide (kv.1=k)).map (·.2)
def putK (kvs:List (κ × V)) (k:κ) (v:V):List (κ × V) :=
 if (kvs.any fun kv=>decide (kv.1=k))=true then kvs.map (fun kv=>if kv.1=k then (kv.1,v) else kv) else kvs ++ [(k,v)]
def dropK (kvs:List (κ × V)) (k:κ):List (κ × V):=kvs.filter fun kv=>decide (kv.1≠k)
theorem valV_pos {p:κ × V} {r:List (κ × V)} {k:κ} (e:p.1=k):valV (p :: r) k=some p.2:=by simp [valV,List.find?_cons,e]
theorem valV_neg {p:κ × V} {r:List (κ × V)} {k:κ} (e:¬ p.1=k):valV (p :: r) k=valV r k:=by simp [valV,List.find?_cons,e]
theorem valV_any (k:κ):∀ kvs:List (κ × V),(kvs.any fun kv=>decide (kv.1=k))=(valV kvs k).isSome
 | []=>rfl
 | p :: r=>by
  rw [List.any_cons]
  by_cases e:p.1=k
  ·simp only [valV_pos e,decide_eq_true e,Bool.true_or,Option.isSome_some]
  ·rw [valV_neg e,decide_eq_false e,Bool.false_or];exact valV_any k r
theorem length_putK (kvs:List (κ × V)) (k:κ) (v:V):(putK kvs k v).length≤kvs.length+1:=by
 unfold putK
 split
 ·rw [List.length_map];omega
 ·rw [List.length_append,List.length_cons,List.length_nil];omega
theorem RelO.isSome_eq {o:Option V} {u:Option Value} (r:RelO o u):o.isSome=u.isSome:=by
 cases o with
 | none=>cases u with
  | none=>rfl
  | some _=>exact (show False from r).elim
 | some _=>cases u with
  | none=>exact (show False from r).elim
  | some _=>rfl
theorem KV.val {kvs:List (κ × V)} {vs:List (κ × Value)} (r:KV kvs vs) (k:κ):RelO (valV kvs k) (valueAt vs k):=by
 unfold KV at r
 induction r with
 | nil=>exact True.intro
 | @cons p q ps qs h t ih =>
  obtain ⟨h1,h2⟩:=h
  by_cases e:p.1=k
  ·have e':q.1=k:=h1.symm.trans e
   have b:valueAt (q :: qs) k=some q.2:=by simp [valueAt,List.find?_cons,e']
   rw [valV_pos e,b];exact h2
  ·have e':¬ q.1=k:=fun z=>e (h1.trans z)
   have b:valueAt (q :: qs) k=valueAt qs k:=by simp [valueAt,List.find?_cons,e']
   rw [valV_neg e,b];exact ih
theorem KV.any {kvs:List (κ × V)} {vs:List (κ × Value)} (r:KV kvs vs) (k:κ):(kvs.any fun kv=>decide (kv.1=k))=vs.any fun kv=>decide (kv.1=k):=by
 unfold KV at r
 induction r with
 | nil=>rfl
 | cons h t ih=>rw [List.any_cons,List.any_cons,ih,h.1]
theorem KV.repl {kvs:List (κ × V)} {vs:List (κ × Value)} (r:KV kvs vs) (k:κ) {y:V} {u:Value} (ry:RelV y u) :
  KV (kvs.map fun kv=>if kv.1=k then (kv.1,y) else kv) (vs.map fun kv=>if kv.1=k then (kv.1,u) else kv):=by
 unfold KV at r ⊢
 induction r with
 | nil=>exact .nil
 | @cons p q ps qs h t ih =>
  rw [List.map_cons,List.map_cons]
  refine .cons ?_ ih
  obtain ⟨h1,h2⟩:=h
  by_cases e:p.1=k
  ·rw [if_pos e,if_pos (h1.symm.trans e)];exact ⟨h1,ry⟩
  ·rw [if_neg e,if_neg (fun z=>e (h1.trans z))];exact ⟨h1,h2⟩
theorem KV.put {kvs:List (κ × V)} {vs:List (κ × Value)} (r:KV kvs vs) (k:κ) {y:V} {u:Value} (ry:RelV y u):KV (putK kvs k y) (stored vs k u):=by
 unfold putK stored
 rw [r.any k]
 by_cases e:(vs.any fun kv=>decide (kv.1=k))=true
 ·rw [if_pos e,if_pos e];exact r.repl k ry
 ·rw [if_neg e,if_neg e];exact Paired.snoc r ⟨rfl,ry⟩
theorem KV.drop {kvs:List (κ × V)} {vs:List (κ × Value)} (r:KV kvs vs) (k:κ):KV (dropK kvs k) (without vs k):=by
 unfold KV at r ⊢
 unfold dropK without
 induction r with
 | nil=>exact .nil
 | @cons p q ps qs h t ih =>
  obtain ⟨h1,h2⟩:=h
  rw [List.filter_cons,List.filter_cons]
  by_cases e:p.1=k
  ·have a:¬ decide (p.1≠k)=true:=by simp [e]
   have b:¬ decide (q.1≠k)=true:=by simp [h1.symm.trans e]
   rw [if_neg a,if_neg b];exact ih
  ·have e':¬ q.1=k:=fun z=>e (h1.trans z)
   have a:decide (p.1≠k)=true:=by simp [e]
   have b:decide (q.1≠k)=true:=by simp [e']
   rw [if_pos a,if_pos b];exact .cons ⟨h1,h2⟩ ih
theorem KV.length {kvs:List (κ × V)} {vs:List (κ × Value)} (r:KV kvs vs):kvs.length=vs.length:=Paired.length r
theorem dropK_le (kvs:List (κ × V)) (k:κ):(dropK kvs k).length≤kvs.length:=List.length_filter_le _ _
end
theorem kV_is {P:Program} {w:World} {k:Key} {u:Value} (r:RelV (kV k) u):(mixKind P w).is k u=true:=by
 cases k with
 | inl i=>obtain ⟨t,e⟩:=(show ∃ t,u=Value.int i t from r);subst e;exact mixKind_int P w i t
 | inr x=>obtain ⟨t,e⟩:=(show ∃ t,u=Value.str x t from r);subst e;exact mixKind_str P w x t
theorem items_are {P:Program} {w:World}:∀ {ks:List Key} {us:List Value},Vals (ks.map kV) us→ItemsAre (mixKind P w) ks us
 | [],_,r=>by rw [List.map_nil] at r;cases r;exact .nil
 | k :: ks,_,r=>by
  rw [List.map_cons] at r
  cases r with
  | cons h t=>exact .cons (kV_is h) (items_are t)
abbrev KT (H:Hp):List (List Key × V)→List (List Key × Addr × Value)→Prop:=Paired fun p q=>p.1=q.1∧H q.2.1=some (.tup (p.1.map kV))∧RelV p.2 q.2.2
theorem KT.val {H:Hp} {kvs:List (List Key × V)} {xs:List (List Key × Addr × Value)} (r:KT H kvs xs) (k:List Key):RelO (valV kvs k) ((atKey xs k).map (·.2)):=by
 induction r with
 | nil=>exact True.intro
 | @cons p q ps qs h t ih =>
  obtain ⟨h1,_,h2⟩:=h
  by_cases e:p.1=k
  ·have e':q.1=k:=h1.symm.trans e
   have b:atKey (q :: qs) k=some q.2:=by simp [atKey,List.find?_cons,e']
   rw [valV_pos e,b];exact h2
  ·have e':¬ q.1=k:=fun z=>e (h1.trans z)
   have b:atKey (q :: qs) k=atKey qs k:=by simp [atKey,List.find?_cons,e']
   rw [valV_neg e,b];exact ih
theorem KT.repl {H:Hp} {kvs:List (List Key × V)} {xs:List (List Key × Addr × Value)} (r:KT H kvs xs) (k:List Key) {y:V} {u:Value} (ry:RelV y u) :
  KT H (kvs.map fun kv=>if kv.1=k then (kv.1,y) else kv) (xs.map (putAt k u)):=by
 induction r with
 | nil=>exact .nil
 | @cons p q ps qs h t ih =>
  rw [List.map_cons,List.map_cons]
  refine .cons ?_ ih
  obtain ⟨h1,h2,h3⟩:=h
  unfold putAt
  by_cases e:p.1=k
  ·rw [if_pos e,if_pos (h1.symm.trans e)];exact ⟨h1,h2,ry⟩
  ·rw [if_neg e,if_neg (fun z=>e (h1.trans z))];exact ⟨h1,h2,h3⟩
theorem KT.put {H:Hp} {kvs:List (List Key × V)} {xs:List (List Key × Addr × Value)} (r:KT H kvs xs) (k:List Key) {b:Addr} {y:V} {u:Value} (hb:H b=some (.tup (k.map kV))) (ry:RelV y u) :
  KT H (putK kvs k y) (storedH xs k b u):=by
 have e:(kvs.any fun kv=>decide (kv.1=k))=(atKey xs k).isSome:=by
  rw [valV_any,(r.val k).isSome_eq,Option.isSome_map]
 unfold putK storedH
 rw [e]
 by_cases q:(atKey xs k).isSome=true
 ·rw [if_pos q,if_pos q];exact r.repl k ry
 ·rw [if_neg q,if_neg q];exact Paired.snoc r ⟨rfl,hb,ry⟩
theorem KT.keeps {H H':Hp} {kvs:List (List Key × V)} {xs:List (List Key × Addr × Value)} (r:KT H kvs xs) (ht:∀ b ys,H b=some (.tup ys)→H' b=some (.tup ys)):KT H' kvs xs :=
 Paired.mapP r fun _ _ z=>⟨z.1,ht _ _ z.2.1,z.2.2⟩
section
variable {P:Program} {w:World} {H:Hp} {h:Heap} {a:Addr}
theorem rd_of {u:HO} (ok:HOk P w H h) (e:Rd H a u):ObjOk P w H h a u:=e.ok ok
theorem dk_rd {kvs:List (Key × V)} (ok:HOk P w H h) (e:Rd H a (.dK kvs)):kvs.length≤sizeLine∧(a == sysModules)=false∧∃ vs,KV kvs vs∧h.DictOf (mixKind P w) a vs :=
 show ObjOk P w H h a (.dK kvs) from rd_of ok e
theorem dk_of {kvs:List (Key × V)} (ok:HOk P w H h) (e:H a=some (.dK kvs)):kvs.length≤sizeLine∧(a == sysModules)=false∧∃ vs,KV kvs vs∧h.DictOf (mixKind P w) a vs:=dk_rd ok (.inl e)
theorem key_of {ks:List Key} (ok:HOk P w H h) (e:H a=some (.tup (ks.map kV))):(tupleKind (mixKind P w)).is h ks a:=by
 obtain ⟨_,its,r,o,h1,h2,n,h3⟩:=(show ObjOk P w H h a (.tup (ks.map kV)) from ok a _ e)
 exact ⟨o,its.toArray,n,h1,h2,h3,by simpa using items_are r⟩
theorem dt_rd {kvs:List (List Key × V)} (ok:HOk P w H h) (e:Rd H a (.dT kvs)):kvs.length≤sizeLine∧(a == sysModules)=false ∧
  ∃ xs,KT H kvs xs∧h.DictOfH (tupleKind (mixKind P w)) a xs:=by
 obtain ⟨z,y,xs,r,o,es,ep,h1,h2,h3,h4,h5⟩:=(show ObjOk P w H h a (.dT kvs) from rd_of ok e)
 refine ⟨z,y,xs,r,o,es,ep,h1,h2,h3,h4,fun x hx=>?_,h5⟩
 have all:∀ {l:List (List Key × V)} {m:List (List Key × Addr × Value)},KT H l m→∀ x ∈ m,(tupleKind (mixKind P w)).is h x.1 x.2.1:=by
  intro l m q
  induction q with
  | nil=>intro x hx;exact nomatch hx
  | @cons p q ps qs hq t ih =>
   intro x hx
   rcases List.mem_cons.mp hx with e | hx
   ·subst e
    exact key_of ok (by rw [← hq.1];exact hq.2.1)
   ·exact ih x hx
 exact all r x hx
theorem dt_of {kvs:List (List Key × V)} (ok:HOk P w H h) (e:H a=some (.dT kvs)):kvs.length≤sizeLine∧(a == sysModules)=false ∧
  ∃ xs,KT H kvs xs∧h.DictOfH (tupleKind (mixKind P w)) a xs:=dt_rd ok (.inl e)
end
def DGet (H:Hp) (a:Addr) (y:V) (r:Option V):Prop :=
 (∃ kvs k,Rd H a (.dK kvs)∧y=kV k∧r=valV kvs k)∨∃ kvs k b,Rd H a (.dT kvs)∧y=.ref b∧H b=some (.tup (k.map kV))∧r=valV kvs k
def DPut (H:Hp) (a:Addr) (y v:V) (H':Hp):Prop :=
 (∃ kvs k,H a=some (.dK kvs)∧y=kV k∧kvs.length < sizeLine∧H'=upd H a (.dK (putK kvs k v))) ∨
 ∃ kvs k b,H a=some (.dT kvs)∧y=.ref b∧H b=some (.tup (k.map kV))∧kvs.length < sizeLine∧H'=upd H a (.dT (putK kvs k v))
theorem DGet.k {H:Hp} {a:Addr} {kvs:List (Key × V)} {k:Key} (e:H a=some (.dK kvs)):DGet H a (kV k) (valV kvs k):=.inl ⟨kvs,k,.inl e,rfl,rfl⟩
section
variable {X:Cx} {pins:List (Addr × Obj)} {σ:St} {H:Hp} {s:Shared} {a:Addr} {y v:V} {u r:Value} {o:Option V} {A:Around} {E:Value→Shared→Prop}
theorem Inv.big (I:Inv X pins σ H s):sysModules < s.heap.objs.size:=by
 have h:mainGlobals < s.heap.objs.size:=(I.mod.glob.keeps I.bk).lt
 exact Nat.lt_trans (by decide) h
theorem d_getItem {Q:Value→Shared→Prop} (hu:A.units+1 < cLine) (I:Inv X pins σ H s) (g:DGet H a y (some v)) (ry:RelV y u) (h:∀ w' s',Inv X pins σ H s'→RelV v w'→Q w' s') :
  wpAny (model X.prog X.w) A (getItem (.ref a) u) Q E s:=by
 rcases g with ⟨kvs,k,e,ey,l⟩ | ⟨kvs,k,b,e,ey,eb,l⟩
 ·subst ey
  obtain ⟨z,hd,vs,rel,dd⟩:=dk_rd I.hok e
  obtain ⟨w',hw,rw'⟩:=RelO.some_of (v:=v) (o:=valueAt vs k) (by rw [l];exact rel.val k)
  exact wpAny_getItem_of (kV_is ry) dd.mapOf hw (h w' _ (I.tok _) rw')
 ·subst ey
  cases (show u=Value.ref b from ry)
  obtain ⟨z,hd,xs,rel,dd⟩:=dt_rd I.hok e
  obtain ⟨w',hw,rw'⟩:=RelO.some_of (v:=v) (o:=(atKey xs k).map (·.2)) (by rw [l];exact rel.val k)
  obtain ⟨p,hp,hp2⟩:=Option.map_eq_some_iff.mp hw
  refine wpAny_getItem_heap (tupleKind_room_in1 hu) (key_of I.hok eb) dd hp ?_
  rw [hp2]
  exact h w' _ (I.tok _) rw'
theorem d_in {Q:Value→Shared→Prop} (hu:A.units+1 < cLine) (I:Inv X pins σ H s) (g:DGet H a y o) (ry:RelV y u) (h:∀ s',Inv X pins σ H s'→Q (.bool o.isSome) s') :
  wpAny (model X.prog X.w) A (compareOp .In u (.ref a)) Q E s:=by
 rcases g with ⟨kvs,k,e,ey,l⟩ | ⟨kvs,k,b,e,ey,eb,l⟩
 ·subst ey
  obtain ⟨z,hd,vs,rel,dd⟩:=dk_rd I.hok e
  refine wpAny_in_of (kV_is ry) hd dd.mapOf ?_
  rw [← (rel.val k).isSome_eq,← l]
  exact h _ (I.tok _)
 ·subst ey
  cases (show u=Value.ref b from ry)
  obtain ⟨z,hd,xs,rel,dd⟩:=dt_rd I.hok e
  refine wpAny_in_heap (tupleKind_room_in1 hu) (key_of I.hok eb) hd dd ?_
  have q:=(rel.val k).isSome_eq
  rw [Option.isSome_map] at q
  rw [← q,← l]
  exact h _ (I.tok _)
theorem d_notIn {Q:Value→Shared→Prop} (hu:A.units+1 < cLine) (I:Inv X pins σ H s) (g:DGet H a y o) (ry:RelV y u) (h:∀ s',Inv X pins σ H s'→Q (.bool (!o.isSome)) s') :
  wpAny (model X.prog X.w) A (compareOp .NotIn u (.ref a)) Q E s:=by
 rcases g with ⟨kvs,k,e,ey,l⟩ | ⟨kvs,k,b,e,ey,eb,l⟩
 ·subst ey
  obtain ⟨z,hd,vs,rel,dd⟩:=dk_rd I.hok e
  refine wpAny_notIn_of (kV_is ry) hd dd.mapOf ?_
  rw [← (rel.val k).isSome_eq,← l]
  exact h _ (I.tok _)
 ·subst ey
  cases (show u=Value.ref b from ry)
  obtain ⟨z,hd,xs,rel,dd⟩:=dt_rd I.hok e
  refine wpAny_notIn_heap (tupleKind_room_in1 hu) (key_of I.hok eb) hd dd ?_
  have q:=(rel.val k).isSome_eq
  rw [Option.isSome_map] at q
  rw [← q,← l]
  exact h _ (I.tok _)
theorem d_write {h':Heap} {t':Nat} {ob:HO} (I:Inv X pins σ H s) (mu:Mut (H a)) (hs:Heap.SameBut a s.heap h') (he:∃ q,h'.get? a=some q) (new:ObjOk X.prog X.w (upd H a ob) h' a ob) :
  Inv X pins σ (upd H a ob) { s with heap:=h',toks:=t' } :=
 I.write (x:=a) (e:=a) mu (.inl rfl) (fun b q hb z=>(hs.2 b hb).trans z) he new
theorem dk_new {P:Program} {w:World} {H':Hp} {h':Heap} {kvs:List (Key × V)} {vs:List (Key × Value)} (z:kvs.length≤sizeLine) (hd:(a == sysModules)=false) (rel:KV kvs vs) (dd:h'.DictOf (mixKind P w) a vs) :
  ObjOk P w H' h' a (.dK kvs):=⟨z,hd,vs,rel,dd⟩
theorem d_setItem {H':Hp} {Q:Unit→Shared→Prop} (hu:A.units+1 < cLine) (I:Inv X pins σ H s) (g:DPut H a y v H') (ry:RelV y u) (rv:RelV v r) (h:∀ s',Inv X pins σ H' s'→Q () s') :
  wpAny (model X.prog X.w) A (setItem (.ref a) u r) Q E s:=by
 rcases g with ⟨kvs,k,e,ey,l,eH⟩ | ⟨kvs,k,b,e,ey,eb,l,eH⟩
 ·subst ey eH
  obtain ⟨z,hd,vs,rel,dd⟩:=dk_of I.hok e
  have hz:vs.length≤sizeLine:=by rw [← rel.length];exact z
  have hl:(putK kvs k v).length≤sizeLine:=by have:=length_putK kvs k v;omega
  refine wpAny_setItem_pairs (hsz:=hz) (kV_is ry) dd fun h' dd' hs=>h _ ?_
  have he:∃ q,h'.get? a=some q:=let ⟨q,_,_,hq,_⟩:=dd';⟨q,hq⟩
  exact d_write I (by rw [e];exact True.intro) hs he (dk_new hl hd (rel.put k rv) dd')
 ·subst ey eH
  cases (show u=Value.ref b from ry)
  obtain ⟨z,hd,xs,rel,dd⟩:=dt_of I.hok e
  have hz:xs.length≤sizeLine:=by rw [← Paired.length rel];exact z
  have hl:(putK kvs k v).length≤sizeLine:=by have:=length_putK kvs k v;omega
  refine wpAny_setItem_heap (hsz:=hz) (tupleKind_room_in1 hu) (key_of I.hok eb) dd fun h' dd' hs=>h _ ?_
  obtain ⟨q,es,ep,hq,h2,h3,h4,_,h5⟩:=dd'
  refine d_write I (by rw [e];exact True.intro) hs ⟨q,hq⟩ ⟨hl,hd,_,(rel.put k eb rv).keeps fun c ys ec=>?_,q,es,ep,hq,h2,h3,h4,h5⟩
  rw [upd_ne (ne_of ec e (fun z=>nomatch z))]
  exact ec
end
section
variable {X:Cx} {pins:List (Addr × Obj)} {σ:St} {H:Hp} {s:Shared} {a:Addr} {kvs:List (Key × V)} {k:Key} {u:Value} {A:Around} {E:Value→Shared→Prop}
theorem d_pop {v:V} {more:List Value} {Q:Value→Shared→Prop} (I:Inv X pins σ H s) (e:H a=some (.dK kvs)) (ry:RelV (kV k) u) (l:valV kvs k=some v) (hm:more=[]∨∃ x,more=[x])
  (h:∀ w' s',Inv X pins σ (upd H a (.dK (dropK kvs k))) s'→RelV v w'→Q w' s'):wpAny (model X.prog X.w) A (call (.builtin "dict.pop") (.ref a :: u :: more)) Q E s:=by
 obtain ⟨z,hd,vs,rel,dd⟩:=dk_of I.hok e
 obtain ⟨w',hw,rw'⟩:=RelO.some_of (v:=v) (o:=valueAt vs k) (by rw [← l];exact rel.val k)
 have hp:(keyPart u).isSome=true:=by
  cases k with
  | inl i=>obtain ⟨t,q⟩:=(show ∃ t,u=Value.int i t from ry);subst q;rfl
  | inr x=>obtain ⟨t,q⟩:=(show ∃ t,u=Value.str x t from ry);subst q;rfl
 have ha:argsOk "dict.pop" ⟨.ref a :: u :: more,[]⟩:=by
  rcases hm with q | ⟨x,q⟩
  ·subst q;exact PySem.F.args_dict_pop_2 _ _
  ·subst q;exact PySem.F.args_dict_pop_3 _ _ _
 refine call_meetsIn PySem.F.slot_dict_pop dd.typeIs PySem.F.entry_dict_pop ha (meets_dict_pop_there (mixKind X.prog X.w) a (kV_is ry) more hm hp)
  ⟨vs,w',dd,by rw [← rel.length];exact z,hw,fun h' dd' hs=>h w' _ ?_ rw'⟩
 have he:∃ q,h'.get? a=some q:=let ⟨q,_,_,hq,_⟩:=dd';⟨q,hq⟩
 exact d_write I (by rw [e];exact True.intro) hs he (dk_new (Nat.le_trans (dropK_le kvs k) z) hd (rel.drop k) dd')
theorem d_popD {r:Value} {Q:Value→Shared→Prop} (I:Inv X pins σ H s) (e:H a=some (.dK kvs)) (ry:RelV (kV k) u) (l:valV kvs k=none) (h:∀ s',Inv X pins σ H s'→Q r s') :
  wpAny (model X.prog X.w) A (call (.builtin "dict.pop") [.ref a,u,r]) Q E s:=by
 obtain ⟨z,hd,vs,rel,dd⟩:=dk_of I.hok e
 have hn:valueAt vs k=none:=RelO.none_of (by rw [← l];exact rel.val k)
 have hp:(keyPart u).isSome=true:=by
  cases k with
  | inl i=>obtain ⟨t,q⟩:=(show ∃ t,u=Value.int i t from ry);subst q;rfl
  | inr x=>obtain ⟨t,q⟩:=(show ∃ t,u=Value.str x t from ry);subst q;rfl
 exact call_meetsIn PySem.F.slot_dict_pop dd.typeIs PySem.F.entry_dict_pop (PySem.F.args_dict_pop_3 _ _ _) (meets_dict_pop_default (mixKind X.prog X.w) a (kV_is ry) hd hp r) ⟨vs,dd,hn,h _ (I.tok _)⟩
end
def NoSl (i:Expr):Prop:=∀ ov iv,subscripted i false ov iv=operate [ov,iv] (getItem ov iv)
theorem subD_of {prog:Program} {w:World} {A:Around} {E:Value→Shared→Prop} {s:Shared} {env:Env} {value slice:Expr} {pos:Pos} {T id:String} {Q:Value→Shared→Prop}
  (hl:typeLookup (.type T) "__getitem__"=pure (some (.builtin id))) (hs:NoSl slice)
  (h:wpAny (model prog w) A (eval value env) (fun o s₁=>wpAny (model prog w) A (eval slice env) (fun i s₂=>s₂.TypeIs o T∧wpAny (model prog w) A (getItem o i) Q E s₂) E s₁) E s) :
  wpAny (model prog w) A (eval (.Subscript value slice pos) env) Q E s:=by
 refine Subscript_ (wpAny_mono h (fun o s₁ h₁=>wpAny_mono h₁ (fun i s₂ h₂=>?_) fun _ _ x=>x) fun _ _ x=>x)
 obtain ⟨hT,h₂⟩:=h₂
 unfold subscriptTail
 refine wpAny_bind ?_
 rw [getitemInPython_of_ne hT.not_modules]
 refine wpAny_bind (wpAny_specialOf hT hl ?_)
 have fin:wpAny (model prog w) A (subscripted slice false o i) (fun r s₃=>wpAny (model prog w) A (letTemporaryGo value o r >>= fun _=>pure r) Q E s₃) E s₂:=by
  rw [hs o i]
  exact wpAny_operating (wpAny_mono h₂ (fun r s₃ h₃=>wpAny_bind (wpAny_letTemporaryGo (wpAny_pure h₃))) fun _ _ x=>x)
 first
  | exact wpAny_pure (wpAny_bind fin)
  | exact wpAny_bind (wpAny_pure (wpAny_bind fin))
  | exact wpAny_bind fin
theorem dict_typeIs {X:Cx} {pins:List (Addr × Obj)} {σ:St} {H:Hp} {s:Shared} {a:Addr} {y:V} {o:Option V} (I:Inv X pins σ H s) (g:DGet H a y o):s.TypeIs (.ref a) "dict":=by
 rcases g with ⟨kvs,k,e,_,_⟩ | ⟨kvs,k,b,e,_,_,_⟩
 ·obtain ⟨_,_,vs,_,dd⟩:=dk_rd I.hok e
  exact dd.typeIs
 ·obtain ⟨_,_,xs,_,dd⟩:=dt_rd I.hok e
  exact dd.typeIs
def tDGet (td ty:TE):TE:=fun σ H Q=>td σ H fun x H1=>ty σ H1 fun y H2=>∃ a v,x=.ref a∧DGet H2 a y (some v)∧Q v H2
def tDIn (ty td:TE):TE:=fun σ H Q=>ty σ H fun y H1=>td σ H1 fun x H2=>∃ a o,x=.ref a∧DGet H2 a y o∧Q (.bl o.isSome) H2
def tDNotIn (ty td:TE):TE:=fun σ H Q=>ty σ H fun y H1=>td σ H1 fun x H2=>∃ a o,x=.ref a∧DGet H2 a y o∧Q (.bl (!o.isSome)) H2
def sDPut (td ty tv:TE):TS:=fun D σ H=>tv σ H fun v H1=>td σ H1 fun x H2=>ty σ H2 fun y H3=>∃ a H4,x=.ref a∧DPut H3 a y v H4∧D.nx σ H4
section
variable {X:Cx} {o i e value:Expr} {pos pos' tpos:Pos} {td ty tv:TE}
theorem pe_dget (hu:X.A.units+1 < cLine) (ho:PE X o td) (hi:PE X i ty) (hs:NoSl i):PE X (.Subscript o i pos) (tDGet td ty):=by
 intro pins s σ H Q I h
 refine subD_of PySem.F.slot_dict_getitem.lookup hs (thn (ho pins s σ H _ I h) fun u s1 ⟨x,H1,I1,rx,q1⟩=>thn (hi pins s1 σ H1 _ I1 q1) fun iv s2 ⟨y,H2,I2,ry,a,v,ex,g,q2⟩=>?_)
 subst ex
 obtain rfl:u=Value.ref a:=rx
 exact ⟨dict_typeIs I2 g,d_getItem hu I2 g ry fun w' s3 I3 rw'=>⟨v,H2,I3,rw',q2⟩⟩
theorem pc_din (hu:X.A.units+1 < cLine) (hi:PE X i ty) (ho:PE X o td):PC X .In i o (tDIn ty td):=by
 intro pins s σ H Q I h
 refine thn (hi pins s σ H _ I h) fun iv s1 ⟨y,H1,I1,ry,q1⟩=>thn (ho pins s1 σ H1 _ I1 q1) fun u s2 ⟨x,H2,I2,rx,a,ov,ex,g,q2⟩=>?_
 subst ex
 obtain rfl:u=Value.ref a:=rx
 exact d_in hu I2 g ry fun s3 I3=>⟨.bl ov.isSome,H2,I3,rfl,q2⟩
theorem pc_dnotin (hu:X.A.units+1 < cLine) (hi:PE X i ty) (ho:PE X o td):PC X .NotIn i o (tDNotIn ty td):=by
 intro pins s σ H Q I h
 refine thn (hi pins s σ H _ I h) fun iv s1 ⟨y,H1,I1,ry,q1⟩=>thn (ho pins s1 σ H1 _ I1 q1) fun u s2 ⟨x,H2,I2,rx,a,ov,ex,g,q2⟩=>?_
 subst ex
 obtain rfl:u=Value.ref a:=rx
 exact d_notIn hu I2 g ry fun s3 I3=>⟨.bl (!ov.isSome),H2,I3,rfl,q2⟩
theorem ps_dput (hu:X.A.units+1 < cLine) (ho:PE X o td) (hi:PE X i ty) (hv:PE X value tv) (hs:swapsWith value (some (.Subscript o i pos')) pos.line X.env=pure false) :
  PS X (.Assign [.Subscript o i pos'] value pos) (sDPut td ty tv):=by
 intro pins s σ H D I h
 refine wpAny_Assign_Subscript (thn (hv pins s σ H _ I h) fun r s1 ⟨v,H1,I1,rv,q1⟩=>thn (ho pins s1 σ H1 _ I1 q1) fun u s2 ⟨x,H2,I2,rx,q2⟩=>thn (hi pins s2 σ H2 _ I2 q2) fun iv s3 ⟨y,H3,I3,ry,a,H4,ex,g,q3⟩=>?_) hs
 subst ex
 obtain rfl:u=Value.ref a:=rx
 exact d_setItem hu I3 g ry rv fun s4 I4=>⟨σ,H4,I4,q3⟩
end
theorem dk_empty {P:Program} {w:World} {H:Hp} (h:Heap) (hb:sysModules < h.objs.size):ObjOk P w H (h.push { cls:=.type "dict",data:=.dict #[] }) h.objs.size (.dK []) :=
 ⟨Nat.zero_le _,beq_eq_false_iff_ne.mpr (Ne.symm (Nat.ne_of_lt hb)),[],.nil,Heap.DictOf.new h⟩
def tDNewK:TE:=fun _ H Q=>∀ p,H p=none→Q (.ref p) (upd H p (.dK []))
section
variable {X:Cx} {pos:Pos}
theorem pe_dnewK:PE X (.Dict [] [] pos) tDNewK:=fun pins s σ H Q I h =>
 wpAny_Dict_empty ⟨.ref s.heap.objs.size,_,I.laid (a:=s.heap.objs.size) (o:=.dK []) (t':=s.toks) (fun _ _ q=>Heap.get?_push_of_some _ q) (Nat.le_refl _) (dk_empty s.heap I.big),rfl,h _ (I.hok.fresh (Nat.le_refl _))⟩
end
def tPairs:List (TE × TE)→St→Hp→(List (V × V)→Hp→Prop)→Prop
 | [],_,H,Q=>Q [] H
 | (tk,tv) :: r,σ,H,Q=>tk σ H fun x H1=>tv σ H1 fun y H2=>tPairs r σ H2 fun ps H3=>Q ((x,y) :: ps) H3
abbrev VV:List (V × V)→List (Value × Value)→Prop:=Paired fun p q=>RelV p.1 q.1∧RelV p.2 q.2
def PPs (X:Cx) (pos:Pos) (keys:List (Option Expr)) (values:List Expr) (trs:List (TE × TE)):Prop :=
 ∀ (pins:List (Addr × Obj)) (s:Shared) (σ:St) (H:Hp) (Q:List (V × V)→Hp→Prop),Inv X pins σ H s→tPairs trs σ H Q →
  wpAny (model X.prog X.w) X.A (evalPairs (pairTrees keys values X.env pos)) (fun vs s'=>∃ ps H',Inv X pins σ H' s'∧VV ps vs∧Q ps H') X.xe s
theorem pps_nil {X:Cx} {pos:Pos}:PPs X pos [] [] []:=fun pins s σ H Q I h=>pairTrees_nil_walk ⟨[],H,I,.nil,h⟩
theorem pps_cons {X:Cx} {pos:Pos} {k v:Expr} {ks:List (Option Expr)} {vs:List Expr} {tk tv:TE} {trs:List (TE × TE)} (hk:PE X k tk) (hv:PE X v tv) (hr:PPs X pos ks vs trs) :
  PPs X pos (some k :: ks) (v :: vs) ((tk,tv) :: trs):=fun pins s σ H Q I h =>
 pairTrees_cons_walk (thn (hk pins s σ H _ I h) fun u s1 ⟨x,H1,I1,rx,q1⟩=>thn (hv pins s1 σ H1 _ I1 q1) fun w2 s2 ⟨y,H2,I2,ry,q2⟩ =>
  thn (hr pins s2 σ H2 _ I2 q2) fun ws s3 ⟨ps,H3,I3,rel,q3⟩=>⟨(x,y) :: ps,H3,I3,.cons ⟨rx,ry⟩ rel,q3⟩)
def mergeK (kvs more:List (Key × V)):List (Key × V):=more.foldl (fun acc kv=>putK acc kv.1 kv.2) kvs
theorem KV.merge:∀ {more:List (Key × V)} {rs:List (Key × Value)} {kvs:List (Key × V)} {vs:List (Key × Value)},KV more rs→KV kvs vs→KV (mergeK kvs more) (merged vs rs):=by
 intro more rs kvs vs r
 unfold KV at r
 induction r generalizing kvs vs with
 | nil=>intro q;exact q
 | @cons p q ps qs h t ih =>
  intro r0
  have e:KV (putK kvs p.1 p.2) (stored vs q.1 q.2):=by
   have:=r0.put p.1 h.2
   rw [← h.1];exact this
  exact ih e
theorem length_mergeK:∀ (more kvs:List (Key × V)),(mergeK kvs more).length≤kvs.length+more.length
 | [],kvs=>by show kvs.length≤kvs.length+0;omega
 | p :: r,kvs=>by
  have h1:=length_mergeK r (putK kvs p.1 p.2)
  have h2:=length_putK kvs p.1 p.2
  show (mergeK (putK kvs p.1 p.2) r).length≤_
  rw [List.length_cons];omega
theorem carries_of {P:Program} {w:World}:∀ {kvs:List (Key × V)} {ws:List (Value × Value)},VV (kvs.map fun kv=>(kV kv.1,kv.2)) ws→∃ rs,Carries (mixKind P w) ws rs∧KV kvs rs
 | [],_,r=>by rw [List.map_nil] at r;cases r;exact ⟨[],True.intro,.nil⟩
 | p :: kvs,_,r=>by
  rw [List.map_cons] at r
  cases r with
  | @cons a b as bs h t =>
   obtain ⟨rs,c,q⟩:=carries_of (P:=P) (w:=w) t
   obtain ⟨b1,b2⟩:=b
   exact ⟨(p.1,b2) :: rs,⟨kV_is h.1,rfl,c⟩,.cons ⟨rfl,h.2⟩ q⟩
def tDisp (trs:List (TE × TE)):TE:=fun σ H Q=>∀ p,H p=none→tPairs trs σ (upd H p (.dK [])) fun ps H2=>H2 p=some (.dK [])∧∃ kvs:List (Key × V),ps=kvs.map (fun kv=>(kV kv.1,kv.2))∧kvs.length≤15∧Q (.ref p) (upd H2 p (.dK (mergeK [] kvs)))
theorem pe_disp {X:Cx} {pos:Pos} {keys:List (Option Expr)} {values:List Expr} {trs:List (TE × TE)} (h:PPs X pos keys values trs) (hall:keys.all (·.isSome)=true) (hl:keys.length=values.length) (h0:keys≠[])
  (h15:keys.length≤15):PE X (.Dict keys values pos) (tDisp trs):=by
 intro pins s σ H Q I q
 have hn:=I.hok.fresh (Nat.le_refl s.heap.objs.size)
 have I1:=I.laid (a:=s.heap.objs.size) (o:=.dK []) (h':=s.heap.push { cls:=.type "dict",data:=.dict #[] }) (t':=s.toks) (fun _ _ q=>Heap.get?_push_of_some _ q) (Nat.le_refl _) (dk_empty s.heap I.big)
 refine wpAny_Dict_walk (knd:=mixKind X.prog X.w) hall hl h0 h15 (thn (h pins _ σ _ _ I1 (q _ hn)) fun ws s2 ⟨ps,H2,I2,rel,e,kvs,ep,lk,q2⟩=>?_)
 subst ep
 obtain ⟨rs,c,rk⟩:=carries_of (P:=X.prog) (w:=X.w) rel
 obtain ⟨z,hd,vs0,r0,dd⟩:=dk_of I2.hok e
 cases r0
 refine ⟨rs,c,dd,fun h' dd' hs=>⟨.ref s.heap.objs.size,_,?_,rfl,q2⟩⟩
 have hz:(mergeK [] kvs).length≤sizeLine:=by
  have h1:=length_mergeK kvs []
  rw [List.length_nil] at h1
  rw [sizeLine_eq];omega
 have he:∃ q,h'.get? s.heap.objs.size=some q:=let ⟨q,_,_,hq,_⟩:=dd';⟨q,hq⟩
 exact d_write I2 (by rw [e];exact True.intro) hs he (dk_new hz hd (rk.merge .nil) dd')
structure M2 (X:Cx) (o:Expr) (m:Str) (apos:Pos) (e f:Expr) (cpos:Pos):Prop where
 base:attributeBase o m X.env (eval o X.env)=eval o X.env
 few:((backTo cpos (starEach [e,f] X.env)).all (fun x=>!x.1) && (backToKw cpos (keywordEach [] X.env)).all (fun x=>x.1.isSome)
  && decide (([e,f]:List Expr).length+([]:List Keyword).length+(if ([]:List Keyword).isEmpty then 0 else 1) < 30))=true
 line:(apos.endLine == cpos.line)=true
 trees:backTo cpos (starEach [e,f] X.env)=[(false,eval e X.env),(false,eval f X.env)]
def IsD (H:Hp) (a:Addr):Prop:=(∃ kvs,Rd H a (.dK kvs))∨∃ kvs,Rd H a (.dT kvs)
theorem isD_at {X:Cx} {pins:List (Addr × Obj)} {σ:St} {H:Hp} {s:Shared} {a:Addr} (I:Inv X pins σ H s) (d:IsD H a) :
  s.TypeIs (.ref a) "dict"∧(∀ b,Value.ref a=.ref b→∃ ob,s.heap.get? b=some ob∧ob.dict=none)∧(a == sysModules)=false:=by
 rcases d with ⟨kvs,e⟩ | ⟨kvs,e⟩
 ·obtain ⟨_,hd,vs,_,dd⟩:=dk_rd I.hok e
  refine ⟨dd.typeIs,fun b q=>?_,hd⟩
  cases q
  obtain ⟨ob,_,_,h1,h2,_⟩:=dd
  exact ⟨ob,h1,h2.2.1⟩
 ·obtain ⟨_,hd,xs,_,dd⟩:=dt_rd I.hok e
  refine ⟨dd.typeIs,fun b q=>?_,hd⟩
  cases q
  obtain ⟨ob,_,_,h1,h2,_⟩:=dd
  exact ⟨ob,h1,h2.2.1⟩
section
variable {X:Cx} {pins:List (Addr × Obj)} {σ:St} {H:Hp} {s:Shared} {a:Addr} {y d:V} {u r:Value} {o:Option V} {A:Around} {E:Value→Shared→Prop}
end
def tDPop2 (td ty tx:TE):TE:=fun σ H Q=>td σ H fun x H1=>∃ a,x=.ref a∧IsD H1 a∧ty σ H1 fun y H2=>tx σ H2 fun z H3=>∃ kvs k,H3 a=some (.dK kvs)∧y=kV k ∧
 (∀ v,valV kvs k=some v→Q v (upd H3 a (.dK (dropK kvs k))))∧(valV kvs k=none→Q z H3)
section
variable {X:Cx} {o e f:Expr} {apos cpos:Pos} {td ty tx:TE}
theorem pe_dpop2 (ho:PE X o td) (he:PE X e ty) (hf:PE X f tx) (m:M2 X o "pop" apos e f cpos):PE X (.Call (.Attribute o "pop" apos) [e,f] [] cpos) (tDPop2 td ty tx):=by
 intro pins s σ H Q I h
 refine wpAny_Call_method m.base m.few m.line PySem.F.plainAttrs_dict PySem.F.slot_dict_pop PySem.F.type_dict_pop (thn (ho pins s σ H _ I h) fun u s1 ⟨x,H1,I1,rx,a,ex,d,q1⟩=>?_)
 subst ex
 obtain rfl:u=Value.ref a:=rx
 obtain ⟨t1,t2,_⟩:=isD_at I1 d
 refine ⟨t1,t2,?_⟩
 rw [m.trees]
 refine Calls.callWith_builtin rfl (Calls.evalArgs_plain (Calls.spliced_cons (thn (he pins s1 σ H1 _ I1 q1) fun iv s2 ⟨y,H2,I2,ry,q2⟩ =>
  Calls.spliced_cons (thn (hf pins s2 σ H2 _ I2 q2) fun fv s3 ⟨z,H3,I3,rz,kvs,k,ea,ey,q3,q4⟩=>Calls.spliced_nil ?_))))
 subst ey
 cases l:valV kvs k with
 | some v=>exact d_pop I3 ea ry l (.inr ⟨fv,rfl⟩) fun w' s4 I4 rw'=>⟨v,_,I4,rw',q3 v l⟩
 | none=>exact d_popD I3 ea ry l fun s4 I4=>⟨z,H3,I4,rz,q4 l⟩
end
section
variable {X:Cx} {pins:List (Addr × Obj)} {σ:St} {H:Hp} {s:Shared} {a:Addr} {kvs:List (Key × V)} {A:Around} {E:Value→Shared→Prop}
end
section
variable {X:Cx} {pins:List (Addr × Obj)} {σ:St} {H:Hp} {s:Shared} {a:Addr} {y:V} {u:Value} {A:Around} {E:Value→Shared→Prop}
end
end L2
namespace Att
open PySem PySem.W PySem.Calls PyProof.Rows
section
variable {prog:Program} {w:World} {A:Around} {E:Value→Shared→Prop} {s:Shared} {K:Frag}
end
end Att
namespace L2
open PySem PySem.Spec PyProof.Rows
end L2
namespace L2
open PySem PySem.Spec PyProof.Rows
end L2
namespace L2
open PySem PySem.Spec PyProof.Rows
section
variable {P:Program} {w:World} {K:PySem.W.Frag} {mg:Str→Option Value} {base:Heap}
end
section
variable {X:Cx}
end
section
variable {κ:Type} [DecidableEq κ]
theorem nd_snoc:∀ {l:List κ} {k:κ},l.Nodup→¬ k ∈ l→(l ++ [k]).Nodup
 | [],k,_,_=>by simp
 | a :: r,k,h,hk=>by
  obtain ⟨h1,h2⟩:=List.nodup_cons.mp h
  show (a :: (r ++ [k])).Nodup
  refine List.nodup_cons.mpr ⟨fun m=>?_,nd_snoc h2 fun m=>hk (List.mem_cons.mpr (Or.inr m))⟩
  rcases List.mem_append.mp m with q | q
  ·exact h1 q
  ·exact hk (List.mem_cons.mpr (Or.inl (List.mem_singleton.mp q).symm))
end
end L2
namespace L2
open PySem PySem.Spec PyProof.Rows
def dxO (P:Program) (w:World) (d:Addr) (vs:List (Key × Value)) (ep:Nat):HO:=.ext fun h=>h.DictAt (mixKind P w) d vs ep
def DxOk (P:Program) (w:World) (d:Addr) (kvs:List (Key × V)) (u:HO):Prop:=kvs.length≤sizeLine∧(d == sysModules)=false∧∃ vs ep,KV kvs vs∧u=dxO P w d vs ep
def Itd (d:Addr) (u:HO) (kvs:List (Key × V)):It where
 go:=fun i H=>H d=some u∧i < kvs.length
 yld:=fun i H x H'=>H'=H∧∃ k v,kvs[i]?=some (k,v)∧x=kV k
 stop:=fun i H=>H d=some u∧kvs.length≤i
theorem kV_rel {P:Program} {w:World} {k:Key} {u:Value} (h:(mixKind P w).is k u=true):RelV (kV k) u:=by
 rcases keyIs_shape (k:=k) (v:=u) h with ⟨i,t,rfl,rfl⟩ | ⟨x,t,rfl,rfl⟩
 ·exact ⟨t,rfl⟩
 ·exact ⟨t,rfl⟩
theorem kv_get {kvs:List (Key × V)} {vs:List (Key × Value)} (r:KV kvs vs) {i:Nat} {k:Key} {u:Value} (h:vs[i]?=some (k,u)):∃ v,kvs[i]?=some (k,v):=by
 induction r generalizing i with
 | nil=>simp at h
 | @cons p q ps qs hp t ih =>
  cases i with
  | zero=>simp at h;subst h;obtain ⟨a,b⟩:=p;exact ⟨b,by simp;exact hp.1⟩
  | succ i=>simp at h;obtain ⟨v,e⟩:=ih h;exact ⟨v,by simpa using e⟩
theorem turn_dict {P:Program} {w:World} {K:PySem.W.Frag} {tg:Expr} {d it:Addr} {kvs:List (Key × V)} {vs:List (Key × Value)} {ep:Nat} (r:KV kvs vs) :
  Turn P w K tg (Itd d (dxO P w d vs ep) kvs) [it] it (fun i h=>h.IsKeyIter it d i vs.length ep) where
 mem:=by simp
 obj:=fun i h st b hb=>by
  have e:b=it:=by simpa using hb
  subst e
  obtain ⟨o,e,c,dd⟩:=st
  exact ⟨o,e,fun v z=>by rw [dd] at z;cases z⟩
 keep:=fun i h h' st k=>st.at fun o e=>k it (by simp) o e
 item:=by
  intro X hP hw hK hc i pins s σ H E I hf st hg
  subst hP hw hK
  obtain ⟨hd,hi⟩:=hg
  have hm:s.heap.DictAt (mixKind X.prog X.w) d vs ep:=(show ObjOk X.prog X.w H s.heap d (dxO X.prog X.w d vs ep) from I.hok d _ hd).1
  have l:=r.length
  obtain ⟨⟨k,v⟩,hx⟩:∃ p,vs[i]?=some p:=⟨vs[i]'(by omega),by simp [show i < vs.length by omega]⟩
  obtain ⟨v',hv'⟩:=kv_get r hx
  obtain ⟨f0,f1,f2,f3,f4,f5⟩:=hf it (by simp)
  refine wpAny_pyNext_dict_item st hm hx fun key h' hkey st' sb=>?_
  have I1:Inv X pins σ H { s with heap:=h' }:=I.turned (t':=s.toks) (fun b o hb e=>sb.extBut b o hb e) f0 f1 f3 f4 f5
  obtain ⟨o,e,c,dd⟩:=id st'
  exact ⟨key,rfl,go_of (s:={ s with heap:=h' }) e c dd (by decide) ⟨kV k,H,I1,kV_rel hkey,⟨rfl,k,v',hv',rfl⟩,st',fun b hb=>(hf b hb).1⟩⟩
 done:=by
  intro X hP hw hK hc i pins s σ H E I hf st hg
  subst hP hw hK
  obtain ⟨hd,hi⟩:=hg
  have hm:s.heap.DictAt (mixKind X.prog X.w) d vs ep:=(show ObjOk X.prog X.w H s.heap d (dxO X.prog X.w d vs ep) from I.hok d _ hd).1
  have l:=r.length
  obtain ⟨f0,f1,f2,f3,f4,f5⟩:=hf it (by simp)
  exact wpAny_pyNext_dict_end (I.ok.hd hc) st hm (by simp;omega) fun h' eb=>⟨rfl,I.turned (t':=s.toks) (fun b o hb e=>eb b o hb e) f0 f1 f3 f4 f5⟩
 self:=fun _ _ _ _ _ st h=>wpAny_pyIter_keyiter st h
section
variable {X:Cx}
theorem Inv.freeze {pins:List (Addr × Obj)} {σ:St} {H:Hp} {s:Shared} {d:Addr} {kvs:List (Key × V)} (I:Inv X pins σ H s) (hd:H d=some (.dK kvs)) :
  ∃ vs ep,KV kvs vs∧kvs.length≤sizeLine∧(d == sysModules)=false∧s.heap.DictAt (mixKind X.prog X.w) d vs ep∧Inv X pins σ (upd H d (dxO X.prog X.w d vs ep)) s:=by
 obtain ⟨z,hs,vs,rel,o,es,ep,ho,r⟩:=(show ObjOk X.prog X.w H s.heap d (.dK kvs) from I.hok d _ hd)
 have hm:s.heap.DictAt (mixKind X.prog X.w) d vs ep:=⟨o,es,ho,r⟩
 refine ⟨vs,ep,rel,z,hs,hm,?_⟩
 exact I.write (x:=d) (e:=d) (h':=s.heap) (t':=s.toks) (by rw [hd];exact True.intro) (.inl rfl) (fun _ _ _ q=>q) ⟨o,ho⟩ ⟨hm,⟨o,ho⟩,fun h1 h2 x k=>x.at' k⟩
theorem Inv.thaw {pins:List (Addr × Obj)} {σ:St} {H:Hp} {s:Shared} {d:Addr} {kvs:List (Key × V)} {u:HO} (I:Inv X pins σ H s) (ok:DxOk X.prog X.w d kvs u) (hd:H d=some u):Inv X pins σ (upd H d (.dK kvs)) s:=by
 obtain ⟨z,hs,vs,ep,rel,rfl⟩:=ok
 have hm:s.heap.DictAt (mixKind X.prog X.w) d vs ep:=(show ObjOk X.prog X.w H s.heap d (dxO X.prog X.w d vs ep) from I.hok d _ hd).1
 obtain ⟨o,es,ho,r⟩:=id hm
 exact I.write (x:=d) (e:=d) (h':=s.heap) (t':=s.toks) (by rw [hd];exact True.intro) (.inl rfl) (fun _ _ _ q=>q) ⟨o,ho⟩ ⟨z,hs,vs,rel,hm.dictOf⟩
def iDict (P:Program) (w:World) (td:TE):TI:=fun σ H R=>td σ H fun x H1=>∃ d kvs,x=.ref d∧H1 d=some (.dK kvs)∧∀ u,DxOk P w d kvs u→R (Itd d u kvs) (upd H1 d u)
theorem pi_dictK (P:Program) (w:World) {tg l:Expr} {td:TE} (hl:PE X l td) (hP:X.prog=P:=by rfl) (hw:X.w=w:=by rfl):PI X tg l (iDict P w td):=by
 subst hP hw
 intro pins s σ H R I h
 refine thn (hl pins s σ H _ I h) fun v s1 ⟨x,H1,I1,r1,q1⟩=>?_
 obtain ⟨d,kvs,rfl,hd,q⟩:=q1
 cases r1
 obtain ⟨vs,ep,rel,z,hs,hm,I2⟩:=I1.freeze hd
 refine wpAny_pyIter_dict hs hm ?_
 refine ⟨s1.heap.objs.size,[s1.heap.objs.size],_,_,_,rfl,I2.kept (t':=s1.toks) fun b o e=>Heap.get?_push_of_some _ e,turn_dict rel,⟨_,Heap.get?_push_size _ rfl,rfl,rfl⟩,fun b hb=>?_,q _ ⟨z,hs,vs,ep,rel,rfl⟩⟩
 have e:b=s1.heap.objs.size:=by simpa using hb
 subst e
 exact I2.fpOk (Nat.le_refl _) (I2.hok.fresh (Nat.le_refl _))
end
section
variable {g:TG} {tt:TT} {te:TE} {D:Addr} {σ:St} {H:Hp} {Q:VK}
theorem lc_dict {d:Addr} {u:HO} {kvs:List (Key × V)} (Pv:Nat→St→Hp→Prop) (h0:Pv 0 σ H) (hl:∀ i σ H,i≤kvs.length→Pv i σ H→H d=some u)
  (hs:∀ (i:Nat) (k:Key) (v:V) (σ:St) (H:Hp) (N:St→Hp→Prop),(∀ σ H,Pv (i+1) σ H→N σ H)→kvs[i]?=some (k,v)→Pv i σ H→g (kV k) σ H fun σ3 H3=>tt σ3 H3 fun b H4 =>
   if b=true then te σ3 H4 fun v H5=>∃ ys,H5 D=some (.lst ys)∧ys.length < sizeLine∧N σ3 (upd H5 D (.lst (ys ++ [v]))) else N σ3 H4)
  (hd:∀ σ H,Pv kvs.length σ H→Q (.ref D) H):lcRun (Itd d u kvs) g tt te D σ H Q:=by
 refine ⟨fun i m σ H=>m=kvs.length - i∧i≤kvs.length∧Pv i σ H,⟨kvs.length,by simp,Nat.zero_le _,h0⟩,?_⟩
 rintro i m σ' H' ⟨rfl,hi,p⟩
 have q1:=hl i σ' H' hi p
 by_cases hlt:i < kvs.length
 ·refine .inr ⟨⟨q1,hlt⟩,fun x H2 y=>?_⟩
  obtain ⟨rfl,k,v,ex,rfl⟩:=y
  exact hs i k v σ' _ (fun σ3 H3=>∃ m',m' < kvs.length - i∧m'=kvs.length - (i+1)∧i+1≤kvs.length∧Pv (i+1) σ3 H3) (fun σ3 H3 z=>⟨kvs.length - (i+1),by omega,rfl,hlt,z⟩) ex p
 ·have e:i=kvs.length:=by omega
  subst e
  exact .inl ⟨⟨q1,Nat.le_refl _⟩,hd σ' H' p⟩
end
end L2
namespace L2
open PySem PySem.Spec PyProof.Rows
section
variable {X:Cx}
def sThaw (P:Program) (w:World) (t:TS):TS:=fun D σ H=>t { D with nx:=fun σ' H'=>∃ d kvs u,DxOk P w d kvs u∧H' d=some u∧D.nx σ' (upd H' d (.dK kvs)) } σ H
theorem ps_thaw (P:Program) (w:World) {st:Stmt} {t:TS} (h:PS X st t) (hP:X.prog=P:=by rfl) (hw:X.w=w:=by rfl):PS X st (sThaw P w t):=by
 subst hP hw
 intro pins s σ H D I q
 refine wpAny_mono (h pins s σ H _ I q) (fun f s' q=>?_) fun _ _ z=>z
 cases f with
 | next=>obtain ⟨σ',H',I',d,kvs,u,ok,hd,q⟩:=q;exact ⟨σ',_,I'.thaw ok hd,q⟩
 | brk=>exact q
 | cont=>exact q
 | ret u=>exact q
end
section
variable {g:TG} {tt:TT} {te:TE} {D:Addr} {σ:St} {H:Hp} {Q:VK}
end
section
variable {X:Cx} {o e value:Expr} {f:Str} {pos pos':Pos} {ta tv:TE}
theorem pe_fldK (K:PySem.W.Frag) (he:PE X e ta) (hb:attributeBase e f X.env (eval e X.env)=eval e X.env) (hK:X.K=K:=by rfl):PE X (.Attribute e f pos) (tFld K ta f):=by subst hK;exact pe_fld he hb
theorem ps_fldK (K:PySem.W.Frag) (ha:PE X o ta) (hv:PE X value tv) (hs:swapsWith value (some (.Attribute o f pos')) pos.line X.env=pure false) (hK:X.K=K:=by rfl):PS X (.Assign [.Attribute o f pos'] value pos) (sFld K ta tv f):=by subst hK;exact ps_fld ha hv hs
end
end L2
namespace L2
open PySem PySem.Spec PyProof.Rows
section
variable {X:Cx}
end
section
variable {X:Cx} {te:TE} {t:TA} {es es1:List Expr}
end
end L2
namespace L2
open PySem PySem.Spec PyProof.Rows
section
variable {prog:Program} {w:World} {A:Around} {E:Value→Shared→Prop} {s:Shared}
end
section
variable {prog:Program} {w:World} {A:Around} {E:Value→Shared→Prop} {s:Shared}
end
section
variable {X:Cx}
end
section
variable {K:PySem.W.Frag} {g:TG} {σ:St} {H:Hp}
end
section
variable {X:Cx}
end
end L2
namespace L2
open PySem PySem.Spec PyProof.Rows
def ent:Option Int→V
 | none=>.non
 | some n=>.int n
theorem ent_inj:∀ {x y:Option Int},ent x=ent y→x=y
 | none,none,_=>rfl
 | none,some _,h=>by cases h
 | some _,none,h=>by cases h
 | some a,some b,h=>by cases h;rfl
theorem ents_inj:∀ {x y:List (Option Int)},x.map ent=y.map ent→x=y
 | [],[],_=>rfl
 | [],_ :: _,h=>by cases h
 | _ :: _,[],h=>by cases h
 | a :: x,b :: y,h=>by
  rw [List.map_cons,List.map_cons] at h
  rw [ent_inj (List.cons.inj h).1,ents_inj (List.cons.inj h).2]
theorem ent_flat (e:Option Int):flatV (ent e)=true:=by cases e <;> rfl
theorem ent_eqV (x y:Option Int):eqV (ent x) (ent y)=decide (x=y):=by
 cases x <;> cases y
 ·rfl
 ·rfl
 ·rfl
 ·rename_i a b
  show (a == b)=_
  by_cases h:a=b <;> simp [h]
theorem ents_all:∀ (x y:List (Option Int)),((List.range (min x.length y.length)).all (fun j=>decide ((x[j]?).getD none=(y[j]?).getD none)) && (x.length == y.length))=decide (x=y)
 | x,y=>by
  by_cases h:x=y
  ·subst h;simp
  ·rw [decide_eq_false h]
   by_cases hl:x.length=y.length
   ·rw [Bool.and_eq_false_iff]
    left
    rw [List.all_eq_false]
    apply Classical.byContradiction
    intro hn
    apply h
    apply List.ext_getElem?
    intro j
    by_cases hj:j < x.length
    ·have hj':j < y.length:=by omega
     have:=Classical.byContradiction fun hz=>hn ⟨j,List.mem_range.mpr (by omega),hz⟩
     have e:=of_decide_eq_true this
     simp only [List.getElem?_eq_getElem hj,List.getElem?_eq_getElem hj',Option.getD_some] at e ⊢
     rw [e]
    ·rw [List.getElem?_eq_none (by omega),List.getElem?_eq_none (by omega)]
   ·simp [hl]
section
variable {X:Cx} {pins:List (Addr × Obj)} {σ:St} {H:Hp} {s:Shared}
theorem entsAt (I:Inv X pins σ H s) {a b:Addr} {x y:List (Option Int)} (ha:SqT X.K H a (x.map ent)) (hb:SqT X.K H b (y.map ent)) {A:Around} (hu:A.units < cLine):SeqAt.EqAt A s (.ref a) (.ref b) (decide (x=y)):=by
 by_cases hab:a=b
 ·subst hab
  rw [decide_eq_true (ents_inj (I.tuple_inj ha hb))]
  exact SeqAt.EqAt.same _
 ·obtain ⟨its,r1,p1,_⟩:=I.tuple ha
  obtain ⟨its2,r2,p2,_⟩:=I.tuple hb
  have l1:=r1.length
  have l2:=r2.length
  rw [List.length_map] at l1 l2
  refine SeqAt.EqAt.of_refs hab ?_
  have q:=SeqAt.RcAt.tuples (A:=A) (s:=s) (e:=fun j=>decide ((x[j]?).getD none=(y[j]?).getD none)) (show s.heap.IsTuple a its.toArray from p1) (show s.heap.IsTuple b its2.toArray from p2) hu fun j h1 h2=>?_
  ·rw [List.size_toArray,List.size_toArray,← l1,← l2,ents_all] at q
   exact q
  ·obtain ⟨u,hx,rx⟩:=rel_at r1 j h1
   obtain ⟨v,hy,ry⟩:=rel_at r2 j h2
   rw [List.getElem?_map] at hx hy
   cases ex:x[j]? with
   | none=>rw [ex] at hx;cases hx
   | some eu =>
    cases ey:y[j]? with
    | none=>rw [ey] at hy;cases hy
    | some ev =>
     rw [ex] at hx
     rw [ey] at hy
     obtain rfl:ent eu=u:=Option.some.inj hx
     obtain rfl:ent ev=v:=Option.some.inj hy
     have:=eqAt_V (A:=A.in1) (s:=s) rx ry (ent_flat eu) (ent_flat ev)
     rw [ent_eqV] at this
     exact this
def rInP (K:PySem.W.Frag) (neg:Bool):R2:=fun x y H Q=>∃ (a l:Addr) (es:List (Option Int)) (n:Nat) (tps:Nat→Addr) (ess:Nat→List (Option Int)),x=.ref a∧y=.ref l∧SqT K H a (es.map ent)∧SqL K H l (tabR n tps)∧(∀ j,j < n→SqT K H (tps j) ((ess j).map ent)) ∧
 Q (.bl (if neg then !((List.range n).any fun j=>decide (ess j=es)) else (List.range n).any fun j=>decide (ess j=es))) H
open Classical in
noncomputable def isRow (K:PySem.W.Frag) (H:Hp) (es:List (Option Int)):Value→Bool
 | .ref c=>decide (SqT K H c (es.map ent))
 | _=>false
theorem isRow_at (I:Inv X pins σ H s) {c:Addr} {x es:List (Option Int)} (h:SqT X.K H c (x.map ent)):isRow X.K H es (.ref c)=decide (x=es):=by
 unfold isRow
 by_cases e:x=es
 ·subst e;simp [h]
 ·rw [decide_eq_false e]
  exact @decide_eq_false _ (Classical.propDecidable _) fun z=>e (ents_inj (I.tuple_inj h z))
theorem vals_ref:∀ {n:Nat} {f:Nat→Addr} {us:List Value},Vals (tabR n f) us→us=(List.range n).map fun j=>Value.ref (f j):=by
 intro n f us h
 have hl:=h.length
 rw [tab_len] at hl
 apply List.ext_getElem?
 intro j
 by_cases hj:j < n
 ·have ht:(tabR n f)[j]?=some (.ref (f j)):=tab_get hj
  obtain ⟨u,hu,ru⟩:=h.get ht
  cases ru
  rw [hu]
  simp [hj]
 ·rw [List.getElem?_eq_none (by omega),List.getElem?_eq_none (by simp;omega)]
theorem rows_any (I:Inv X pins σ H s) {n:Nat} {tps:Nat→Addr} {ess:Nat→List (Option Int)} {es:List (Option Int)} {its:List Value} (r:Vals (tabR n tps) its) (h:∀ j,j < n→SqT X.K H (tps j) ((ess j).map ent)) :
  its.toArray.any (isRow X.K H es)=(List.range n).any fun j=>decide (ess j=es):=by
 rw [vals_ref r]
 rw [Bool.eq_iff_iff]
 simp only [List.any_toArray,List.any_eq_true,List.mem_map,List.mem_range]
 constructor
 ·rintro ⟨v,⟨j,hj,rfl⟩,hv⟩
  rw [isRow_at I (h j hj)] at hv
  exact ⟨j,hj,hv⟩
 ·rintro ⟨j,hj,hv⟩
  exact ⟨_,⟨j,hj,rfl⟩,by rw [isRow_at I (h j hj)];exact hv⟩
end
section
variable {X:Cx}
theorem op_inP (K:PySem.W.Frag) (hu:X.A.units+16 < cLine) (hK:X.K=K:=by rfl):OpR X (compareOp .In) (rInP K false):=by
 subst hK
 intro pins s σ H x y v u Q I rx ry h
 obtain ⟨a,l,es,n,tps,ess,rfl,rfl,ha,hl,hh,q⟩:=h
 cases rx
 cases ry
 obtain ⟨its,r,pl,hz⟩:=I.list hl
 refine SeqAt.in_listAt (isRow X.K H es) pl.isList (fun w hw=>?_) ⟨.bl _,H,I,rfl,?_⟩
 ·have hw':w ∈ its:=by simpa using hw
  rw [vals_ref r,List.mem_map] at hw'
  obtain ⟨j,hj,rfl⟩:=hw'
  rw [List.mem_range] at hj
  rw [isRow_at I (hh j hj)]
  exact entsAt I (hh j hj) ha (by show X.A.units+1 < cLine;omega)
 ·rw [rows_any I r hh]
  exact q
end
end L2
namespace L2
open PySem PySem.Spec PyProof.Rows
def IsRowH (h:Heap) (x:List (Option Int)) (a:Addr):Prop:=∃ its:List Value,Vals (x.map ent) its∧h.IsTuple a its.toArray
def noneHash:Int:=0xFCA86420
def entHash:Option Int→Int
 | some k=>hashInt k
 | none=>noneHash
def rowHash (x:List (Option Int)):Int:=reduceHash (Builtin.Tuple.tupleHashOf (x.map entHash))
theorem tup_inj {h:Heap} {a:Addr} {x y:Array Value} (hx:h.IsTuple a x) (hy:h.IsTuple a y):x=y:=by
 obtain ⟨o,ho,_,n,hd⟩:=hx
 obtain ⟨o',ho',_,n',hd'⟩:=hy
 rw [ho] at ho'
 obtain rfl:=Option.some.inj ho'
 rw [hd] at hd'
 injection hd' with h1 _
theorem ents_rel:∀ {x y:List (Option Int)} {vs:List Value},Vals (x.map ent) vs→Vals (y.map ent) vs→x=y
 | [],[],_,_,_=>rfl
 | [],_ :: _,_,.nil,h=>by cases h
 | _ :: _,[],_,h,.nil=>by cases h
 | a :: x,b :: y,_,.cons r t,.cons r' t'=>by
  rw [ents_rel t t']
  congr 1
  cases a with
  | none =>
   cases b with
   | none=>rfl
   | some j=>cases (show _=Value.none from r);obtain ⟨_,e⟩:=(show ∃ t,Value.none=Value.int j t from r');cases e
  | some i =>
   obtain ⟨u,rfl⟩:=(show ∃ t,_=Value.int i t from r)
   cases b with
   | none=>have e:=(show Value.int i u=Value.none from r');cases e
   | some j=>obtain ⟨_,e⟩:=(show ∃ t,Value.int i u=Value.int j t from r');cases e;rfl
theorem IsRowH.inj {h:Heap} {a:Addr} {x y:List (Option Int)} (hx:IsRowH h x a) (hy:IsRowH h y a):x=y:=by
 obtain ⟨its,r,ht⟩:=hx
 obtain ⟨its',r',ht'⟩:=hy
 have e:=tup_inj ht ht'
 have e':its=its':=by simpa using congrArg Array.toList e
 subst e'
 exact ents_rel r r'
theorem tup_keep {h h':Heap} {a d:Addr} {x:Array Value} {o:Obj} {es ep} (hx:h.IsTuple a x) (ho:h.get? d=some o) (hd:o.data=.dict es ep) (hs:Heap.SameBut d h h'):h'.IsTuple a x:=by
 obtain ⟨o',ho',hc,n,hd'⟩:=hx
 have hne:a≠d:=by
  rintro rfl
  rw [ho] at ho'
  obtain rfl:=Option.some.inj ho'
  rw [hd] at hd'
  exact nomatch hd'
 exact ⟨o',(hs.2 a hne).trans ho',hc,n,hd'⟩
section
variable {prog:Program} {w:World} {A:Around} {E:Value→Shared→Prop} {s:Shared}
theorem pyHash_none {Q:Int→Shared→Prop} (h:Q noneHash { s with toks:=s.toks+1 }):wpAny (model prog w) A (pyHash .none) Q E s:=by
 have hT:=typeIs_none s
 unfold pyHash
 unfold pyHashByItsType
 have hv:[Value.none].any Value.onHeap=false:=rfl
 refine wpAny_bind ?_
 rw [cRoomFor,if_neg (by rw [hv];exact Bool.false_ne_true)];refine wpAny_pure ?_
 refine wpAny_bind (wpAny_specialOf hT F.slot_NoneType_hash.lookup ?_)
 refine (show wpAny _ _ (if (some (Value.builtin "NoneType.__hash__") == some Value.none)=true then _ else _) Q E s from ?_)
 rw [if_neg (by rw [beq_builtin_none];exact Bool.false_ne_true)]
 refine wpAny_bind (wpAny_specialOf hT F.slot_NoneType_hash.lookup ?_)
 refine (show wpAny _ _ (callSpecialIfBoundUnlessNone? Value.none "__hash__" _ >>= _) Q E s from ?_)
 refine wpAny_bind (wpAny_callSpecialIfBoundUnlessNone?_slot hT F.slot_NoneType_hash (wpAny_call_entry F.slot_NoneType_hash hT F.entry_NoneType_hash ?_ (F.args_NoneType_hash_1 _)))
 refine (show wpAny _ _ (do ret (← mkInt 0xFCA86420)) _ _ s from wpAny_ret_mkInt ?_)
 exact wpAny_pure h
theorem pyHash_items {a:Addr} {all:List (Value × Int × Nat)} {Q:Int→Shared→Prop} (hu:A.units < cLine) (ht:s.heap.IsTuple a (all.map (·.1)).toArray)
  (hi:∀ x ∈ all,∀ (tk:Nat) (Q:Int→Shared→Prop),Q x.2.1 { s with toks:=tk+x.2.2 }→wpAny (model prog w) A.in1 (pyHash x.1) Q E { s with toks:=tk })
  (h:Q (reduceHash (Builtin.Tuple.tupleHashOf (all.map (·.2.1)))) { s with toks:=s.toks+((all.map (·.2.2)).sum+1) }):wpAny (model prog w) A (pyHash (.ref a)) Q E s:=by
 have hT:s.TypeIs (.ref a) "tuple":=let ⟨o,ho,hc,_⟩:=ht;⟨o,ho,hc⟩
 obtain ⟨o,ho,_,n,hd⟩:=ht
 unfold pyHash
 unfold pyHashByItsType
 refine wpAny_bind (wpAny_cRoomFor_or (.inr hu) ?_)
 refine wpAny_bind (wpAny_specialOf hT F.slot_tuple_hash.lookup ?_)
 refine (show wpAny _ _ (if (some (Value.builtin "tuple.__hash__") == some Value.none)=true then _ else _) Q E s from ?_)
 rw [if_neg (by rw [beq_builtin_none];exact Bool.false_ne_true)]
 refine wpAny_bind (wpAny_specialOf hT F.slot_tuple_hash.lookup ?_)
 refine (show wpAny _ _ (callSpecialIfBoundUnlessNone? (.ref a) "__hash__" _ >>= _) Q E s from ?_)
 refine wpAny_bind (wpAny_callSpecialIfBoundUnlessNone?_slot hT F.slot_tuple_hash (wpAny_call_entry F.slot_tuple_hash hT F.entry_tuple_hash ?_ (F.args_tuple_hash_1 _)))
 refine (show wpAny _ _ (Builtin.Tuple.tupleItemsOf (.ref a) >>= _) _ _ s from wpAny_bind (wpAny_tupleItemsOf ho hd (wpAny_bind ?_)))
 rw [← Array.forIn_toList]
 refine wpAny_forIn_list _
  (fun rest (b:Array Int) s'=>∃ done left,all=done ++ left∧rest=left.map (·.1)∧b.toList=done.map (·.2.1)∧s'={ s with toks:=s.toks+(done.map (·.2.2)).sum })
  _ ?_ ?_ _ _ ⟨[],all,rfl,by simp,rfl,rfl⟩
 ·rintro x rest b s' ⟨done,left,rfl,hl,hb,rfl⟩
  match left,hl with
  | y :: left',hl =>
   rw [List.map_cons] at hl
   obtain ⟨rfl,rfl⟩:=List.cons.inj hl
   refine wpAny_bind (hi y (by simp) _ _ ?_)
   first
    | exact wpAny_pure ⟨done ++ [y],left',by simp,rfl,by simp [hb],by simp [Nat.add_assoc]⟩
    | exact wpAny_bind (wpAny_pure (wpAny_pure ⟨done ++ [y],left',by simp,rfl,by simp [hb],by simp [Nat.add_assoc]⟩))
 ·rintro b s' ⟨done,left,rfl,hl,hb,rfl⟩
  have:left=[]:=List.map_eq_nil_iff.mp hl.symm
  subst this
  rw [List.append_nil] at h
  refine (show wpAny _ _ (retInt (Builtin.Tuple.tupleHashOf b.toList)) _ _ _ from ?_)
  rw [hb]
  refine wpAny_ret_mkInt ?_
  refine (show wpAny _ _ (if (decide (-(2:Int) ^ 63≤Builtin.Tuple.tupleHashOf (done.map (·.2.1))) && decide (Builtin.Tuple.tupleHashOf (done.map (·.2.1)) < 2 ^ 63))=true then _ else _) Q E _ from ?_)
  unfold reduceHash at h
  by_cases hr:(decide (-(2:Int) ^ 63≤Builtin.Tuple.tupleHashOf (done.map (·.2.1))) && decide (Builtin.Tuple.tupleHashOf (done.map (·.2.1)) < 2 ^ 63))=true
  ·rw [if_pos hr]
   rw [if_pos hr] at h
   exact wpAny_pure (by simpa [Nat.add_assoc] using h)
  ·rw [if_neg hr]
   rw [if_neg hr] at h
   exact wpAny_bind (wpAny_rule (wpAny_pure (by simpa [Nat.add_assoc] using h)))
theorem pyHash_row {x:List (Option Int)} {a:Addr} {Q:Int→Shared→Prop} (hu:A.units < cLine) (hx:IsRowH s.heap x a) (h:Q (rowHash x) { s with toks:=s.toks+(x.length+1) }):wpAny (model prog w) A (pyHash (.ref a)) Q E s:=by
 obtain ⟨its,r,ht⟩:=hx
 have hl:=r.length
 rw [List.length_map] at hl
 have sums:∀ {x:List (Option Int)} {its:List Value},Vals (x.map ent) its→∃ all:List (Value × Int × Nat),all.map (·.1)=its∧all.map (·.2.1)=x.map entHash∧(all.map (·.2.2)).sum=x.length∧∀ y ∈ all,y.2.2=1∧((y.1=.none∧y.2.1=noneHash)∨∃ i t,y.1=.int i t∧y.2.1=hashInt i):=by
  intro x
  induction x with
  | nil=>intro its r;cases r;exact ⟨[],rfl,rfl,rfl,fun y hy=>by cases hy⟩
  | cons e x ih =>
   intro its r
   cases r with
   | cons r t =>
    obtain ⟨all,a1,a2,a3,a4⟩:=ih t
    cases e with
    | none =>
     cases (show _=Value.none from r)
     refine ⟨(.none,noneHash,1) :: all,by simp [a1],by simp [a2,entHash],by simp [a3];omega,fun y hy=>?_⟩
     rcases List.mem_cons.mp hy with rfl | hy
     ·exact ⟨rfl,.inl ⟨rfl,rfl⟩⟩
     ·exact a4 y hy
    | some i =>
     obtain ⟨u,rfl⟩:=(show ∃ t,_=Value.int i t from r)
     refine ⟨(.int i u,hashInt i,1) :: all,by simp [a1],by simp [a2,entHash],by simp [a3];omega,fun y hy=>?_⟩
     rcases List.mem_cons.mp hy with rfl | hy
     ·exact ⟨rfl,.inr ⟨i,u,rfl,rfl⟩⟩
     ·exact a4 y hy
 obtain ⟨all,a1,a2,a3,a4⟩:=sums r
 refine pyHash_items (all:=all) hu (by rw [a1];exact ht) (fun y hy tk Q' hq=>?_) (by rw [a2,a3];exact h)
 obtain ⟨e1,e2⟩:=a4 y hy
 rw [e1] at hq
 rcases e2 with ⟨e3,e4⟩ | ⟨i,t,e3,e4⟩
 ·rw [e3];rw [e4] at hq;exact pyHash_none hq
 ·rw [e3];rw [e4] at hq;exact wpAny_pyHash_int hq
theorem rowAt {x y:List (Option Int)} {a b:Addr} (hu:A.units < cLine) (hx:IsRowH s.heap x a) (hy:IsRowH s.heap y b):SeqAt.EqAt A s (.ref a) (.ref b) (decide (x=y)):=by
 by_cases hab:a=b
 ·subst hab
  rw [decide_eq_true (hx.inj hy)]
  exact SeqAt.EqAt.same _
 ·obtain ⟨its,r1,p1⟩:=hx
  obtain ⟨its2,r2,p2⟩:=hy
  have l1:=r1.length
  have l2:=r2.length
  rw [List.length_map] at l1 l2
  refine SeqAt.EqAt.of_refs hab ?_
  have q:=SeqAt.RcAt.tuples (A:=A) (s:=s) (e:=fun j=>decide ((x[j]?).getD none=(y[j]?).getD none)) p1 p2 hu fun j h1 h2=>?_
  ·rw [List.size_toArray,List.size_toArray,← l1,← l2,ents_all] at q
   exact q
  ·obtain ⟨u,hx,rx⟩:=rel_at r1 j h1
   obtain ⟨v,hy,ry⟩:=rel_at r2 j h2
   rw [List.getElem?_map] at hx hy
   cases ex:x[j]? with
   | none=>rw [ex] at hx;cases hx
   | some eu =>
    cases ey:y[j]? with
    | none=>rw [ey] at hy;cases hy
    | some ev =>
     rw [ex] at hx
     rw [ey] at hy
     obtain rfl:ent eu=u:=Option.some.inj hx
     obtain rfl:ent ev=v:=Option.some.inj hy
     have:=eqAt_V (A:=A.in1) (s:=s) rx ry (ent_flat eu) (ent_flat ev)
     rw [ent_eqV] at this
     exact this
theorem quiet_items (n:Nat) {a:Addr} {items:Array Value} {Q:Bool→Shared→Prop} (ht:s.heap.IsTuple a items) (hi:∀ v ∈ items.toList,∀ Q:Bool→Shared→Prop,Q true s→wpAny (model prog w) A (eqIsQuiet n v) Q E s) (h:Q true s):wpAny (model prog w) A (eqIsQuiet (n+1) (.ref a)) Q E s:=by
 have hT:s.TypeIs (.ref a) "tuple":=let ⟨o,ho,hc,_⟩:=ht;⟨o,ho,hc⟩
 obtain ⟨o,ho,_,m,hd⟩:=ht
 unfold eqIsQuiet
 refine wpAny_bind (wpAny_specialOf hT F.slot_tuple_eq.lookup ?_)
 refine (show wpAny _ _ (isInstance (.ref a) (.type "tuple") >>= _) _ _ s from wpAny_bind (wpAny_isInstance hT isSubtype_tuple_tuple ?_))
 simp only [Bool.not_true,Bool.false_eq_true,if_false]
 refine wpAny_bind (wpAny_seqItems ho hd (wpAny_bind ?_))
 refine (show wpAny _ _ (forIn items _ _) _ _ s from ?_)
 rw [← Array.forIn_toList]
 refine wpAny_forIn_list _ (fun rest r s'=>r.1=none∧s'=s∧∀ v ∈ rest,v ∈ items.toList) _ ?_ ?_ _ _ ⟨rfl,rfl,fun v hv=>hv⟩
 ·rintro v rest r s' ⟨hr,rfl,hall⟩
  refine wpAny_bind (hi v (hall v List.mem_cons_self) _ ?_)
  simp only [Bool.not_true,Bool.false_eq_true,if_false]
  exact wpAny_pure ⟨rfl,rfl,fun u hu'=>hall u (List.mem_cons_of_mem _ hu')⟩
 ·rintro ⟨r1,r2⟩ s' ⟨hr,rfl,_⟩
  simp only at hr
  subst hr
  exact wpAny_pure h
theorem quiet_row (n:Nat) {x:List (Option Int)} {a:Addr} {Q:Bool→Shared→Prop} (hx:IsRowH s.heap x a) (h:Q true s):wpAny (model prog w) A (eqIsQuiet (n+1) (.ref a)) Q E s:=by
 obtain ⟨its,r,ht⟩:=hx
 refine quiet_items n ht (fun v hv Q' hq=>?_) h
 have hb:carriedByValue v=true:=by
  have hv':v ∈ its:=by simpa using hv
  clear hv
  have all:∀ {x:List (Option Int)} {its:List Value},Vals (x.map ent) its→∀ v ∈ its,carriedByValue v=true:=by
   intro x
   induction x with
   | nil=>intro its r v hv;cases r;cases hv
   | cons e x ih =>
    intro its r v hv
    cases r with
    | cons r t =>
     rcases List.mem_cons.mp hv with rfl | hv
     ·cases e with
      | none=>cases (show v=Value.none from r);rfl
      | some i=>obtain ⟨u,rfl⟩:=(show ∃ t,v=Value.int i t from r);rfl
     ·exact ih t v hv
  exact all r v hv'
 rw [eqIsQuiet_byValue _ hb]
 exact wpAny_pure hq
end
end L2
namespace L2
open PySem PySem.Spec PyProof.Rows
section
variable {X:Cx} {pins:List (Addr × Obj)} {σ:St} {H:Hp} {s:Shared} {a:Addr} {xs:SX} {A:Around} {E:Value→Shared→Prop}
theorem row_h (I:Inv X pins σ H s) {b:Addr} {x:List (Option Int)} (h:SqT X.K H b (x.map ent)):IsRowH s.heap x b:=by
 obtain ⟨its,r,ht,_⟩:=I.tuple h
 exact ⟨its,r,ht⟩
end
section
variable {X:Cx}
variable {o i value:Expr} {pos pos':Pos} {td ty tv:TE}
end
end L2
namespace L2
open PySem PySem.Spec PyProof.Rows
def DRaw (d:Addr) (es:Array DictEntry) (ep:Nat) (h:Heap):Prop:=∃ o,h.get? d=some o∧o.ExactDict∧o.data=.dict es ep
theorem DRaw.typeIs {s:Shared} {d:Addr} {es:Array DictEntry} {ep:Nat} (x:DRaw d es ep s.heap):s.TypeIs (.ref d) "dict":=let ⟨o,ho,hc,_⟩:=x;⟨o,ho,hc.1⟩
theorem DRaw.at_ {h h':Heap} {d:Addr} {es:Array DictEntry} {ep:Nat} (x:DRaw d es ep h) (e:∀ o,h.get? d=some o→h'.get? d=some o):DRaw d es ep h':=let ⟨o,ho,r⟩:=x;⟨o,e _ ho,r⟩
section
variable {prog:Program} {w:World} {A:Around} {E:Value→Shared→Prop} {s:Shared} {d:Addr} {es:Array DictEntry} {ep:Nat}
theorem iter_raw {Q:Value→Shared→Prop} (hd:(d == sysModules)=false) (x:DRaw d es ep s.heap)
  (hQ:Q (.ref s.heap.objs.size) { s with heap:=s.heap.push { cls:=.type "dict_keyiterator",data:=.fields #[.ref d,.int 0 0,.int es.size 0,.int ep 0] } }) :
  wpAny (model prog w) A (pyIter (.ref d)) Q E s:=by
 have hT:=x.typeIs
 obtain ⟨o,ho,hc,hdat⟩:=x
 refine wpAny_pyIter_slot hT F.slot_dict_iter (wpAny_call_entry F.slot_dict_iter hT F.entry_dict_iter ?_ (F.args_dict_iter_1 _))
 unfold Builtin.«dict.__iter__»
 refine wpAny_bind ?_
 unfold Builtin.Dict.dictSlotNone
 refine wpAny_bind (wpAny_notOrdered_dict hT ?_)
 refine (show wpAny _ _ (pure (Value.ref d)) _ _ s from wpAny_pure ?_)
 refine (show wpAny _ _ (Builtin.Dict.showsAll d >>= _) _ _ s from ?_)
 unfold Builtin.Dict.showsAll
 rw [if_neg (by rw [hd];exact Bool.false_ne_true)]
 refine wpAny_bind (wpAny_pure (wpAny_bind (wpAny_dictEntries ho hdat (wpAny_bind (wpAny_dictEpoch ho hdat ?_)))))
 refine wpAny_bind (wpAny_newObj_type (wpAny_pure ⟨_,rfl,"dict_keyiterator",_,⟨_,Heap.get?_push_size _ rfl,rfl⟩,F.slot_dict_keyiterator_next.lookup,?_⟩))
 simpa [rawInt] using hQ
theorem next_raw {it:Addr} {i:Nat} {Q:Option Value→Shared→Prop} (hit:s.heap.IsKeyIter it d i es.size ep) (x:DRaw d es ep s.heap) (hlt:i < es.size)
  (hQ:∀ h',h'.IsKeyIter it d (i+1) es.size ep→Heap.SameBut it s.heap h'→Q (some es[i].key) { s with heap:=h' }):wpAny (model prog w) A (pyNext (.ref it)) Q E s:=by
 obtain ⟨o,ho,hc,hd⟩:=id hit
 obtain ⟨od,hod,hcd,hdd⟩:=x
 unfold pyNext
 refine wpAny_bind (wpAny_attempt (wpAny_callSpecial?_slot (name:=Str.ofString "__next__") hit.typeIs F.slot_dict_keyiterator_next
  (wpAny_call_entry F.slot_dict_keyiterator_next hit.typeIs F.entry_dict_keyiterator_next ?_ (F.args_dict_keyiterator_next_1 _))))
 refine wpAny_bind (wpAny_pure ?_)
 refine wpAny_bind ?_
 refine wpAny_bind ?_
 first | refine wpAny_bind (wpAny_typeNameOfWhole_keyiter hit.typeIs (wpAny_pure ?_)) | refine wpAny_bind (wpAny_typeNameOf_keyiter hit.typeIs (wpAny_pure ?_))
 refine wpAny_bind (wpAny_fieldsOf ho hd ?_)
 have hown:Builtin.Dict_items.ownsTuple "dict_keyiterator"=false:=by decide
 simp only [hown,Bool.false_eq_true,if_false]
 refine (show wpAny _ _ (if (Value.ref d == Value.none)=true then _ else _) _ _ s from ?_)
 rw [if_neg (show ¬ ((Value.ref d == Value.none)=true) from Bool.false_ne_true)]
 refine wpAny_bind (wpAny_pure (wpAny_bind (wpAny_dictEntries hod hdd ?_)))
 rw [if_neg (by simp)]
 refine wpAny_bind (wpAny_pure (wpAny_bind (wpAny_dictEpoch hod hdd ?_)))
 rw [if_neg (by simp)]
 refine wpAny_pure ?_
 simp only [show ¬ ((i:Int) < 0) from by omega,if_false,Int.toNat_natCast,Array.getElem?_eq_getElem hlt]
 refine wpAny_bind ?_
 first | refine wpAny_bind (wpAny_typeNameOfWhole_keyiter hit.typeIs (wpAny_pure ?_)) | refine wpAny_bind (wpAny_typeNameOf_keyiter hit.typeIs (wpAny_pure ?_))
 refine wpAny_bind (wpAny_isOneOf_keyiter hit.typeIs ?_)
 refine (show wpAny _ _ (setField (.ref it) 1 (rawInt ((i:Int)+1)) >>= _) _ _ s from ?_)
 refine wpAny_bind (wpAny_setField ho hd (by simp) ?_)
 have hit':(s.heap.update it (Obj.mapFields (·.setIfInBounds 1 (rawInt ((i:Int)+1))))).IsKeyIter it d (i+1) es.size ep :=
  ⟨_,Heap.get?_update_self _ ho (Obj.isFreed_of_fields (Obj.data_mapFields hd _)),(Obj.cls_mapFields ..).trans hc,by rw [Obj.data_mapFields hd];simp [rawInt]⟩
 refine wpAny_bind (wpAny_holding ?_)
 refine wpAny_bind (wpAny_isOneOf_keyiter (s:={ s with heap:=s.heap.update it (Obj.mapFields (·.setIfInBounds 1 (rawInt ((i:Int)+1)))) }) hit'.typeIs ?_)
 refine (show wpAny _ _ (pure es[i].key) _ _ _ from ?_)
 exact wpAny_pure (wpAny_pure ⟨_,rfl,wpAny_pure (hQ _ hit' (Heap.SameBut.update ..))⟩)
end
section
variable {prog:Program} {w:World} {A:Around} {E:Value→Shared→Prop} {s:Shared} {d:Addr} {es:Array DictEntry} {ep:Nat}
theorem end_raw {it:Addr} {i:Nat} {Q:Option Value→Shared→Prop} (hh:A.handled=none) (hit:s.heap.IsKeyIter it d i es.size ep) (x:DRaw d es ep s.heap) (hge:es.size≤i)
  (hQ:∀ h',Heap.ExtBut it s.heap h'→Q none { s with heap:=h' }):wpAny (model prog w) A (pyNext (.ref it)) Q E s:=by
 obtain ⟨o,ho,hc,hd⟩:=id hit
 obtain ⟨od,hod,hcd,hdd⟩:=x
 unfold pyNext
 refine wpAny_bind (wpAny_attempt (wpAny_callSpecial?_slot (name:=Str.ofString "__next__") hit.typeIs F.slot_dict_keyiterator_next
  (wpAny_call_entry F.slot_dict_keyiterator_next hit.typeIs F.entry_dict_keyiterator_next ?_ (F.args_dict_keyiterator_next_1 _))))
 refine wpAny_bind (wpAny_pure ?_)
 refine wpAny_bind ?_
 refine wpAny_bind ?_
 first | refine wpAny_bind (wpAny_typeNameOfWhole_keyiter hit.typeIs (wpAny_pure ?_)) | refine wpAny_bind (wpAny_typeNameOf_keyiter hit.typeIs (wpAny_pure ?_))
 refine wpAny_bind (wpAny_fieldsOf ho hd ?_)
 have hown:Builtin.Dict_items.ownsTuple "dict_keyiterator"=false:=by decide
 simp only [hown,Bool.false_eq_true,if_false]
 refine (show wpAny _ _ (if (Value.ref d == Value.none)=true then _ else _) _ _ s from ?_)
 rw [if_neg (show ¬ ((Value.ref d == Value.none)=true) from Bool.false_ne_true)]
 refine wpAny_bind (wpAny_pure (wpAny_bind (wpAny_dictEntries hod hdd ?_)))
 rw [if_neg (by simp)]
 refine wpAny_bind (wpAny_pure (wpAny_bind (wpAny_dictEpoch hod hdd ?_)))
 rw [if_neg (by simp)]
 refine wpAny_pure ?_
 simp only [show ¬ ((i:Int) < 0) from by omega,if_false,Int.toNat_natCast,Array.getElem?_eq_none hge]
 refine wpAny_bind ?_
 first | refine wpAny_bind (wpAny_typeNameOfWhole_keyiter hit.typeIs (wpAny_pure ?_)) | refine wpAny_bind (wpAny_typeNameOf_keyiter hit.typeIs (wpAny_pure ?_))
 refine (show wpAny _ _ (setField (.ref it) 0 .none >>= _) _ _ s from ?_)
 refine wpAny_bind (wpAny_setField ho hd (by simp) ?_)
 refine (show wpAny _ _ (newExc (.type "StopIteration") [] >>= _) _ _ _ from ?_)
 refine wpAny_bind ?_
 simp only [newExc,newTuple]
 refine wpAny_bind (wpAny_newObj_type ?_ (by size_fits))
 refine wpAny_bind (m:=firstArgMember _ _) (wpAny_of_eq (a:=Value.none) (by first | rfl | (simp only [firstArgMember];rfl)) ?_)
 refine wpAny_newObj_type ?_ (by size_fits)
 simp only [raiseNew]
 refine wpAny_bind (wpAny_handled ?_)
 rw [show A.in1.handled=none from hh]
 refine wpAny_bind (wpAny_pure (wpAny_throw ?_))
 refine wpAny_bind (wpAny_isInstance (T:="StopIteration") (b:=true) ⟨_,Heap.get?_push_size _ rfl,rfl⟩ isSubtype_stop ?_)
 exact wpAny_pure (hQ _ (((Heap.SameBut.update ..).extBut.push _).push _))
end
section
variable {X:Cx}
end
end L2
namespace L2
open PySem PySem.Spec PyProof.Rows
theorem list_nokeys:typeLookup (.type "list") "keys"=pure none:=by rw [typeLookup_type,builtinLookup_eq_fast];kernel_rfl
theorem plain_upd:plainId "dict.update.loop"=true:=by decide +kernel
theorem entry_upd:entryFor table "dict.update.loop"=some Builtin.«dict.update.loop»:=entryFor_of_tree (by kernel_rfl)
theorem keys_miss {prog:Program} {w:World} {A:Around} {E:Value→Shared→Prop} {s:Shared} {a:Addr} {xs:Array Value} {k:Nat} {Q:Option Value→Shared→Prop}
  (hx:s.heap.get? a=some { cls:=.type "list",data:=.seq xs k }) (hA:A.handled=none)
  (h:∀ h' tk,(∀ b o,s.heap.get? b=some o→h'.get? b=some o)→Q none { s with heap:=h',toks:=tk }):wpAny (model prog w) A (getAttr? (.ref a) "keys") Q E s:=by
 obtain ⟨hp,g,d,tk,os⟩:=s
 have hT:∀ tk',(⟨hp,g,d,tk',os⟩:Shared).TypeIs (.ref a) "list":=fun _=>⟨_,hx,rfl⟩
 have f1:=sub_AttributeError
 have f3:=F.slot_list_getattribute.lookup
 have f4:=F.slot_list_getattribute.bind (.ref a)
 have f5:=am_list_getattr_none
 unfold getAttr? getAttrBy? getAttrBy
 repeat (any_goals (first | assumption | exact hT _ | ((with_reducible show wpAny _ _ (call (Value.builtin "list.__getattribute__") _ _) _ _ _);refine call_meets F.slot_list_getattribute (hT _) am_entry_list_getattribute (F.args_list_getattribute_2 _ _) (meets_getattribute_miss_list a xs k _ "keys" _ list_nokeys (by decide)) ⟨hx,hA,fun h' tk' e hx'=>?_⟩) | wp_step))
 obtain ⟨t',u',he⟩:=hx'.there
 refine (show wpAny _ _ (getattributeRaised _ _ _ _ _ _ _) _ _ _ from ?_)
 unfold getattributeRaised
 have hE:∀ tk',(⟨h',g,d,tk',os⟩:Shared).TypeIs (.ref e) "AttributeError":=fun _=>⟨_,he,rfl⟩
 repeat (any_goals (first | assumption | exact hE _ | wp_step))
 exact h _ _ hx'.keeps
section
variable {prog:Program} {w:World} {A:Around} {h0:Heap} {d it l:Addr} {L:List RQ}
end
section
variable {X:Cx} {pins:List (Addr × Obj)} {σ:St} {H:Hp} {s:Shared}
end
end L2
namespace L2
open PySem PySem.Spec PyProof.Rows
section
variable {X:Cx} {pins:List (Addr × Obj)} {σ:St} {H:Hp} {s:Shared}
end
section
variable {X:Cx}
end
end L2
namespace L2
open PySem PySem.Spec PyProof.Rows
section
variable {X:Cx}
end
section
variable {g:TG} {σ:St} {H:Hp}
end
section
variable {X:Cx}
end
end L2
namespace L2
open PySem PySem.Spec PyProof.Rows
def less (B:Heap) (c:Addr):Heap:=B.update c fun o=>{ o with data:=.freed }
theorem less_at (B:Heap) (c:Addr):(less B c).get? c=none:=by
 unfold less Heap.update Heap.get?
 simp only [Array.getElem?_modify,if_true]
 cases e:B.objs[c]? with
 | none=>rfl
 | some o=>rfl
theorem less_ne {B:Heap} {b c:Addr} (h:b≠c):(less B c).get? b=B.get? b:=Heap.get?_update_other _ _ (Ne.symm h)
theorem less_in (B:Heap) (c:Addr):(less B c).StaysIn B:=fun b o e=>by
 by_cases h:b=c
 ·subst h
  rw [less_at] at e
  cases e
 ·rw [less_ne h] at e
  exact e
theorem frames_but {base h h':Heap} {c:Addr} (hs:Heap.SameBut c h h'):∀ {l:List Env},h.FunFrames base l→c ∉ frs l→h'.FunFrames base l
 | [],_,_=>trivial
 | env :: rest,⟨hk,⟨L,o,hf,hn,ho,hd⟩,hr⟩,hc=>by
  have hL:L≠c:=fun z=>hc (List.mem_filterMap.mpr ⟨env,List.mem_cons_self,by rw [hf,z]⟩)
  refine ⟨hk,⟨L,o,hf,hn,(hs.2 L hL).trans ho,hd⟩,frames_but hs hr fun z=>hc ?_⟩
  obtain ⟨e,he,hef⟩:=List.mem_filterMap.mp z
  exact List.mem_filterMap.mpr ⟨e,List.mem_cons_of_mem _ he,hef⟩
theorem held_less {B h h':Heap} {l:List Env} {e L c:Addr} {cls a0:Value} {oc:Obj} (x:Heap.HeldW B l e cls a0 L h) (hB:B.get? c=some oc) (hc:h.get? c=some oc) (hd:∀ vs,oc.data≠.fields vs) (hs:Heap.SameBut c h h'):Heap.HeldW (less B c) l e cls a0 L h':=by
 have hcl:c ∉ frs l:=fun z=>by
  obtain ⟨q,_⟩:=x.2.2.1.mem z
  rw [hB] at q
  cases q
 obtain ⟨f1,f2,f3,oe,vs,T,oT,ts,a1,a2,a3,a4,a5,a6,a7,a8,a9⟩:=PySem.W.heldW_base (less_in B c) x
 have hec:e≠c:=fun z=>by subst z;rw [hc] at a1;cases a1;exact hd _ a3
 have hTc:T≠c:=fun z=>by subst z;rw [hc] at a7;cases a7;exact hd _ a8
 refine ⟨fun b o q=>?_,f2,frames_but hs f3 hcl,oe,vs,T,oT,ts,(hs.2 e hec).trans a1,a2,a3,a4,a5,a6,(hs.2 T hTc).trans a7,a8,a9⟩
 have hb:b≠c:=fun z=>by subst z;rw [less_at] at q;cases q
 exact (hs.2 b hb).trans (f1 b o q)
theorem flight_again {M:Model} {A:Around} {E:Value→Shared→Prop} {s:Shared} {base:Heap} {l:List Env} {e L:Addr} {cls a0:Value} {Q:Unit→Shared→Prop} (R:Heap.HeldW base l e cls a0 L s.heap)
  (h:∀ h',Heap.HeldW base l e cls a0 L h'→(∀ b o,s.heap.get? b=some o→(∀ vs,o.data≠.fields vs)→h'.get? b=some o)→Q () { s with heap:=h' }):wpAny M A (setFlight (.ref e) (some L)) Q E s:=by
 obtain ⟨hkb,hen,hl,oe,vs,T,oT,ts,he,hcls,hd,h1,hnT,hTe,hT,hdT,h3⟩:=R
 have hz:3 < ts.size:=(Array.getElem?_eq_some_iff.mp h3).1
 unfold setFlight
 refine wpAny_bind (wpAny_field he hd h1 ?_)
 rw [if_pos (show (Value.ref T != Value.none)=true from by simp)]
 have oth:∀ b,b≠T→(s.heap.update T (Obj.mapFields (·.setIfInBounds 3 ((some L).elim Value.none fun f=>rawInt f)))).get? b=s.heap.get? b:=fun b hb=>Heap.get?_update_other _ _ (Ne.symm hb)
 have nT:∀ b o,s.heap.get? b=some o→(∀ vs,o.data≠.fields vs)→b≠T:=fun b o hb hnf z=>by
  subst z
  rw [hT] at hb
  cases hb
  exact hnf ts hdT
 refine wpAny_setField hT hdT hz (h _ ⟨fun b o q=>?_,hen,hl.of_keeps fun b o hb hnf=>⟨o,(oth b (nT b o hb hnf)).trans hb,rfl⟩,?_⟩ fun b o hb hnf=>(oth b (nT b o hb hnf)).trans hb)
 ·have hb:b≠T:=fun z=>by subst z;rw [hnT] at q;cases q
  exact (oth b hb).trans (hkb b o q)
 ·exact ⟨oe,vs,T,_,_,(oth e (Ne.symm hTe)).trans he,hcls,hd,h1,hnT,hTe,Heap.get?_update_self _ hT (Obj.isFreed_of_fields (Obj.data_mapFields hdT _)),Obj.data_mapFields hdT _,by simp [hz]⟩
section
variable {X:Cx} {E:XK} {pins:List (Addr × Obj)} {σ:St} {H:Hp} {s:Shared}
theorem un_later2 {outer:List Env} {H H':Hp} {h h1 h2 B:Heap} (u:Un (frs outer) [] H H' h h1) (F:h1.FunFrames B outer) (hB1:B.StaysIn h1) (hB2:B.StaysIn h2) (up:∀ b ∈ frs outer,∀ o,h1.get? b=some o→(∀ vs,o.data≠.fields vs)→∃ sl,h2.get? b=some { o with slots:=sl })
  (cov:∀ b o,h.get? b=some o→b ∉ frs outer→∃ o',B.get? b=some o'):Un (frs outer) [] H H' h h2:=by
 have at2:∀ b o,h.get? b=some o→b ∉ frs outer→∀ o1,h1.get? b=some o1→h2.get? b=some o1:=fun b o e hb o1 e1=>by
  obtain ⟨o',eB⟩:=cov b o e hb
  have q:=hB1 b o' eB
  rw [e1] at q;cases q
  exact hB2 b _ eB
 refine ⟨fun b o e n hb hx=>at2 b o e hb o (u.keep b o e n hb hx),fun b o e n hb hx=>?_,u.free,fun b o e hx=>?_,u.tups,u.frzs,u.tbls⟩
 ·obtain ⟨sl,e1⟩:=u.slot b o e n hb hx
  obtain ⟨_,o1,q1,q2⟩:=frs_mem F hb
  rw [e1] at q1;cases q1
  obtain ⟨sl2,e2⟩:=up b hb _ e1 q2
  exact ⟨sl2,e2⟩
 ·obtain ⟨o1,e1⟩:=u.there b o e hx
  by_cases hb:b ∈ frs outer
  ·obtain ⟨_,o2,q1,q2⟩:=frs_mem F hb
   obtain ⟨sl2,e2⟩:=up b hb _ q1 q2
   exact ⟨_,e2⟩
  ·exact ⟨o1,at2 b o e hb o1 e1⟩
theorem leave_held {a C c L:Addr} {a0:Value} {B:Heap} {H':Hp} {s':Shared} {h6:Heap} (Bd:Body X E) (I:Inv X pins σ H s) (T:Thrown X.prog X.w X.stack H s a C a0 B H' s') (hL:X.env.frame=some L) (hcn:X.s₀.heap.objs.size≤c) (hcH:H' c=none)
  (held:Heap.HeldW (less B c) X.stack a (.ref C) a0 L h6) (ups:∀ b ∈ frs X.outer,∀ o,s'.heap.get? b=some o→(∀ vs,o.data≠.fields vs)→∃ sl,h6.get? b=some { o with slots:=sl }) (q:E (.ref C) none H'):X.xe (.ref a) { s' with heap:=h6 }:=by
 rw [Bd.xe]
 have hh:=held
 rw [Bd.stk] at hh
 show wpAny _ X.A (do noteFrame (.ref a) X.env;setFlight (.ref a) none) _ _ _
 refine wpAny_bind (wpAny_noteFrame_againW hL hh.2.2.2 (wpAny_landsW hh fun h7 fly7 up7=>?_))
 have fly:Heap.FlyingW (less B c) X.outer a (.ref C) a0 h7:=⟨fly7.1,fly7.2.1,fly7.2.2.1.2.2,fly7.2.2.2⟩
 have cov0:∀ b o,X.s₀.heap.get? b=some o→b ∉ frs X.outer→∃ o',B.get? b=some o':=fun b o e hb=>by
  obtain ⟨o1,e1⟩:=(Bd.base I).there b o e (by simp)
  exact T.cov b o1 e1 (Bd.notin (I.old e) hb)
 have cov:∀ b o,X.s₀.heap.get? b=some o→b ∉ frs X.outer→∃ o',(less B c).get? b=some o':=fun b o e hb=>by
  rw [less_ne (Nat.ne_of_lt (Nat.lt_of_lt_of_le (Heap.lt_size e) hcn))]
  exact cov0 b o e hb
 have u1:Un (frs X.outer) [] X.H₀ H' X.s₀.heap s'.heap:=by
  have ub:=Bd.base I
  refine ⟨fun b o e n hb hx=>T.un.keep b o (ub.keep b o e n hb hx) (ub.free b o e n hx) (Bd.notin (I.old e) hb) (by simp),fun b o e n hb hx=>?_,fun b o e n hx=>?_,fun b o e hx=>?_,fun b xs e=>T.un.tups b xs (ub.tups b xs e),
   fun b o xs e=>T.un.frzs b o xs (ub.frzs b o xs e),fun b ps e=>?_⟩
  ·obtain ⟨sl,e1⟩:=ub.slot b o e n hb hx
   obtain ⟨sl',e2⟩:=T.un.any e1 (ub.free b o e n hx) (by simp)
   exact ⟨sl',e2⟩
  ·obtain ⟨o1,e1⟩:=ub.there b o e hx
   exact T.un.free b o1 e1 (ub.free b o e n hx) (by simp)
  ·obtain ⟨o1,e1⟩:=ub.there b o e hx
   exact T.un.there b o1 e1 (by simp)
  ·obtain ⟨m1,e1⟩:=ub.tbls b ps e
   obtain ⟨m2,e2⟩:=T.un.tbls b _ e1
   exact ⟨m1 ++ m2,by rw [e2,Array.append_assoc]⟩
 have tf:=T.fly
 rw [Bd.stk] at tf
 have F':s'.heap.FunFrames (less B c) X.outer:=PySem.W.funFrames_base (less_in B c) tf.2.2.1.2.2
 have st1:(less B c).StaysIn s'.heap:=fun b o e=>tf.1 b o (less_in B c b o e)
 have trk:∀ b u,H' b=some u→∃ o',(less B c).get? b=some o':=fun b u e=>by
  rw [less_ne fun z=>by rw [z,hcH] at e;cases e]
  exact T.trk b u e
 exact ⟨a,C,a0,less B c,H',rfl,⟨T.os.trans I.os,T.bare,un_later2 u1 F' st1 fly.1 (fun b hb o e hn=>by
  obtain ⟨sl,e2⟩:=ups b hb o e hn
  obtain ⟨sl2,e3⟩:=up7 b { o with slots:=sl } e2 hn
  exact ⟨sl2,e3⟩) cov,hok_later T.hok st1 fly.1 trk,fly,cov,trk⟩,q⟩
end
end L2
namespace L2
open PySem PySem.Spec PyProof.Rows
section
variable {prog:Program} {w:World} {A:Around} {R:Result→Shared→Prop} {s:Shared}
theorem compLoopX {elt target iter:Expr} {ifs:List Expr} {scope:Scope} {pos:Pos} {it acc:Value} {env:Env} {Er:Value→Shared→Prop} (hEr:∀ e s',Er e s'→notedBy (model prog w) A env (fun e s'=>R (.error e) s') e s') (I:Nat→Shared→Prop)
  (turn:∀ n s,I n s→wpAny (model prog w) A (pyNext it) (fun r s₁=>match r with
   | none=>R (.ok .next) s₁
   | some v=>wpAny (model prog w) A (letOwnedTupleGo target it v) (fun _ s₁'=>wpAny (model prog w) A (assign target env v) (fun _ s₂ =>
     wpAny (model prog w) A (forIn ifs true fun c r=>if r=true then do let ok ← isTrue c env (eval c env);pure (ForInStep.yield ok) else pure (ForInStep.yield r)) (fun ok s₃ =>
      if ok=true then wpAny (model prog w) A (eval elt env) (fun x s₄ =>
       wpAny (model prog w) A (call (.builtin "list.append") [acc,x]) (fun _ s₅=>∃ m,m < n∧I m s₅) Er s₄) Er s₃
      else ∃ m,m < n∧I m s₃) Er s₂) Er s₁') Er s₁) Er s)
  (n:Nat) (h:I n s) :
  codeAny (model prog w) A (.compLoop (.ListComp elt [⟨target,iter,ifs,0⟩] scope pos) 0 it acc env) R s:=by
 refine codeAny_loop rfl I (fun n s hI=>?_) n h
 show wpAny _ A ((compTurn (.ListComp elt [⟨target,iter,ifs,0⟩] scope pos) 0 it acc env).onRaise (fun x=>do noteFrame x env;theTreesLotGoes x)) _ _ s
 refine wpAny_noted ?_
 rw [compTurn_list]
 refine wpAny_bind (wpAny_standAt (wpAny_bind (wpAny_mono (turn n s hI) (fun r s₁ h₁=>?_) hEr)))
 cases r with
 | none=>exact wpAny_pure h₁
 | some v =>
  refine wpAny_bind (wpAny_mono h₁ (fun _ s₁' h₁'=>?_) hEr)
  refine wpAny_bind (wpAny_mono h₁' (fun _ s₂ h₂=>wpAny_bind (wpAny_mono h₂ (fun ok s₃ h₃=>?_) hEr)) hEr)
  cases ok with
  | false=>exact wpAny_pure ⟨rfl,h₃⟩
  | true =>
   exact wpAny_bind (wpAny_bind (wpAny_mono h₃ (fun x s₄ h₄=>wpAny_bind (wpAny_mono h₄ (fun _ s₅ h₅=>wpAny_pure (wpAny_pure ⟨rfl,h₅⟩)) hEr)) hEr))
end
def PostX (M:Model) (A:Around) (E:Value→Shared→Prop) (Q:Value→Shared→Prop) (acc:Value) (cenv:Env) (r:Result) (s':Shared):Prop :=
 match r with
 | .ok _=>∃ m,s'.heap.Ns cenv.locals m∧∀ h',Heap.SameBut cenv.locals s'.heap h'→Q acc { s' with heap:=h' }
 | .error x=>∃ m,s'.heap.Ns cenv.locals m∧∀ h',Heap.SameBut cenv.locals s'.heap h'→wpAny M A (passOn "comprehension.variables-let-go" x cenv:Sem Value) (fun _ _=>False) E { s' with heap:=h' }
theorem comp_rule {M:Model} {A:Around} {E:Value→Shared→Prop} {s:Shared} {env:Env} {e:Expr} {scope:Scope} {pos:Pos} {newAcc first:Sem Value} {g:Comprehension} {gs:List Comprehension} {cl:List (Str × Addr)} {Q:Value→Shared→Prop}
  (hcl:clausesOf e=g :: gs) (hs:∀ x,foldedSetIterable g.iter env x=pure x) (hclos:closureFor scope env=pure cl) (hkind:scope.kind=.function) (hnames:∀ x ∈ scope.names,x.2=.local→scope.names.lookup x.1=some .local)
  (h:wpAny M A first (fun x s1=>wpAny M A (pyIter x) (fun it s2=>wpAny M A newAcc (fun acc s3=>wpAny M A (newFunctionEnv scope env.globals cl [] env.qual none .none (some env)) (fun cenv s4 =>
   codeAny M A (.compStart e 0 it acc { cenv with scope:=relabel scope env }) (PostX M A E Q acc { cenv with scope:=relabel scope env }) s4) E s3) E s2) E s1) E s) :
  wpAny M A (comprehension e scope env pos newAcc false first none) Q E s:=by
 unfold comprehension
 rw [hclos,hcl]
 refine wpAny_bind (thn h fun x s1 h1=>wpAny_bind (wpAny_standAt (wpAny_bind (wpAny_of_eq (hs x) (wpAny_bind (wpAny_holding (thn h1 fun it s2 h2=>?_)))))))
 refine wpAny_standIf (wpAny_bind (thn h2 fun acc s3 h3=>wpAny_bind (wpAny_pure (wpAny_bind (thn h3 fun cenv s4 h4=>?_)))))
 dsimp only
 refine wpAny_holding (wpAny_bind (wpAny_attempt (wpAny_holding (wpAny_run (codeAny_mono h4 fun r s' hr=>?_)))))
 have own:∀ x ∈ (scope.names.filter fun x=>(x.2 == .local || x.2 == .cell) && x.1 != (".0":Str)).reverse,x.2=.local→Env.kindOf { cenv with scope:=relabel scope env } x.1=some .local :=
  fun x hx hl=>lookup_relabel_local (hnames x (List.mem_filter.mp (List.mem_reverse.mp hx)).1 hl)
 cases r with
 | ok f =>
  obtain ⟨m,hn,hr⟩:=hr
  exact wpAny_bind (wpAny_holding (wpAny_comp_letGo (cenv:={ cenv with scope:=relabel scope env }) hkind _ s' m own hn fun h' _ _ hb=>wpAny_pure (hr h' hb)))
 | error x =>
  obtain ⟨m,hn,hr⟩:=hr
  exact wpAny_bind (wpAny_holding (wpAny_comp_letGo (cenv:={ cenv with scope:=relabel scope env }) hkind _ s' m own hn fun h' _ _ hb=>wpAny_mono (hr h' hb) (fun _ _ z=>z.elim) fun _ _ z=>z))
def cxX (X:Cx) (Nc:List Str) (scope:Scope) (C:Addr) (fp:List Addr) (s:Shared) (H:Hp) (E:XK):Cx:=(cxC X Nc scope C fp s H).wish fun e s' =>
 ∃ (a C':Addr) (a0:Value) (B:Heap) (σ':St) (H' H2:Hp) (s0:Shared),e=.ref a∧Inv (cxC X Nc scope C fp s H) [] σ' H' s0∧Thrown X.prog X.w X.stack H' s0 a C' a0 B H2 s'∧E (.ref C') none H2
theorem passX {X:Cx} {Nc:List Str} {scope:Scope} {C:Addr} {fp:List Addr} {s:Shared} {H:Hp} {E:XK}:Passes (CX1 X.prog X.w) (cxX X Nc scope C fp s H E) E:=by
 intro pins2 σ2 H2 s2 e s' I h
 obtain ⟨a,C',a0,B,H',rfl,T,q⟩:=h
 exact ⟨a,C',a0,B,σ2,H2,H',s2,rfl,(Inv.unwish I).unpinned (pins:=[]),T,q⟩
section
variable {X:Cx} {tg elt iter:Expr} {ifs:List Expr} {scope:Scope} {pos:Pos} {wi:TI} {g:TG} {tt:TT} {te:TE} {Nc:List Str} {ix:List (Option Nat)} {E:XK}
theorem pe_lcX (Bd:Body X E) (hc:X.calm=true) (S:CompScope X Nc ix scope) (hi:PI X tg iter wi)
  (hb:∀ (C:Addr) (fp:List Addr) (s:Shared) (H:Hp),PG (cxX X Nc scope C fp s H E) tg g∧PTs (cxX X Nc scope C fp s H E) ifs tt∧PE (cxX X Nc scope C fp s H E) elt te)
  (hs:∀ x,foldedSetIterable iter X.env x=pure x:=by intro _;rfl):PE X (.ListComp elt [⟨tg,iter,ifs,0⟩] scope pos) (tLC wi ix g tt te):=by
 intro pins s0 σ H0 Q I0 h0
 rw [eval_ListComp]
 refine comp_rule rfl hs (closure_of (S.cells I0)) S.kind S.loc (thn (hi pins s0 σ H0 _ I0 h0) fun v s1 h1=>thn h1 fun itv s h2=>?_)
 obtain ⟨it,fp,tn,J,H,e,I,T,st,f,q2⟩:=h2
 subst e
 obtain ⟨hg,ht,he⟩:=hb (s.heap.objs.size+1) fp s H
 obtain ⟨W,⟨m0,w0⟩,turn⟩:=q2 s.heap.objs.size (I.hok.fresh (Nat.le_refl _))
 refine wpAny_newObj_type (newEnv_comp ?_)
 have I4:=inv_comp (t':=s.toks) S I f (fun b hb=>let ⟨o,e,_⟩:=T.obj _ _ st b hb;⟨o,e⟩)
 have hsz:(s.heap.push { cls:=.type "list",dict:=none,data:=.seq ([]:List Value).toArray }).objs.size=s.heap.objs.size+1:=Heap.size_push ..
 dsimp only
 rw [hsz]
 have st4:tn 0 (pushCells ((s.heap.push { cls:=.type "list",dict:=none,data:=.seq ([]:List Value).toArray }).push { cls:=.type "dict",data:=.dict #[] }) scope.names) :=
  T.keep _ _ _ st fun b _ o e=>pushCells_keeps _ _ b o (Heap.get?_push_of_some _ (Heap.get?_push_of_some _ e))
 have fr4:∀ b ∈ fp,upd H s.heap.objs.size (.lst []) b=none:=fun b hb=>by
  obtain ⟨o,e,_⟩:=T.obj _ _ st b hb
  rw [upd_ne (Nat.ne_of_lt (Heap.lt_size e))]
  exact (f b hb).1
 have stat:∀ {H':Hp},(∀ b ∈ fp,H' b=none)→∀ b ∈ fp,FpOk (cxX X Nc scope (s.heap.objs.size+1) fp s H E) [] H' b:=fun {H'} hn b hb=>by
  obtain ⟨q1,q2⟩:=I4.ok.exf b hb
  exact ⟨hn b hb,q1,I4.ok.exfs b hb,.inl hb,q2,fun p hp=>absurd (show p ∈ ([]:List (Addr × Obj)) from hp) (by simp)⟩
 have stat':∀ {H':Hp},(∀ b ∈ fp,H' b=none)→∀ b ∈ fp,FpOk (cxC X Nc scope (s.heap.objs.size+1) fp s H) [] H' b:=fun hn b hb=>stat hn b hb
 obtain ⟨L,hL⟩:∃ L,X.env.frame=some L:=⟨_,Bd.fr⟩
 have frs0:X.A.frames=some (X.env :: X.outer):=by rw [← Bd.stk];exact I.ok.frames
 have raised:∀ e s',(cxX X Nc scope (s.heap.objs.size+1) fp s H E).xe e s'→notedBy (model X.prog X.w) X.A (cxC X Nc scope (s.heap.objs.size+1) fp s H).env (fun e s'=>PostX (model X.prog X.w) X.A X.xe (EP X pins σ Q) (.ref s.heap.objs.size) (cxC X Nc scope (s.heap.objs.size+1) fp s H).env (.error e) s') e s':=by
  rintro e s' ⟨a,C',a0,B,σ',H',H2,sr,rfl,Jr,Tr,qE⟩
  show wpAny _ X.A (noteFrame (.ref a) X.env) _ _ s'
  have fly:=Tr.fly
  rw [Bd.stk] at fly
  refine wpAny_looks_onW frs0 hL fly fun h4 held up4=>?_
  obtain ⟨m,hn,_⟩:=Jr.loc
  obtain ⟨oc,es,ep,hoc,hrest⟩:=id hn
  have hcls:(cxC X Nc scope (s.heap.objs.size+1) fp s H).env.locals=s.heap.objs.size+1:=rfl
  have hcn:s.heap.objs.size+1 ∉ frs X.stack:=fun z=>by
   obtain ⟨_,o,ho,_⟩:=Heap.FunFrames.mem (show s.heap.FunFrames X.base X.stack from Jr.ok.funs) z
   exact absurd (Heap.lt_size ho) (Nat.not_lt.mpr (Nat.le_succ _))
  have hd:∀ vs,oc.data≠.fields vs:=fun vs z=>by
   have:=hrest
   simp_all
  have e1:s'.heap.get? (s.heap.objs.size+1)=some oc:=Tr.un.keep _ _ hoc Jr.free hcn (by simp)
  obtain ⟨oB,eB⟩:∃ oB,B.get? (s.heap.objs.size+1)=some oB:=Tr.cov _ _ hoc hcn
  have e2:s'.heap.get? (s.heap.objs.size+1)=some oB:=Tr.fly.1 _ _ eB
  rw [e1] at e2
  cases e2
  have e4:h4.get? (s.heap.objs.size+1)=some oc:=held.1 _ _ eB
  have hH2:H2 (s.heap.objs.size+1)=none:=Tr.un.free _ _ hoc Jr.free (by simp)
  have IX:Inv X pins σ H' sr:=comp_back I f Jr
  refine ⟨m,Heap.Ns.at' hn fun o eo=>?_,fun h5 hs5=>?_⟩
  ·rw [show sr.heap.get? (cxC X Nc scope (s.heap.objs.size+1) fp s H).env.locals=some oc from hoc] at eo
   cases eo
   exact e4
  ·have held5:=held_less held eB e4 hd hs5
   obtain ⟨_,_,_,oe,vs,TT,oT,ts,he',_,hd',h1',_⟩:=id held5
   unfold PySem.passOn
   refine wpAny_bind (wpAny_field he' hd' h1' ?_)
   rw [if_neg (show ¬ ((Value.ref TT == Value.none)=true) from by simp)]
   show wpAny _ X.A (do setFlight (.ref a) X.env.frame;throw (.ref a)) _ _ _
   rw [hL]
   refine wpAny_bind (flight_again held5 fun h6 held6 up6=>wpAny_throw ?_)
   rw [← Bd.stk] at held6
   show X.xe (.ref a) { s' with heap:=h6 }
   refine leave_held (s':=s') Bd IX Tr hL (Nat.le_trans I.sz (Nat.le_succ _)) hH2 held6 (fun b hb o eo hnf=>?_) qE
   have hbs:b ∈ frs X.stack:=by
    rw [Bd.stk]
    obtain ⟨ev,h1,h2⟩:=List.mem_filterMap.mp hb
    exact List.mem_filterMap.mpr ⟨ev,List.mem_cons_of_mem _ h1,h2⟩
   obtain ⟨sl,e5⟩:=up4 b o eo hnf
   have hbc:b≠s.heap.objs.size+1:=fun z=>hcn (by rw [← z];exact hbs)
   exact ⟨sl,up6 b _ ((hs5.2 b hbc).trans e5) hnf⟩
 have loop:codeAny (model X.prog X.w) X.A (.compLoop (.ListComp elt [⟨tg,iter,ifs,0⟩] scope pos) 0 (.ref it) (.ref s.heap.objs.size) (cxC X Nc scope (s.heap.objs.size+1) fp s H).env)
   (PostX (model X.prog X.w) X.A X.xe (EP X pins σ Q) (.ref s.heap.objs.size) (cxC X Nc scope (s.heap.objs.size+1) fp s H).env)
   { s with heap:=pushCells ((s.heap.push { cls:=.type "list",dict:=none,data:=.seq ([]:List Value).toArray }).push { cls:=.type "dict",data:=.dict #[] }) scope.names }:=by
  refine compLoopX raised (fun n s'=>∃ i σ' H',Inv (cxC X Nc scope (s.heap.objs.size+1) fp s H) [] σ' H' s'∧tn i s'.heap∧(∀ b ∈ fp,H' b=none)∧W i n σ' H') ?_ m0 ⟨0,_,_,I4,st4,fr4,w0⟩
  rintro n s5 ⟨i,σ5,H5,I5,st5,fr5,w5⟩
  have I5x:Inv (cxX X Nc scope (s.heap.objs.size+1) fp s H E) [] σ5 H5 s5:=Inv.wish I5 _
  rcases turn i n σ5 H5 w5 with ⟨stop,qn⟩ | ⟨go,step⟩
  ·refine thn (T.done (cxX X Nc scope (s.heap.objs.size+1) fp s H E) rfl rfl rfl hc i [] s5 σ5 H5 _ I5x (stat fr5) st5 stop) fun r s6 ⟨hr,I6⟩=>?_
   subst hr
   have I6':Inv (cxC X Nc scope (s.heap.objs.size+1) fp s H) [] σ5 H5 s6:=Inv.unwish I6
   obtain ⟨m,hn,_⟩:=I6'.loc
   exact ⟨m,hn,fun h' hsb=>⟨.ref _,H5,(comp_back I f I6').letgo (I.fpOk (Nat.le_succ _) I6'.free) hsb,rfl,qn⟩⟩
  ·refine thn (T.item (cxX X Nc scope (s.heap.objs.size+1) fp s H E) rfl rfl rfl hc i [] s5 σ5 H5 _ I5x (stat fr5) st5 go) fun r s6 ⟨u,hr,h6⟩=>?_
   subst hr
   refine thn h6 fun _ s7 ⟨x,H7,I7,r7,y7,st7,fr7⟩=>?_
   have I7':=Inv.pinned I7 (stat fr7) (T.obj _ _ st7)
   refine thn (hg _ s7 σ5 H7 x u _ I7' r7 (step x H7 y7)) fun _ s8 ⟨σ8,H8,I8,q8⟩=>?_
   refine thn (ht _ s8 σ8 H8 _ I8 q8) fun b s9 ⟨H9,I9,q9⟩=>?_
   have again:∀ {s':Shared} {σ':St} {H':Hp},Inv (cxX X Nc scope (s.heap.objs.size+1) fp s H E) ([] ++ pinsAt fp s7.heap) σ' H' s'→tn (i+1) s'.heap∧∀ b ∈ fp,H' b=none:=fun {s' σ' H'} I'=>by
    refine ⟨T.keep _ _ _ st7 fun b hb o e=>(I'.pin (b,o) (List.mem_append_right _ (List.mem_append_right _ (mem_pinsAt hb e)))).1,fun b hb=>?_⟩
    obtain ⟨o,e,d⟩:=T.obj _ _ st7 b hb
    exact (I'.pin (b,o) (List.mem_append_right _ (List.mem_append_right _ (mem_pinsAt hb e)))).2.1
   cases b with
   | false =>
    rw [if_neg Bool.false_ne_true] at q9 ⊢
    obtain ⟨m',hm,w9⟩:=q9
    obtain ⟨a1,a2⟩:=again I9
    exact ⟨m',hm,i+1,σ8,H9,Inv.unwish (Inv.unpinned I9),a1,a2,w9⟩
   | true =>
    rw [if_pos rfl] at q9 ⊢
    refine thn (he _ s9 σ8 H9 _ I9 q9) fun v s10 ⟨x',H10,I10,r10,xs,eD,hlt,m',hm,w10⟩=>?_
    refine thn (mt_append (X:=cxX X Nc scope (s.heap.objs.size+1) fp s H E) _ s10 σ8 H10 (.ref s.heap.objs.size) [x'] (.ref s.heap.objs.size) [v] (fun _ H'=>H'=upd H10 s.heap.objs.size (.lst (xs ++ [x']))) I10 rfl (.cons r10 .nil)
     ⟨_,xs,x',rfl,rfl,eD,hlt,rfl⟩) fun _ s11 ⟨_,H11,I11,_,e11⟩=>?_
    subst e11
    obtain ⟨a1,a2⟩:=again I11
    exact ⟨m',hm,i+1,σ8,_,Inv.unwish (Inv.unpinned I11),a1,a2,w10⟩
 exact codeAny_compStart_list loop (T.self X.A 0 _ _ _ st4 loop)
end
end L2
namespace L2
open PySem PySem.Spec PyProof.Rows
abbrev ofCodes (cs:List Nat):Str:=⟨cs.toArray⟩
def Its (cs:List Nat):It:=⟨fun i _=>i < cs.length,fun i H v H'=>H'=H∧∃ c,cs[i]?=some c∧v=.str ⟨#[c]⟩,fun i _=>cs.length≤i⟩
theorem turn_str {P:Program} {w:World} {K:PySem.W.Frag} {tg:Expr} (it:Addr) (cs:List Nat) (t:Tok):Turn P w K tg (Its cs) [it] it (fun i h=>h.IsStrIter it "str_ascii_iterator" (ofCodes cs) t i) where
 mem:=by simp
 obj:=fun i h st b hb=>by
  have e:b=it:=by simpa using hb
  subst e
  obtain ⟨o,e,c,d⟩:=st
  exact ⟨o,e,fun v z=>by rw [d] at z;cases z⟩
 keep:=fun i h h' st k=>let ⟨o,e,r⟩:=st;⟨o,k it (by simp) o e,r⟩
 item:=by
  intro X hP hw hK hc i pins s σ H E I hf st hg
  subst hP hw hK
  obtain ⟨f0,f1,f2,f3,f4,f5⟩:=hf it (by simp)
  have hi:i < cs.length:=hg
  refine wpAny_pyNext_ascii_item st (c:=cs[i]) (by simp [ofCodes,hi]) fun h' st' sb=>?_
  have I1:Inv X pins σ H { s with heap:=h',toks:=s.toks+1 }:=I.turned (fun b o hb e=>(sb.2 b hb).trans e) f0 f1 f3 f4 f5
  obtain ⟨o,e,c,d⟩:=id st'
  exact ⟨_,rfl,go_of (s:={ s with heap:=h',toks:=s.toks+1 }) e c d (by decide) ⟨.str ⟨#[cs[i]]⟩,H,I1,⟨_,rfl⟩,⟨rfl,cs[i],by simp [hi],rfl⟩,st',fun b hb=>(hf b hb).1⟩⟩
 done:=by
  intro X hP hw hK hc i pins s σ H E I hf st hg
  subst hP hw hK
  obtain ⟨f0,f1,f2,f3,f4,f5⟩:=hf it (by simp)
  have hi:cs.length≤i:=hg
  exact wpAny_pyNext_ascii_end (I.ok.hd hc) st (by simp [ofCodes];omega) fun h' eb=>⟨rfl,I.turned (t':=s.toks) (fun b o hb e=>eb b o hb e) f0 f1 f3 f4 f5⟩
 self:=fun _ _ _ _ _ st h=>wpAny_pyIter_striter_ascii st h
section
variable {X:Cx}
def iStr (tl:TE):TI:=fun σ H R=>tl σ H fun x H1=>∃ cs:List Nat,x=.str (ofCodes cs)∧(∀ c ∈ cs,c < 128)∧R (Its cs) H1
theorem pi_str {tg l:Expr} {tl:TE} (hl:PE X l tl):PI X tg l (iStr tl):=by
 intro pins s σ H R I h
 refine thn (hl pins s σ H _ I h) fun v s1 ⟨x,H1,I1,r1,q1⟩=>?_
 obtain ⟨cs,rfl,ha,q⟩:=q1
 obtain ⟨t,rfl⟩:=r1
 refine wpAny_pyIter_ascii (by simp only [ofCodes,List.all_toArray,List.all_eq_true,decide_eq_true_eq];exact ha) ?_
 refine ⟨s1.heap.objs.size,[s1.heap.objs.size],_,_,H1,rfl,I1.kept (t':=s1.toks) fun b o e=>Heap.get?_push_of_some _ e,turn_str _ cs t,⟨_,Heap.get?_push_size _ rfl,rfl,rfl⟩,fun b hb=>?_,q⟩
 have e:b=s1.heap.objs.size:=by simpa using hb
 subst e
 exact I1.fpOk (Nat.le_refl _) (I1.hok.fresh (Nat.le_refl _))
end
section
variable {K:PySem.W.Frag} {g:TG} {tt:TT} {te:TE} {D:Addr} {σ:St} {H:Hp} {Q:VK}
theorem lc_str {cs:List Nat} (Pv:Nat→St→Hp→Prop) (h0:Pv 0 σ H)
  (hs:∀ (i c:Nat) (σ:St) (H:Hp) (N:St→Hp→Prop),(∀ σ H,Pv (i+1) σ H→N σ H)→cs[i]?=some c→Pv i σ H→g (.str ⟨#[c]⟩) σ H fun σ3 H3=>tt σ3 H3 fun b H4 =>
   if b=true then te σ3 H4 fun v H5=>∃ ys,H5 D=some (.lst ys)∧ys.length < sizeLine∧N σ3 (upd H5 D (.lst (ys ++ [v]))) else N σ3 H4)
  (hd:∀ σ H,Pv cs.length σ H→Q (.ref D) H):lcRun (Its cs) g tt te D σ H Q:=by
 refine ⟨fun i m σ H=>m=cs.length - i∧i≤cs.length∧Pv i σ H,⟨cs.length,by simp,Nat.zero_le _,h0⟩,?_⟩
 rintro i m σ' H' ⟨rfl,hi,p⟩
 by_cases hlt:i < cs.length
 ·refine .inr ⟨hlt,fun x H2 y=>?_⟩
  obtain ⟨e,c,hc,y⟩:=y
  subst e y
  exact hs i c σ' _ (fun σ3 H3=>∃ m',m' < cs.length - i∧m'=cs.length - (i+1)∧i+1≤cs.length∧Pv (i+1) σ3 H3) (fun σ3 H3 z=>⟨cs.length - (i+1),by omega,rfl,hlt,z⟩) hc p
 ·have e:i=cs.length:=by omega
  subst e
  exact .inl ⟨Nat.le_refl _,hd σ' H' p⟩
end
end L2
namespace L2
open PySem PySem.Spec PyProof.Rows
section
variable {X:Cx}
end
theorem ofCodes_length (a:List Nat):(ofCodes a).length=a.length:=by simp [Str.length,ofCodes]
end L2
namespace L2
open PySem PySem.Spec PyProof.Rows
section
variable {X:Cx} {pins:List (Addr × Obj)} {σ:St} {H:Hp} {s:Shared}
end
end L2
namespace L2
open PySem PySem.Spec PyProof.Rows
section
variable {prog:Program} {w:World} {A:Around} {E:Value→Shared→Prop} {h:Heap} {g:Array GenState} {d:Drawn} {t:Nat} {os:OsState} {K:PySem.W.Frag} {C B f:Addr}
end
section
variable {X:Cx} {CX:CXT} {k:Nat} {f C B:Addr} {fd:FuncData} {ps:List Str} {sp:Sp} {E:XK} {x:Str} {p pos:Pos} {e:Expr} {es:List Expr} {t:TA}
end
end L2
namespace L2
open PySem PySem.Spec PyProof.Rows
section
variable {X:Cx} {pins:List (Addr × Obj)} {σ:St} {H:Hp} {s:Shared} {C B f a:Addr}
end
section
variable {prog:Program} {w:World} {A:Around} {E:Value→Shared→Prop} {h:Heap} {g:Array GenState} {d:Drawn} {t:Nat} {os:OsState} {K:PySem.W.Frag} {a C B f dx:Addr} {name:Str} {v:Value} {mA:Str→Option Value}
end
section
variable {X:Cx}
end
end L2
namespace L2
open PySem PySem.Spec PyProof.Rows
section
variable {P:Program} {w:World} {K:PySem.W.Frag} {mg:Str→Option Value} {base:Heap}
theorem Fun.ok1q {x qual:Str} {st:Stmt} {f:Addr} {fd:FuncData} {N ps:List Str} {k:Nat} {sp:Sp} (F:Fun K x qual st f fd) (S:FnScope N ps (defScope st)) (len:∀ vs H Q E,sp vs H Q E→vs.length=ps.length)
  (hbody:∀ (f:Addr) (cdv:Value) (A:Around) (outer:List Env) (s:Shared) (H:Hp) (vs:List V) (Q:VK) (E:XK),Room k (A.deeper (envOfC qual (defScope st) s.heap.objs.size f cdv))→sp vs H Q E →
   ∃ t,PSs (cx1 P w K mg base N qual st f cdv A outer s H E) (defBody st) t∧t { nx:=fun _ H'=>Q .non H',rt:=Q } (start N vs) H):FnOk P w K mg base (CX1 P w) (k+1) f fd ps sp:=by
 obtain ⟨oc,od,kV,doc,pm,an,cdv,ct,osl,rfl,lk,hcd⟩:=F.ex
 exact fn_of lk hcd S len fun A outer s H vs Q E hr hsp=>hbody f cdv A outer s H vs Q E hr hsp
end
end L2
namespace L2
open PySem PySem.Spec PyProof.Rows
section
variable {prog:Program} {w:World} {A:Around} {E:Value→Shared→Prop}
theorem drawL {it l:Addr} {xs:Array Value} (ne:l≠it):∀ (n i:Nat) (s:Shared) (Q:List Value→Shared→Prop),s.heap.IsListIter it l i→s.heap.IsList l xs→i+n≤xs.size →
  (∀ g,g.IsListIter it l (i+n)→Heap.SameBut it s.heap g→Q ((xs.toList.drop i).take n) { s with heap:=g })→wpAny (model prog w) A (draw (.ref it) n) Q E s
 | 0,i,s,Q,a,_,_,q=>wpAny_pure (by have:=q s.heap a (Heap.SameBut.refl ..);rw [List.take_zero] at this;exact this)
 | n+1,i,s,Q,a,b,le,q=>by
  have lt:i < xs.size:=Nat.lt_of_lt_of_le (Nat.lt_add_of_pos_right (Nat.succ_pos n)) le
  have e1:xs.toList.drop i=xs[i] :: xs.toList.drop (i+1):=by simp [List.drop_eq_getElem_cons,lt]
  show wpAny _ _ (pyNext (.ref it) >>= _) Q E s
  refine wpAny_bind (wpAny_pyNext_list_item a b (x:=xs[i]) (by simp [lt]) fun g a1 c1=>?_)
  refine wpAny_bind (wpAny_holding (drawL ne n (i+1) _ _ a1 (b.extBut c1.extBut ne) (by omega) fun g2 a2 c2=>wpAny_pure ?_))
  have z:=q g2 (by rw [Nat.add_comm n 1,← Nat.add_assoc];exact a2) (c1.trans c2)
  rw [e1,List.take_succ_cons] at z
  exact z
theorem unpackL {s:Shared} {l:Addr} {xs:Array Value} {ts:List (Bool × (Value→Sem Unit))} {Q:Unit→Shared→Prop} (hh:A.handled=none) (b:s.heap.IsList l xs) (hn:ts.length=xs.size) (hs:ts.findIdx? (·.1)=none)
  (q:∀ g,Heap.ExtBut s.heap.objs.size s.heap g→wpAny (model prog w) A (assignInOrder (ts.map (·.2)) xs.toList) Q E { s with heap:=g }):wpAny (model prog w) A (unpack (.ref l) ts) Q E s:=by
 have ne:l≠s.heap.objs.size:=by obtain ⟨o,ho,_⟩:=b;exact Nat.ne_of_lt (Heap.lt_size ho)
 unfold unpack
 rw [hn,hs]
 refine wpAny_bind (wpAny_holding ?_)
 unfold unpackItems
 refine wpAny_bind ?_
 unfold notIterableAtAll
 refine wpAny_bind (wpAny_specialOf b.typeIs slot_list_iter.lookup (wpAny_pure ?_))
 simp only [Bool.false_eq_true,if_false]
 refine wpAny_bind (wpAny_holding (wpAny_pyIter_list b ?_))
 refine wpAny_bind (wpAny_holding (drawL ne xs.size 0 _ _ ⟨_,Heap.get?_push_size _ rfl,rfl,rfl⟩ (b.push _) (by omega) fun g a1 c1=>?_))
 have al:(xs.toList.drop 0).take xs.size=xs.toList:=by rw [List.drop_zero];exact List.take_of_length_le (by simp)
 rw [al,if_neg (by simp)]
 have b1:g.IsList l xs:=(b.push _).extBut c1.extBut ne
 refine wpAny_bind (wpAny_holding (wpAny_pyNext_list_end hh a1 b1 (by simp) fun g2 c2=>?_))
 simp only [Option.isSome_none,Bool.false_eq_true,if_false]
 exact wpAny_pure (q g2 fun y o hy e=>c2 y o hy (c1.extBut y o hy (Heap.get?_push_of_some _ e)))
end
def gTupL (K:PySem.W.Frag) (n:Nat) (t:TGs):TG:=fun v σ H Q=>∃ a xs,v=.ref a∧SqL K H a xs∧xs.length=n∧t xs σ H Q
theorem pg_tupL {X:Cx} (K:PySem.W.Frag) {pos:Pos} {es:List Expr} {k:Nat} {t:TGs} {n:Nat} (hc:X.calm=true) (h:PGs X es t) (hK:X.K=K:=by rfl)
  (hn:(assignEach es X.env).length=n:=by rfl) (hst:(assignEach es X.env).findIdx? (·.1)=none:=by rfl):PG X (.Tuple es k pos) (gTupL K n t):=by
 subst hK
 intro pins s σ H v u Q I r hw
 obtain ⟨a,xs,e1,hq,hl,hw⟩:=hw
 subst e1
 cases r
 obtain ⟨its,rv,ht,_⟩:=I.list hq
 have hl':s.heap.IsList a its.toArray:=by obtain ⟨o,n,e,c,_,d⟩:=ht;exact ⟨o,e,c,n,d⟩
 rw [assign_Tuple]
 refine wpAny_bind (wpAny_standAt (unpackL (I.ok.hd hc) hl' (by simp [hn,← hl,rv.length]) hst fun g hx=>?_))
 have I1:Inv X pins σ H { s with heap:=g }:=I.kept (t':=s.toks) fun b o e=>hx b o (Nat.ne_of_lt (Heap.lt_size e)) e
 exact h pins _ σ H xs _ Q I1 (by simpa using rv) hw
end L2
namespace L2
open PySem PySem.Spec PyProof.Rows
def hasK (ks:List Key) (k:Key):Bool:=ks.any fun x=>decide (x=k)
theorem hasK_iff {ks:List Key} {k:Key}:hasK ks k=true↔k ∈ ks:=by
 unfold hasK
 rw [List.any_eq_true]
 exact ⟨fun ⟨x,h,e⟩=>by rw [← of_decide_eq_true e];exact h,fun h=>⟨k,h,decide_eq_true rfl⟩⟩
theorem hasK_cons {ks:List Key} {k x:Key}:hasK (x :: ks) k=(hasK ks k || decide (k=x)):=by
 show (decide (x=k) || hasK ks k)=_
 rw [Bool.or_comm]
 exact congrArg _ (decide_eq_decide.mpr eq_comm)
def dd:List Key→List Key
 | []=>[]
 | k :: ks=>if hasK ks k=true then dd ks else k :: dd ks
theorem dd_len:∀ (ks:List Key),(dd ks).length≤ks.length
 | []=>Nat.le_refl _
 | x :: ks=>by
  have:=dd_len ks
  unfold dd
  split
  ·rw [List.length_cons];omega
  ·rw [List.length_cons,List.length_cons];omega
theorem dd_nodup:∀ (ks:List Key),(dd ks).length=ks.length↔ks.Nodup
 | []=>by simp [dd]
 | x :: ks=>by
  have h:=dd_len ks
  have ih:=dd_nodup ks
  rw [List.nodup_cons]
  unfold dd
  split
  ·rename_i hx
   have hx:=hasK_iff.mp hx
   rw [List.length_cons]
   exact ⟨fun z=>by omega,fun z=>absurd hx z.1⟩
  ·rename_i hx
   have hx:¬ x ∈ ks:=fun z=>hx (hasK_iff.mpr z)
   rw [List.length_cons,List.length_cons]
   exact ⟨fun z=>⟨hx,ih.mp (by omega)⟩,fun z=>by have:=ih.mpr z.2;omega⟩
def KSet (P:Program) (w:World) (a:Addr) (ks:List Key):HO:=.ext fun h=>h.SetOf (mixKind P w) a (hasK ks) (dd ks).length
theorem mix_scan {prog:Program} {w:World}:∀ {k:Key} {v:Value},RelV (kV k) v→(mixKind prog w).is k v=true∧v.scannable=true
 | .inl i,_,⟨t,e⟩=>by subst e;exact ⟨mixKind_int prog w i t,rfl⟩
 | .inr x,_,⟨t,e⟩=>by subst e;exact ⟨mixKind_str prog w x t,rfl⟩
theorem set_more {prog:Program} {w:World} {h:Heap} {a:Addr} {k:Key} {ks:List Key}
  (q:h.SetOf (mixKind prog w) a (fun k'=>hasK ks k' || decide (k'=k)) (if hasK ks k then (dd ks).length else (dd ks).length+1)):h.SetOf (mixKind prog w) a (hasK (k :: ks)) (dd (k :: ks)).length:=by
 have e1:(fun k'=>hasK ks k' || decide (k'=k))=hasK (k :: ks):=funext fun k'=>hasK_cons.symm
 have e2:(if hasK ks k then (dd ks).length else (dd ks).length+1)=(dd (k :: ks)).length:=by
  show _=(if hasK ks k=true then dd ks else k :: dd ks).length
  split <;> rfl
 rw [e1,e2] at q
 exact q
section
variable {prog:Program} {w:World} {A:Around} {R:Result→Shared→Prop} {I:Addr} {fp wr:List Addr} {G:Array GenState→Array GenState→Prop} {St:Nat→Shared→Prop}
theorem set_loop (us:List Value) (ks:List Key) (hu:Vals (ks.map kV) us) (W:WalksS prog w A.in1 I fp wr G us.length (fun i v=>us[i]?=some v) St) (S:Addr) (nS:S ∉ fp) (hb:us.length+1 < scanBound) :
  ∀ (m i:Nat) (s:Shared),us.length - i=m→i≤us.length→St i s→s.heap.SetOf (mixKind prog w) S (hasK (ks.take i).reverse) (dd (ks.take i).reverse).length →
   (∀ s',Moved (S :: wr) G s s'→s'.heap.SetOf (mixKind prog w) S (hasK ks.reverse) (dd ks.reverse).length→R (.ok (.ret .none)) s') →
   codeAny (model prog w) A (.builtin "set.update.loop" ⟨[.ref S,.ref I],[]⟩) R s:=by
 have hlen:ks.length=us.length:=by rw [← hu.length,List.length_map]
 have nw:S ∉ wr:=fun z=>nS (W.sub _ z)
 have sb:∀ b ∈ wr,b ∈ S :: wr:=fun b z=>List.mem_cons_of_mem _ z
 have stays:∀ {s s':Shared} {f:Key→Bool} {n:Nat},Moved wr G s s'→s.heap.SetOf (mixKind prog w) S f n→s'.heap.SetOf (mixKind prog w) S f n :=
  fun hm ⟨o,es,ep,t,ho,r⟩=>⟨o,es,ep,t,hm.heap S _ nw ho,r⟩
 intro m
 induction m with
 | zero =>
  intro i s hm hi st hS hR
  obtain rfl:i=us.length:=by omega
  refine codeAny_builtin F.entry_set_update_loop ?_
  rw [Around.under_plainId F.plain_set_update_loop _]
  refine wpAny_bind (m:=pyNext (.ref I)) (W.done s _ _ st fun s' mv=>?_)
  refine wpAny_pure (hR s' (mv.mono sb) ?_)
  have e:ks.take us.length=ks:=List.take_of_length_le (by omega)
  rw [e] at hS
  exact stays mv hS
 | succ m ih =>
  intro i s hm hi st hS hR
  have hlt:i < us.length:=by omega
  refine codeAny_builtin F.entry_set_update_loop ?_
  rw [Around.under_plainId F.plain_set_update_loop _]
  refine wpAny_bind (m:=pyNext (.ref I)) (W.item i s _ _ hlt st fun v s' hv st' mv=>?_)
  obtain ⟨k,hk,rk⟩:∃ k,ks[i]?=some k∧RelV (kV k) v:=by
   have hi':i < ks.length:=by omega
   obtain ⟨u,e1,e2⟩:=hu.get (i:=i) (x:=kV ks[i]) (by rw [List.getElem?_map,List.getElem?_eq_getElem hi'];rfl)
   have hv':us[i]?=some v:=hv
   rw [e1] at hv'
   cases hv'
   exact ⟨_,List.getElem?_eq_getElem hi',e2⟩
  obtain ⟨k1,k2⟩:=mix_scan (prog:=prog) (w:=w) rk
  refine wpAny_bind (m:=holding [v] (setAdd S v)) (wpAny_holding ?_)
  unfold setAdd
  refine wpAny_holding (wpAny_bind ((mixKind prog w).pyHash k1 ?_))
  have hS1:=stays mv hS
  have hroom:(dd (ks.take i).reverse).length+1 < scanBound:=by
   have:=dd_len (ks.take i).reverse
   rw [List.length_reverse,List.length_take] at this
   omega
  refine wpAny_setAddHashed_of (knd:=mixKind prog w) (s:={ s' with toks:=s'.toks+1 }) k1 k2 hS1 hroom fun h' eq hS2=>?_
  have e:(ks.take (i+1)).reverse=k :: (ks.take i).reverse:=by rw [List.take_succ,hk,List.reverse_append];rfl
  have hS3:=set_more hS2
  rw [← e] at hS3
  refine wpAny_pure ⟨plainId_quiet F.plain_set_update_loop _,ih (i+1) _ (by omega) hlt (W.frame _ s' _ _ st' (Nat.le_succ _) fun b z o eo=>?_) hS3 fun s2 mv2 hS4=>hR s2 (Moved.trans W.gtrans ((mv.mono sb).then_heap (Nat.le_succ _) fun b o z eo=>?_) mv2) hS4⟩
  ·rw [eq.2 b (fun y:b=S=>nS (by rw [← y];exact z))];exact eo
  ·rw [eq.2 b (fun y:b=S=>z (by rw [y];exact List.mem_cons_self))];exact eo
end
end L2
namespace L2
open PySem PySem.Spec PyProof.Rows
section
variable {prog:Program} {w:World} {A:Around} {E:Value→Shared→Prop} {s:Shared}
set_option maxHeartbeats 2000000 in
theorem set_called {u:Value} {Q:Value→Shared→Prop}
  (hn:∀ led:Bool,wpAny (model prog w) A.in1.in1 (Builtin.«set.__init__» ⟨[.ref s.heap.objs.size,u],[]⟩)
    (fun fin s'=>match fin with | .done f=>wants (fun r s2=>r=.none∧Q (.ref s.heap.objs.size) s2) E (.ok f) s' | .again c'=>c'.quiet=true∧codeAny (model prog w) A.in1 c' (wants (fun r s2=>r=.none∧Q (.ref s.heap.objs.size) s2) E) s')
    (fun e s'=>wants (fun r s2=>r=.none∧Q (.ref s.heap.objs.size) s2) E (.error e) s') { s with heap:=s.heap.push { cls:=.type "set",dict:=none,data:=.set #[] 0 (.fresh 0 0 led) } }) :
  wpAny (model prog w) A (call (.type "set") [u]) Q E s:=by
 have ft:=F.called_set
 obtain ⟨c0,tl0,hmro⟩:=ft.mro
 have g1:=ft.made;have g2:=ft.sub;have g3:=ft.notType;have g4:=ft.canCreate;have g5:=F.typeCall_set_1 u
 refine wpAny_call (codeAny_of_tree (wpAny_pure (a:=_) ⟨Code.quiet_builtin _ (by decide +kernel),codeAny_builtin F.entry_type_call ?_⟩))
 rw [Around.under_plain (weight_type_call_type "set" [u] []) rfl]
 repeat (any_goals (first | assumption | (wp_step)))
 refine codeAny_mono (code_set_new_1 u (E:=E) (Q₁:=fun obj z=>∃ led:Bool,obj=.ref s.heap.objs.size∧z={ s with heap:=s.heap.push { cls:=.type "set",dict:=none,data:=.set #[] 0 (.fresh 0 0 led) } }) fun led=>⟨led,rfl,rfl⟩) fun r s₁ hr=>?_
 cases r with
 | error e=>exact hr
 | ok fl =>
  cases fl with
  | ret obj =>
   obtain ⟨led,rfl,rfl⟩:=hr
   have hT:Shared.TypeIs { s with heap:=s.heap.push { cls:=.type "set",dict:=none,data:=.set #[] 0 (.fresh 0 0 led) } } (.ref s.heap.objs.size) "set":=⟨_,Heap.get?_push_size _ rfl,rfl⟩
   have g6:=ft.init.lookup;have g7:=ft.init.bind (.ref s.heap.objs.size)
   repeat (any_goals (first | assumption | (wp_step)))
   refine codeAny_mono (codeAny_call_builtin ft.init.plain F.entry_set_init (check_set_init_1 hT (hn led))) fun r2 s2 hr2=>?_
   cases r2 with
   | error e=>exact hr2
   | ok f2 =>
    cases f2 with
    | ret r =>
     obtain ⟨rfl,hq⟩:=hr2
     repeat (any_goals (first | assumption | (wp_step)))
    | _=>exact hr2.elim
  | _=>exact hr.elim
end
end L2
namespace L2
open PySem PySem.Spec PyProof.Rows
section
variable {prog:Program} {w:World} {A:Around} {E:Value→Shared→Prop} {s:Shared}
set_option maxHeartbeats 4000000 in
theorem set_of_seq {T:String} {l:Addr} {us:List Value} {ks:List Key} {Q:Value→Shared→Prop} (hh:A.handled=none) (hT:(T="list"∧s.heap.IsList l us.toArray)∨(T="tuple"∧s.heap.IsTuple l us.toArray))
  (hu:Vals (ks.map kV) us) (hb:us.length+1 < scanBound)
  (h:∀ (h':Heap) (tk:Nat),h'.SetOf (mixKind prog w) s.heap.objs.size (hasK ks.reverse) (dd ks.reverse).length→(∀ b o,s.heap.get? b=some o→h'.get? b=some o)→Q (.ref s.heap.objs.size) { s with heap:=h',toks:=tk }) :
  wpAny (model prog w) A (call (.type "set") [.ref l]) Q E s:=by
 refine set_called fun led=>?_
 have hS:(s.heap.push { cls:=.type "set",dict:=none,data:=.set #[] 0 (.fresh 0 0 led) }).get? s.heap.objs.size=some { cls:=.type "set",dict:=none,data:=.set #[] 0 (.fresh 0 0 led) }:=Heap.get?_push_size _ rfl
 have z4:A.in1.in1.in1.handled=none:=by simp [hh]
 have hlt:l < s.heap.objs.size:=by
  rcases hT with ⟨_,o,ho,_⟩ | ⟨_,o,ho,_⟩ <;> exact Heap.lt_size ho
 have nl:l≠(s.heap.push { cls:=.type "set",dict:=none,data:=.set #[] 0 (.fresh 0 0 led) }).objs.size:=by
  rw [Heap.size_push];exact Nat.ne_of_lt (Nat.lt_succ_of_lt hlt)
 have nS:s.heap.objs.size ∉ [(s.heap.push { cls:=.type "set",dict:=none,data:=.set #[] 0 (.fresh 0 0 led) }).objs.size,l]:=by
  rw [Heap.size_push]
  intro z
  rcases List.mem_cons.mp z with z | z
  ·exact absurd z (Nat.ne_of_lt (Nat.lt_succ_self _))
  ·exact absurd (List.mem_singleton.mp z) (Nat.ne_of_gt hlt)
 have fin:∀ (I:Obj) (G:Array GenState→Array GenState→Prop) (hG:∀ a b,G a b→b=a) (St:Nat→Shared→Prop),
   WalksS prog w A.in1.in1.in1 (s.heap.push { cls:=.type "set",dict:=none,data:=.set #[] 0 (.fresh 0 0 led) }).objs.size [(s.heap.push { cls:=.type "set",dict:=none,data:=.set #[] 0 (.fresh 0 0 led) }).objs.size,l] [(s.heap.push { cls:=.type "set",dict:=none,data:=.set #[] 0 (.fresh 0 0 led) }).objs.size] G us.length (fun i v=>us[i]?=some v) St →
   St 0 { s with heap:=(s.heap.push { cls:=.type "set",dict:=none,data:=.set #[] 0 (.fresh 0 0 led) }).push I } →
   codeAny (model prog w) A.in1.in1 (.builtin "set.update.loop" ⟨[.ref s.heap.objs.size,.ref (s.heap.push { cls:=.type "set",dict:=none,data:=.set #[] 0 (.fresh 0 0 led) }).objs.size],[]⟩)
    (fun r s'=>∃ v,r=.ok (.ret v)∧Q (.ref s.heap.objs.size) s') { s with heap:=(s.heap.push { cls:=.type "set",dict:=none,data:=.set #[] 0 (.fresh 0 0 led) }).push I }:=by
  intro I G hG St W st0
  refine set_loop us ks hu W s.heap.objs.size nS hb us.length 0 _ rfl (Nat.zero_le _) st0 ?_ fun s' hm hS'=>⟨_,rfl,?_⟩
  ·have hget:((s.heap.push { cls:=.type "set",dict:=none,data:=.set #[] 0 (.fresh 0 0 led) }).push I).get? s.heap.objs.size=some { cls:=.type "set",dict:=none,data:=.set #[] 0 (.fresh 0 0 led) }:=Heap.get?_push_of_some _ hS
   exact ⟨_,#[],0,_,hget,⟨rfl,rfl,rfl⟩,rfl,fun e he=>by simp at he,fun k=>by simp [hasK],by decide,rfl,rfl⟩
  ·obtain ⟨h',g',d',tk',os'⟩:=s'
   have eg:g'=s.gens:=hG _ _ hm.gens
   have ed:d'=s.drawn:=hm.drawn
   have eo:os'=s.os:=hm.os
   subst eg ed eo
   refine h h' tk' hS' fun b o e=>?_
   have hbl:=Heap.lt_size e
   refine hm.heap b o (fun z=>?_) (Heap.get?_push_of_some _ (Heap.get?_push_of_some _ e))
   rcases List.mem_cons.mp z with z | z
   ·rw [z] at hbl;exact Nat.lt_irrefl _ hbl
   ·have z:=List.mem_singleton.mp z
    rw [Heap.size_push] at z
    rw [z] at hbl
    exact absurd hbl (Nat.not_lt.mpr (Nat.le_succ _))
 unfold Builtin.«set.__init__» noKeywords Builtin.Frozenset.updateFrom
 have eP:(fun (i:Nat) (v:Value)=>us.toArray[i]?=some v)=fun i v=>us[i]?=some v:=by funext i v;simp
 generalize hPI:pyIter=PI
 rcases hT with ⟨rfl,hl⟩ | ⟨rfl,hl⟩
 ·obtain ⟨ol,hol,hcl,nl0,hdl⟩:=hl
  obtain ⟨ocls,odict,odata,oslots⟩:=ol
  simp only at hcl hdl
  subst hcl hdl
  have hol2:(s.heap.push { cls:=.type "set",dict:=none,data:=.set #[] 0 (.fresh 0 0 led) }).get? l=some { cls:=.type "list",dict:=odict,data:=.seq us.toArray nl0,slots:=oslots }:=Heap.get?_push_of_some _ hol
  have y1:=F.sub_list_set;have y2:=F.sub_list_frozenset
  have y3:(Value.type "list" == Value.type "dict")=false:=by decide
  wp_walk
  subst hPI
  have hl1:(s.heap.push { cls:=.type "set",dict:=none,data:=.set #[] 0 (.fresh 0 0 led) }).IsList l us.toArray:=⟨_,hol2,rfl,nl0,rfl⟩
  refine wpAny_pyIter_list hl1 (wpAny_bind (wpAny_runValue ?_))
  have W:=(Walks.list z4 _ l nl us.toArray).toS (prog:=prog) (w:=w)
  rw [eP,List.size_toArray] at W
  refine codeAny_mono (fin _ _ (fun a b e=>e) _ W ⟨⟨_,Heap.get?_push_size _ rfl,rfl,rfl⟩,hl1.push _⟩) fun r s' hr=>?_
  obtain ⟨v,rfl,q⟩:=hr
  exact wpAny_pure (a:=_) (wpAny_pure (a:=_) ⟨rfl,q⟩)
 ·obtain ⟨ol,hol,hcl,nl0,hdl⟩:=hl
  obtain ⟨ocls,odict,odata,oslots⟩:=ol
  simp only at hcl hdl
  subst hcl hdl
  have hol2:(s.heap.push { cls:=.type "set",dict:=none,data:=.set #[] 0 (.fresh 0 0 led) }).get? l=some { cls:=.type "tuple",dict:=odict,data:=.seq us.toArray nl0,slots:=oslots }:=Heap.get?_push_of_some _ hol
  have y1:isSubtype (.type "tuple") (.type "set")=pure false:=by rw [isSubtype_type];kernel_rfl
  have y2:isSubtype (.type "tuple") (.type "frozenset")=pure false:=by rw [isSubtype_type];kernel_rfl
  have y3:(Value.type "tuple" == Value.type "dict")=false:=by decide
  wp_walk
  subst hPI
  have hl1:(s.heap.push { cls:=.type "set",dict:=none,data:=.set #[] 0 (.fresh 0 0 led) }).IsTuple l us.toArray:=⟨_,hol2,rfl,nl0,rfl⟩
  refine wpAny_pyIter_tuple hl1 (wpAny_bind (wpAny_runValue ?_))
  have W:=(Walks.tuple z4 _ l nl us.toArray).toS (prog:=prog) (w:=w)
  rw [eP,List.size_toArray] at W
  refine codeAny_mono (fin _ _ (fun a b e=>e) _ W ⟨⟨_,Heap.get?_push_size _ rfl,rfl,rfl⟩,hl1.push _⟩) fun r s' hr=>?_
  obtain ⟨v,rfl,q⟩:=hr
  exact wpAny_pure (a:=_) (wpAny_pure (a:=_) ⟨rfl,q⟩)
end
end L2
namespace L2
open PySem PySem.Spec PyProof.Rows
section
variable {X:Cx}
def rSet (P:Program) (w:World) (K:PySem.W.Frag):List V→Hp→VK→Prop:=fun xs H Q=>∃ (p:Addr) (ks:List Key),xs=[.ref p]∧(SqL K H p (ks.map kV)∨SqT K H p (ks.map kV))∧ks.length+1 < scanBound∧∀ q,H q=none→Q (.ref q) (upd H q (KSet P w q ks.reverse))
theorem call_setK (K:PySem.W.Frag) (hK:X.K=K:=by rfl) (hc:X.calm=true:=by rfl):CallR X (.type "set") (rSet X.prog X.w K):=by
 subst hK
 intro pins s σ H xs us Q I r h
 obtain ⟨p,ks,rfl,hs,hb,q⟩:=h
 obtain ⟨u,rfl,rx⟩:=vals1 r
 cases rx
 have hn:H s.heap.objs.size=none:=I.hok.fresh (Nat.le_refl _)
 have fin:∀ (h':Heap) (tk:Nat),h'.SetOf (mixKind X.prog X.w) s.heap.objs.size (hasK ks.reverse) (dd ks.reverse).length→(∀ b o,s.heap.get? b=some o→h'.get? b=some o)→EP X pins σ Q (.ref s.heap.objs.size) { s with heap:=h',toks:=tk }:=by
  intro h' tk hS kp
  have e0:=hS
  obtain ⟨o,_,_,_,ho,_⟩:=e0
  refine ⟨.ref s.heap.objs.size,_,I.laid (o:=KSet X.prog X.w s.heap.objs.size ks.reverse) kp (Nat.le_refl _) ⟨hS,⟨o,ho⟩,fun h1 h2 ⟨o,es,ep,t,ho,rr⟩ hk=>⟨o,es,ep,t,hk _ ho,rr⟩⟩,rfl,q _ hn⟩
 rcases hs with hs | hs
 ·obtain ⟨its,rv,pl,hz⟩:=I.list hs
  have hl:=rv.length
  rw [List.length_map] at hl
  exact set_of_seq (I.ok.hd hc) (.inl ⟨rfl,pl.isList⟩) rv (by omega) fin
 ·obtain ⟨its,rv,pl,hz⟩:=I.tuple hs
  have hl:=rv.length
  rw [List.length_map] at hl
  exact set_of_seq (I.ok.hd hc) (.inr ⟨rfl,pl⟩) rv (by omega) fin
def rLenSet (P:Program) (w:World):List V→Hp→VK→Prop:=fun xs H Q=>∃ (p:Addr) (ks:List Key),xs=[.ref p]∧H p=some (KSet P w p ks)∧Q (.int (dd ks).length) H
theorem call_lenKS:CallR X (.builtin "len") (rLenSet X.prog X.w):=by
 intro pins s σ H xs us Q I r h
 obtain ⟨p,ks,rfl,hp,q⟩:=h
 obtain ⟨u,rfl,rx⟩:=vals1 r
 cases rx
 obtain ⟨⟨o,es,ep,t,ho,hex,hd,hel,hmem,hb,hf,hn⟩,_⟩:=I.hok p _ hp
 refine PySem.call_len_set ho hex hd hf ?_ ⟨.int _,H,I.tok _,⟨_,by rw [hn]⟩,q⟩
 have:scanBound < 2 ^ 63:=by decide
 omega
end
end L2
namespace L2
open PySem PySem.Spec PyProof.Rows
def SqB (b:Bool) (K:PySem.W.Frag) (H:Hp) (a:Addr) (xs:List V):Prop:=if b=true then SqL K H a xs else SqT K H a xs
theorem SqB.or {b:Bool} {K:PySem.W.Frag} {H:Hp} {a:Addr} {xs:List V} (h:SqB b K H a xs):SqL K H a xs∨SqT K H a xs:=by
 cases b
 ·exact .inr h
 ·exact .inl h
def ItS (b:Bool) (K:PySem.W.Frag) (a:Addr) (xs:List V):It:=⟨fun i H=>SqB b K H a xs∧i < xs.length,fun i H x H'=>H'=H∧xs[i]?=some x,fun i H=>SqB b K H a xs∧xs.length≤i⟩
theorem Turn.weak {P:Program} {w:World} {K:PySem.W.Frag} {tg:Expr} {J J':It} {fp:List Addr} {it:Addr} {tn:Nat→Heap→Prop} (T:Turn P w K tg J fp it tn) (hg:∀ i H,J'.go i H→J.go i H)
  (hy:∀ i H x H',J'.go i H→J.yld i H x H'→J'.yld i H x H') (hs:∀ i H,J'.stop i H→J.stop i H):Turn P w K tg J' fp it tn where
 mem:=T.mem
 obj:=T.obj
 keep:=T.keep
 item:=fun X hP hw hK hc i pins s σ H E I hf st g=>thn (T.item X hP hw hK hc i pins s σ H E I hf st (hg i H g)) fun r s1 ⟨u,e,q⟩=>⟨u,e,thn q fun _ s2 ⟨x,H',I2,r2,y,rest⟩=>⟨x,H',I2,r2,hy i H x H' g y,rest⟩⟩
 done:=fun X hP hw hK hc i pins s σ H E I hf st g=>T.done X hP hw hK hc i pins s σ H E I hf st (hs i H g)
 self:=T.self
section
variable {X:Cx} {tg:Expr}
def iSeq (K:PySem.W.Frag) (tl:TE):TI:=fun σ H R=>tl σ H fun x H1=>∃ (b:Bool) (a:Addr) (xs:List V),x=.ref a∧SqB b K H1 a xs∧R (ItS b K a xs) H1
theorem pi_seqK (K:PySem.W.Frag) {l:Expr} {tl:TE} (hl:PE X l tl) (hK:X.K=K:=by rfl):PI X tg l (iSeq K tl):=by
 subst hK
 intro pins s σ H R I h
 refine thn (hl pins s σ H _ I h) fun v s1 ⟨x,H1,I1,r1,q1⟩=>?_
 obtain ⟨b,a,xs,e,hq,q⟩:=q1
 subst e
 cases r1
 cases b with
 | true =>
  obtain ⟨its,rv,p,hz⟩:=I1.list (show SqL X.K H1 a xs from hq)
  refine wpAny_pyIter_list p.isList ⟨s1.heap.objs.size,[s1.heap.objs.size],_,_,H1,rfl,I1.kept (t':=s1.toks) fun b o e=>Heap.get?_push_of_some _ e,
   (turn_list a _).weak (J':=ItS true X.K a xs) (fun i H g=>⟨xs,xs[i]'g.2,g.1,by simp [g.2]⟩) (fun i H x H' g y=>⟨y.1,y.2 xs g.1⟩) (fun i H g=>⟨xs,g.1,g.2⟩),⟨_,Heap.get?_push_size _ rfl,rfl,rfl⟩,fun b hb=>?_,q⟩
  cases List.mem_singleton.mp hb
  exact I1.fpOk (Nat.le_refl _) (I1.hok.fresh (Nat.le_refl _))
 | false =>
  obtain ⟨its,rv,p,hz⟩:=I1.tuple (show SqT X.K H1 a xs from hq)
  refine wpAny_pyIter_tuple (show s1.heap.IsTuple a its.toArray from p) ⟨s1.heap.objs.size,[s1.heap.objs.size],_,_,H1,rfl,I1.kept (t':=s1.toks) fun b o e=>Heap.get?_push_of_some _ e,
   (turn_tuple a _).weak (J':=ItS false X.K a xs) (fun i H g=>⟨xs,xs[i]'g.2,g.1,by simp [g.2]⟩) (fun i H x H' g y=>⟨y.1,y.2 xs g.1⟩) (fun i H g=>⟨xs,g.1,g.2⟩),⟨_,Heap.get?_push_size _ rfl,rfl,rfl⟩,fun b hb=>?_,q⟩
  cases List.mem_singleton.mp hb
  exact I1.fpOk (Nat.le_refl _) (I1.hok.fresh (Nat.le_refl _))
end
theorem for_seq {b:Bool} {K:PySem.W.Frag} {a:Addr} {xs:List V} {g:TG} {tb:TS} {D:Ends} {σ:St} {H:Hp} (Pv:Nat→St→Hp→Prop) (h0:Pv 0 σ H) (hl:∀ i σ H,i≤xs.length→Pv i σ H→SqB b K H a xs)
  (hs:∀ i x σ H,xs[i]?=some x→Pv i σ H→g x σ H fun σ2 H2=>tb { D with nx:=Pv (i+1),ct:=Pv (i+1),bk:=D.nx } σ2 H2) (hd:∀ σ H,Pv xs.length σ H→D.nx σ H) :
  ∃ W:Nat→Nat→St→Hp→Prop,(∃ m,W 0 m σ H)∧∀ i m σ H,W i m σ H →
   ((ItS b K a xs).stop i H∧D.nx σ H)∨((ItS b K a xs).go i H∧∃ N:St→Hp→Prop,(∀ σ' H',N σ' H'→∃ m',m' < m∧W (i+1) m' σ' H')∧∀ x H',(ItS b K a xs).yld i H x H'→g x σ H' fun σ2 H2=>tb { D with nx:=N,ct:=N,bk:=D.nx } σ2 H2):=by
 refine ⟨fun i m σ H=>m=xs.length - i∧i≤xs.length∧Pv i σ H,⟨_,rfl,Nat.zero_le _,h0⟩,?_⟩
 rintro i m σ H ⟨rfl,hi,p⟩
 have q:=hl i σ H hi p
 by_cases lt:i < xs.length
 ·refine .inr ⟨⟨q,lt⟩,Pv (i+1),fun σ' H' p'=>⟨xs.length - (i+1),by omega,rfl,lt,p'⟩,?_⟩
  rintro x H' ⟨rfl,y⟩
  exact hs i x σ _ y p
 ·obtain rfl:i=xs.length:=by omega
  exact .inl ⟨⟨q,Nat.le_refl _⟩,hd σ H p⟩
section
variable {X:Cx} {tg:Expr}
theorem op_notIn_seqK (K:PySem.W.Frag) (hK:X.K=K:=by rfl):OpR X (compareOp .NotIn) (rIn K true):=by subst hK;exact op_notIn_seq
theorem op_mulW:OpR X (binaryOp .Mult) (rI IntMulOk fun i j=>.int (i * j)):=opI fun _ _ _ _ _ _ _ hc q=>mul_int q hc
end
end L2
namespace L2
open PySem PySem.Spec PyProof.Rows
inductive IsDat (K:PySem.W.Frag) (H:Hp):Nat→V→PyData→Prop where
 | non {n:Nat}:IsDat K H n .non .none
 | bl {n:Nat} (b:Bool):IsDat K H n (.bl b) (.bool b)
 | int {n:Nat} (i:Int):IsDat K H n (.int i) (.int i)
 | str {n:Nat} (x:Str) (h:PyData.strOk x=true):IsDat K H n (.str x) (.str x)
 | lst {n:Nat} {a:Addr} {xs:List V} {ds:List PyData} (ha:SqL K H a xs) (hl:xs.length=ds.length) (h:∀ (i:Nat) (x:V) (d:PyData),xs[i]?=some x→ds[i]?=some d→IsDat K H n x d):IsDat K H (n+1) (.ref a) (.list ds)
 | tup {n:Nat} {a:Addr} {xs:List V} {ds:List PyData} (ha:SqT K H a xs) (hl:xs.length=ds.length) (h:∀ (i:Nat) (x:V) (d:PyData),xs[i]?=some x→ds[i]?=some d→IsDat K H n x d):IsDat K H (n+1) (.ref a) (.tuple ds)
theorem layAll:∀ (ds:List PyData),(∀ d ∈ ds,d.canLay0=true)→PyData.canLayAll0 ds=true
 | [],_=>rfl
 | d :: ds,h=>by
  show (PyData.canLay0 d && PyData.canLayAll0 ds)=true
  rw [h d List.mem_cons_self,layAll ds fun x hx=>h x (List.mem_cons_of_mem _ hx)];rfl
theorem depAll {n:Nat}:∀ (ds:List PyData),(∀ d ∈ ds,d.depth≤n)→PyData.depthAll ds≤n
 | [],_=>Nat.zero_le _
 | d :: ds,h=>by
  show max (PyData.depth d) (PyData.depthAll ds)≤n
  exact Nat.max_le.mpr ⟨h d List.mem_cons_self,depAll ds fun x hx=>h x (List.mem_cons_of_mem _ hx)⟩
theorem pair_of {xs:List V} {ds:List PyData} (hl:xs.length=ds.length) {d:PyData} (h:d ∈ ds):∃ (i:Nat) (x:V),xs[i]?=some x∧ds[i]?=some d:=by
 obtain ⟨i,hi,e⟩:=List.getElem_of_mem h
 exact ⟨i,xs[i]'(by omega),List.getElem?_eq_getElem _,by rw [List.getElem?_eq_getElem hi,e]⟩
theorem IsDat.lay {K:PySem.W.Frag} {H:Hp} {n:Nat} {v:V} {d:PyData} (h:IsDat K H n v d):d.canLay0=true:=by
 induction h with
 | non=>rfl
 | bl=>rfl
 | int=>rfl
 | str x hx=>exact hx
 | lst ha hl h ih=>exact layAll _ fun d hd=>let ⟨i,x,h1,h2⟩:=pair_of hl hd;ih i x d h1 h2
 | tup ha hl h ih=>exact layAll _ fun d hd=>let ⟨i,x,h1,h2⟩:=pair_of hl hd;ih i x d h1 h2
theorem IsDat.dep {K:PySem.W.Frag} {H:Hp} {n:Nat} {v:V} {d:PyData} (h:IsDat K H n v d):d.depth≤n:=by
 induction h with
 | non=>exact Nat.zero_le _
 | bl=>exact Nat.zero_le _
 | int=>exact Nat.zero_le _
 | str x hx=>exact Nat.zero_le _
 | lst ha hl h ih=>exact Nat.succ_le_succ (depAll _ fun d hd=>let ⟨i,x,h1,h2⟩:=pair_of hl hd;ih i x d h1 h2)
 | tup ha hl h ih=>exact Nat.succ_le_succ (depAll _ fun d hd=>let ⟨i,x,h1,h2⟩:=pair_of hl hd;ih i x d h1 h2)
theorem IsDat.up {K:PySem.W.Frag} {H:Hp} {n m:Nat} {v:V} {d:PyData} (h:IsDat K H n v d) (hm:n≤m):IsDat K H m v d:=by
 induction h generalizing m with
 | non=>exact .non
 | bl b=>exact .bl b
 | int i=>exact .int i
 | str x hx=>exact .str x hx
 | lst ha hl h ih=>cases m with
  | zero=>omega
  | succ m=>exact .lst ha hl fun i x d h1 h2=>ih i x d h1 h2 (by omega)
 | tup ha hl h ih=>cases m with
  | zero=>omega
  | succ m=>exact .tup ha hl fun i x d h1 h2=>ih i x d h1 h2 (by omega)
theorem readsAll_of {h:Heap}:∀ (us:List Value) (ds:List PyData),us.length=ds.length→(∀ (i:Nat) (u:Value) (d:PyData),us[i]?=some u→ds[i]?=some d→∃ as,Reads h u d as)→∃ as,ReadsAll h us ds as
 | [],[],_,_=>⟨[],.nil⟩
 | [],_ :: _,e,_=>by cases e
 | _ :: _,[],e,_=>by cases e
 | u :: us,d :: ds,e,q=>by
  obtain ⟨as,r⟩:=q 0 u d rfl rfl
  obtain ⟨bs,rs⟩:=readsAll_of us ds (Nat.succ.inj e) fun i u d h1 h2=>q (i+1) u d (by simpa using h1) (by simpa using h2)
  exact ⟨as ++ bs,.cons r rs⟩
theorem Vals.back:∀ {xs:List V} {us:List Value} {i:Nat} {u:Value},Vals xs us→us[i]?=some u→∃ x,xs[i]?=some x∧RelV x u
 | _,_,_,_,.nil,e=>by simp at e
 | _,_,0,_,.cons r _,e=>by simp at e;subst e;exact ⟨_,rfl,r⟩
 | _,_,i+1,u,.cons _ t,e=>by
  obtain ⟨x,h1,h2⟩:=Vals.back (i:=i) (u:=u) t (by simpa using e)
  exact ⟨x,by simpa using h1,h2⟩
section
variable {X:Cx} {pins:List (Addr × Obj)} {σ:St} {H:Hp} {s:Shared}
theorem IsDat.reads (I:Inv X pins σ H s) {n:Nat} {v:V} {d:PyData} (h:IsDat X.K H n v d):∀ {u:Value},RelV v u→∃ as,Reads s.heap u d as:=by
 induction h with
 | non=>intro u r;cases r;exact ⟨_,.none⟩
 | bl b=>intro u r;cases r;exact ⟨_,.bool b⟩
 | int i=>intro u r;obtain ⟨t,rfl⟩:=r;exact ⟨_,.int i t⟩
 | str x hx=>intro u r;obtain ⟨t,rfl⟩:=r;exact ⟨_,.str x t⟩
 | lst ha hl h ih =>
  intro u r
  cases r
  obtain ⟨its,rv,⟨o,n,ho,hc,_,hd⟩,hz⟩:=I.list ha
  obtain ⟨as,rs⟩:=readsAll_of (h:=s.heap) its _ (by rw [← rv.length,hl]) fun i u d h1 h2=>by
   obtain ⟨x,h3,h4⟩:=rv.back h1
   exact ih i x d h3 h2 h4
  exact ⟨_,.list ho hc hd (by simpa using rs)⟩
 | tup ha hl h ih =>
  intro u r
  cases r
  obtain ⟨its,rv,⟨o,ho,hc,n,hd⟩,hz⟩:=I.tuple ha
  obtain ⟨as,rs⟩:=readsAll_of (h:=s.heap) its _ (by rw [← rv.length,hl]) fun i u d h1 h2=>by
   obtain ⟨x,h3,h4⟩:=rv.back h1
   exact ih i x d h3 h2 h4
  exact ⟨_,.tuple ho hc hd (by simpa using rs)⟩
def rEqD (K:PySem.W.Frag) (neg:Bool):R2:=fun x y H Q=>∃ d e,IsDat K H 8 x d∧IsDat K H 8 y e∧Q (.bl (if neg then !PyData.eqv d e else PyData.eqv d e)) H
theorem op_eqD (K:PySem.W.Frag) (hu:X.A.units+16 < cLine) (hK:X.K=K:=by rfl):OpR X (compareOp .Eq) (rEqD K false):=by
 subst hK
 intro pins s σ H x y v u Q I rx ry h
 obtain ⟨d,e,h1,h2,q⟩:=h
 obtain ⟨as,r1⟩:=h1.reads I rx
 obtain ⟨bs,r2⟩:=h2.reads I ry
 have z:=h1.dep
 exact SeqAt.compareEq_reads r1 r2 h1.lay h2.lay (by omega) ⟨.bl _,H,I,rfl,q⟩
theorem op_neD (K:PySem.W.Frag) (hu:X.A.units+16 < cLine) (hK:X.K=K:=by rfl):OpR X (compareOp .NotEq) (rEqD K true):=by
 subst hK
 intro pins s σ H x y v u Q I rx ry h
 obtain ⟨d,e,h1,h2,q⟩:=h
 obtain ⟨as,r1⟩:=h1.reads I rx
 obtain ⟨bs,r2⟩:=h2.reads I ry
 have z:=h1.dep
 exact SeqAt.compareNe_reads r1 r2 h1.lay h2.lay (by omega) ⟨.bl _,H,I,rfl,q⟩
end
theorem IsDat.same {K:PySem.W.Frag} {H H':Hp} {n:Nat} {v:V} {d:PyData} (h:IsDat K H n v d) (s:Same H H'):IsDat K H' n v d:=by
 induction h with
 | non=>exact .non
 | bl b=>exact .bl b
 | int i=>exact .int i
 | str x hx=>exact .str x hx
 | lst ha hl h ih=>exact .lst (s.seq ha) hl ih
 | tup ha hl h ih=>exact .tup (s.tup ha) hl ih
def Kept (H H':Hp):Prop:=∀ (a:Addr) (xs:List V),Rd H a (.tup xs)→Rd H' a (.tup xs)
theorem Kept.tup {K:PySem.W.Frag} {H H':Hp} {a:Addr} {xs:List V} (k:Kept H H') (h:SqT K H a xs):SqT K H' a xs:=h.elim (fun h=>.inl (k a xs h)) .inr
mutual
def noL:PyData→Bool
 | .none | .bool _ | .int _ | .str _=>true
 | .tuple xs=>noLAll xs
 | .list _ | .dict _=>false
def noLAll:List PyData→Bool
 | []=>true
 | x :: xs=>noL x && noLAll xs
end
theorem noLAll_mem:∀ {ds:List PyData} {d:PyData},noLAll ds=true→d ∈ ds→noL d=true
 | x :: xs,d,h,hd=>by
  have h:(noL x && noLAll xs)=true:=h
  rw [Bool.and_eq_true] at h
  rcases List.mem_cons.mp hd with rfl | hd
  ·exact h.1
  ·exact noLAll_mem h.2 hd
theorem IsDat.kept {K:PySem.W.Frag} {H H':Hp} {n:Nat} {v:V} {d:PyData} (h:IsDat K H n v d) (k:Kept H H') (hn:noL d=true):IsDat K H' n v d:=by
 induction h with
 | non=>exact .non
 | bl b=>exact .bl b
 | int i=>exact .int i
 | str x hx=>exact .str x hx
 | lst ha hl h ih=>cases hn
 | tup ha hl h ih=>exact .tup (k.tup ha) hl fun i x d h1 h2=>ih i x d h1 h2 (noLAll_mem hn (List.mem_of_getElem? h2))
theorem SqB.same {b:Bool} {K:PySem.W.Frag} {H H':Hp} {a:Addr} {xs:List V} (h:SqB b K H a xs) (s:Same H H'):SqB b K H' a xs:=by
 cases b
 ·exact s.tup (show SqT K H a xs from h)
 ·exact s.seq (show SqL K H a xs from h)
end L2
namespace L2
open PySem PySem.Spec PyProof.Rows
def LesAt (A:Around) (s:Shared) (x y:Value) (b:Bool):Prop:=∀ (prog:Program) (w:World) (E:Value→Shared→Prop) (Q:Value→Shared→Prop),Q (.bool b) s→wpAny (model prog w) A (richCompare .Lt x y) Q E s
def lexR (e l:Nat→Bool) (z:Bool):List Nat→Bool
 | []=>z
 | j :: r=>if e j=true then lexR e l z r else l j
theorem tuple_ltAt (l b:Addr) (us ws:Array Value) (n n2:Nat) (dd dd2:Option Addr) (sl sl2:Array (Option Value)) (e g:Nat→Bool) :
  Meets (Builtin.«tuple.__lt__» ⟨[.ref l,.ref b],[]⟩)
   (fun A R s=>s.heap.get? l=some { cls:=.type "tuple",dict:=dd,data:=.seq us n,slots:=sl }∧s.heap.get? b=some { cls:=.type "tuple",dict:=dd2,data:=.seq ws n2,slots:=sl2 } ∧
    (∀ (j:Nat) (h1:j < us.size) (h2:j < ws.size),SeqAt.EqAt A.in1 s us[j] ws[j] (e j))∧(∀ (j:Nat) (h1:j < us.size) (h2:j < ws.size),e j=false→LesAt A.in1 s us[j] ws[j] (g j)) ∧
    R (.ok (.ret (.bool (lexR e g (decide (us.size < ws.size)) (List.range (min us.size ws.size)))))) s) :=
 .of_wp fun prog w A R s h=>by
  obtain ⟨hp,g0,d,tk,os⟩:=s
  obtain ⟨hl,hb,he,hg,h⟩:=h
  have f2:=AutoSeq1.sub_tuple_tuple
  have hZ:(us.toList.zip ws.toList).length=min us.size ws.size:=by simp
  wp_walk using AutoSeq1.wpAny_loadPart' hl,AutoSeq1.wpAny_loadPart' hb,wpAny_forIn_list _ (fun rest b s'=>b.1=none∧s'=⟨hp,g0,d,tk,os⟩∧∃ i,rest=(us.toList.zip ws.toList).drop i ∧
   R (.ok (.ret (.bool (lexR e g (decide (us.size < ws.size)) ((List.range (min us.size ws.size)).drop i))))) ⟨hp,g0,d,tk,os⟩) _
  case turn =>
   rintro ⟨y,x⟩ rest b s' ⟨hb',rfl,i,hz,hR⟩
   have hL:i < (us.toList.zip ws.toList).length:=by
    rcases Nat.lt_or_ge i (us.toList.zip ws.toList).length with h' | h'
    ·exact h'
    ·rw [List.drop_of_length_le h'] at hz;cases hz
   have hm:i < min us.size ws.size:=hZ ▸ hL
   have h1:i < us.size:=Nat.lt_of_lt_of_le hm (Nat.min_le_left _ _)
   have h2:i < ws.size:=Nat.lt_of_lt_of_le hm (Nat.min_le_right _ _)
   rw [List.drop_eq_getElem_cons hL] at hz
   injection hz with hq hw
   have hy:y=us[i]:=by have:=congrArg Prod.fst hq;simpa using this
   have hx:x=ws[i]:=by have:=congrArg Prod.snd hq;simpa using this
   subst hy hx
   have hd:(List.range (min us.size ws.size)).drop i=i :: (List.range (min us.size ws.size)).drop (i+1):=by simp [List.drop_eq_getElem_cons,hm]
   rw [hd] at hR
   refine wpAny_bind (he i h1 h2 prog w _ _ ?_)
   cases hy:e i with
   | true =>
    rw [lexR,if_pos hy] at hR
    wp_walk
    exact ⟨rfl,rfl,i+1,hw,hR⟩
   | false =>
    rw [lexR,if_neg (by rw [hy];decide)] at hR
    refine wpAny_bind (wpAny_rule (wpAny_bind (hg i h1 h2 hy prog w _ _ ?_)))
    wp_walk
    exact ⟨_,rfl,hR⟩
  case fin =>
   rintro ⟨b1,b2⟩ s' ⟨hb',rfl,i,hz,hR⟩
   simp only at hb'
   subst hb'
   have hG:min us.size ws.size≤i:=by
    rcases Nat.lt_or_ge i (us.toList.zip ws.toList).length with h' | h'
    ·rw [List.drop_eq_getElem_cons h'] at hz;cases hz
    ·exact hZ ▸ h'
   rw [List.drop_of_length_le (by simpa using hG)] at hR
   wp_walk
   exact ⟨_,rfl,by simpa [Builtin.Tuple.tupleCompareSizes,lexR] using hR⟩
  case h =>
   exact ⟨rfl,rfl,0,rfl,by simpa using h⟩
theorem LesAt.tuples {A:Around} {s:Shared} {l b:Addr} {us ws:Array Value} {e g:Nat→Bool} (hl:s.heap.IsTuple l us) (hb:s.heap.IsTuple b ws) (hu:A.units < cLine)
  (he:∀ (j:Nat) (h1:j < us.size) (h2:j < ws.size),SeqAt.EqAt A.in1 s us[j] ws[j] (e j)) (hg:∀ (j:Nat) (h1:j < us.size) (h2:j < ws.size),e j=false→LesAt A.in1 s us[j] ws[j] (g j)):LesAt A s (.ref l) (.ref b) (lexR e g (decide (us.size < ws.size)) (List.range (min us.size ws.size))):=fun prog w E Q h=>by
 obtain ⟨⟨cls,dd,data,sl⟩,ho,hc,n,hd⟩:=id hl
 obtain ⟨⟨cls2,dd2,data2,sl2⟩,ho2,hc2,n2,hd2⟩:=id hb
 simp only at hc hd hc2 hd2
 subst hc hd hc2 hd2
 exact richCompare_meets_room (op:=.Lt) ⟨_,ho,rfl⟩ ⟨_,ho2,rfl⟩ F.slot_tuple_lt F.entry_tuple_lt (F.args_tuple_lt_2 _ _) (tuple_ltAt l b us ws n n2 dd dd2 sl sl2 e g)
  ⟨ho,ho2,he,hg,show Value.bool _≠Value.notImplemented∧Q (.bool _) s from ⟨(fun x=>nomatch x),h⟩⟩ hu
end L2
namespace L2
open PySem PySem.Spec PyProof.Rows
mutual
def lesD:PyData→PyData→Bool
 | .int a,.int b=>decide (a < b)
 | .str x,.str y=>decide (x.cps.toList < y.cps.toList)
 | .tuple xs,.tuple ys=>lesDs xs ys
 | _,_=>false
def lesDs:List PyData→List PyData→Bool
 | [],[]=>false
 | [],_ :: _=>true
 | _ :: _,[]=>false
 | x :: xs,y :: ys=>if PyData.eqv x y=true then lesDs xs ys else lesD x y
end
mutual
def okD:PyData→PyData→Bool
 | .int _,.int _=>true
 | .str _,.str _=>true
 | .tuple xs,.tuple ys=>okDs xs ys
 | _,_=>false
def okDs:List PyData→List PyData→Bool
 | x :: xs,y :: ys=>okD x y && okDs xs ys
 | _,_=>true
end
abbrev pairLes (xs ys:List PyData) (j:Nat):Bool:=lesD (xs.getD j .none) (ys.getD j .none)
theorem lexR_map (e g:Nat→Bool) (z:Bool):∀ l:List Nat,lexR e g z (l.map (·+1))=lexR (fun j=>e (j+1)) (fun j=>g (j+1)) z l
 | []=>rfl
 | x :: r=>by rw [List.map_cons,lexR,lexR,lexR_map e g z r]
theorem lexR_eq:∀ xs ys:List PyData,lexR (SeqAt.pairEq xs ys) (pairLes xs ys) (decide (xs.length < ys.length)) (List.range (min xs.length ys.length))=lesDs xs ys
 | [],[]=>by rfl
 | [],_ :: _=>by simp [lexR,lesDs]
 | _ :: _,[]=>by simp [lexR,lesDs]
 | x :: xs,y :: ys=>by
  have e:min (x :: xs).length (y :: ys).length=min xs.length ys.length+1:=by simp only [List.length_cons];omega
  rw [e,List.range_succ_eq_map,lexR]
  have e2:List.map Nat.succ (List.range (min xs.length ys.length))=(List.range (min xs.length ys.length)).map (·+1):=rfl
  rw [e2,lexR_map,lesDs]
  have e3:decide ((x :: xs).length < (y :: ys).length)=decide (xs.length < ys.length):=by simp
  rw [e3]
  have:=lexR_eq xs ys
  rw [← this]
  rfl
section
variable {A:Around} {s:Shared}
theorem LesAt.int (i j:Int) (t u:Tok):LesAt A s (.int i t) (.int j u) (decide (i < j)):=fun prog w E Q h=>lt_int h
theorem LesAt.str (x y:Str) (t u:Tok):LesAt A s (.str x t) (.str y u) (decide (x.cps.toList < y.cps.toList)):=fun prog w E Q h=>lt_str h
end
theorem reads_len {h:Heap}:∀ {vs:List Value} {xs:List PyData} {as:List Addr},ReadsAll h vs xs as→vs.length=xs.length
 | _,_,_,.nil=>rfl
 | _,_,_,.cons _ q=>congrArg Nat.succ (reads_len q)
theorem readsAll_at {h:Heap}:∀ {vs:List Value} {xs:List PyData} {as:List Addr},ReadsAll h vs xs as→∀ (j:Nat) (hj:j < vs.length),∃ bs,Reads h vs[j] (xs.getD j .none) bs
 | _,_,_,.nil,_,hj=>absurd hj (Nat.not_lt_zero _)
 | _,_,_,.cons r _,0,_=>⟨_,r⟩
 | _,_,_,.cons _ q,j+1,hj=>readsAll_at q j (Nat.lt_of_succ_lt_succ hj)
theorem okDs_at:∀ (xs ys:List PyData),okDs xs ys=true→∀ j,j < xs.length→j < ys.length→okD (xs.getD j .none) (ys.getD j .none)=true
 | [],_,_,_,h,_=>absurd h (Nat.not_lt_zero _)
 | _ :: _,[],_,_,_,h=>absurd h (Nat.not_lt_zero _)
 | x :: xs,y :: ys,o,j,h1,h2=>by
  have go:okD x y=true∧okDs xs ys=true:=by simpa [okDs] using o
  cases j with
  | zero=>exact go.1
  | succ j=>exact okDs_at xs ys go.2 j (Nat.lt_of_succ_lt_succ h1) (Nat.lt_of_succ_lt_succ h2)
theorem lay_at:∀ (xs:List PyData),PyData.canLayAll0 xs=true→∀ j,j < xs.length→(xs.getD j .none).canLay0=true
 | [],_,_,h=>absurd h (Nat.not_lt_zero _)
 | x :: xs,o,j,h=>by
  have ga:x.canLay0=true∧PyData.canLayAll0 xs=true:=by simpa [PyData.canLayAll0] using o
  cases j with
  | zero=>exact ga.1
  | succ j=>exact lay_at xs ga.2 j (Nat.lt_of_succ_lt_succ h)
theorem dep_at:∀ (xs:List PyData) (j:Nat),j < xs.length→(xs.getD j .none).depth≤PyData.depthAll xs
 | [],_,h=>absurd h (Nat.not_lt_zero _)
 | x :: xs,j,h=>by
  show _≤max x.depth (PyData.depthAll xs)
  cases j with
  | zero=>exact Nat.le_max_left _ _
  | succ j=>exact Nat.le_trans (dep_at xs j (Nat.lt_of_succ_lt_succ h)) (Nat.le_max_right _ _)
theorem lt_reads:∀ (n:Nat) (d e:PyData) (A:Around) (s:Shared) (a b:Value) (as bs:List Addr),d.depth≤n→Reads s.heap a d as→Reads s.heap b e bs→d.canLay0=true→e.canLay0=true→okD d e=true →
  A.units+n < cLine→LesAt A s a b (lesD d e):=by
 intro n
 induction n with
 | zero =>
  intro d e A s a b as bs hn ra rb ha hb ho hu
  cases ra with
  | int=>cases rb with
   | int=>exact LesAt.int _ _ _ _
   | _=>simp [okD] at ho
  | str=>cases rb with
   | str=>exact LesAt.str _ _ _ _
   | _=>simp [okD] at ho
  | tuple=>exact absurd hn (by show ¬ (_+1≤0);omega)
  | _=>simp [okD] at ho
 | succ n ih =>
  intro d e A s a b as bs hn ra rb ha hb ho hu
  cases ra with
  | int=>cases rb with
   | int=>exact LesAt.int _ _ _ _
   | _=>simp [okD] at ho
  | str=>cases rb with
   | str=>exact LesAt.str _ _ _ _
   | _=>simp [okD] at ho
  | @tuple a o vs m xs _ h1 h2 h3 h4 =>
   cases rb with
   | @tuple b o2 ws m2 ys _ k1 k2 k3 k4 =>
    have l1:=reads_len h4
    have l2:=reads_len k4
    have e1:vs.size=xs.length:=by simpa using l1
    have e2:ws.size=ys.length:=by simpa using l2
    have ho:okDs xs ys=true:=by simpa [okD] using ho
    have hn:PyData.depthAll xs≤n:=Nat.le_of_succ_le_succ hn
    have q:=LesAt.tuples (A:=A) (s:=s) (e:=SeqAt.pairEq xs ys) (g:=pairLes xs ys) ⟨o,h1,h2,m,h3⟩ ⟨o2,k1,k2,m2,k3⟩ (by omega) (fun j j1 j2=>?_) (fun j j1 j2 _=>?_)
    ·rw [e1,e2,lexR_eq] at q
     have e3:lesD (.tuple xs) (.tuple ys)=lesDs xs ys:=by rw [lesD]
     rw [e3]
     exact q
    ·have:=SeqAt.eqAt_readsAll xs ys A.in1 s vs.toList ws.toList _ _ h4 k4 ha hb (by show A.units+1+_ < cLine;omega) j (by simpa using j1) (by simpa using j2)
     simpa using this
    ·obtain ⟨as2,q1⟩:=readsAll_at h4 j (by simpa using j1)
     obtain ⟨bs2,q2⟩:=readsAll_at k4 j (by simpa using j2)
     have:=ih _ _ A.in1 s _ _ as2 bs2 (Nat.le_trans (dep_at xs j (by omega)) hn) q1 q2 (lay_at xs ha j (by omega)) (lay_at ys hb j (by omega)) (okDs_at xs ys ho j (by omega) (by omega)) (by show A.units+1+n < cLine;omega)
     simpa [pairLes] using this
   | _=>simp [okD] at ho
  | _=>simp [okD] at ho
end L2
namespace L2
open PySem PySem.Spec PyProof.Rows
section
open PySem.W
structure Ord (N:Nat) (lt:Nat→Nat→Bool):Prop where
 tot:∀ x y,x < N→y < N→lt x y=true→lt y x=false
 trn:∀ x y z,x < N→y < N→z < N→lt y x=false→lt z y=false→lt z x=false
structure PmN (N:Nat) (p:Array Nat):Prop where
 sz:p.size=N
 lo:∀ i,i < N→p.getD i 0 < N
 pm:p.Perm (List.toArray (List.range N))
variable {N:Nat} {lt:Nat→Nat→Bool} {cmp:Nat→Nat→(Bool→Shared→Prop)→Shared→Prop} {s:Shared}
def Asc (lt:Nat→Nat→Bool) (p:Array Nat) (m:Nat):Prop:=∀ i j,i≤j→j < m→lt (p.getD j 0) (p.getD i 0)=false
def Dsc (lt:Nat→Nat→Bool) (p:Array Nat) (m:Nat):Prop:=∀ i j,i≤j→j < m→lt (p.getD i 0) (p.getD j 0)=false
def Eqs (lt:Nat→Nat→Bool) (p:Array Nat) (a b:Nat):Prop:=∀ i j,a≤i→i < b→a≤j→j < b→lt (p.getD i 0) (p.getD j 0)=false
theorem Ord.refl (o:Ord N lt) {x:Nat} (h:x < N):lt x x=false:=by
 cases e:lt x x with
 | false=>rfl
 | true=>rw [← o.tot x x h h e,e]
theorem PmN.of {p q:Array Nat} (h:PmN N p) (hp:q.Perm p) (hz:q.size=p.size):PmN N q:=by
 have e:=hp.trans h.pm
 refine ⟨hz.trans h.sz,fun i hi=>?_,e⟩
 have hq:i < q.size:=by rw [hz,h.sz];exact hi
 have m:q.getD i 0 ∈ q:=by
  have:q.getD i 0=q[i]:=by simp [Array.getD,hq]
  rw [this];exact Array.getElem_mem hq
 have m2:=e.mem_iff.mp m
 simpa using m2
theorem rev_at {p:Array Nat} {i j:Nat} (hj:j≤p.size) (k:Nat):(kas_rev p i j).getD k 0=if i≤k∧k < j then p.getD (i+j - 1 - k) 0 else p.getD k 0:=by
 unfold kas_rev
 rw [Array.getD_eq_getD_getElem?,getElem?_mirror_all hj k]
 split <;> rw [Array.getD_eq_getD_getElem?]
theorem PmN.rev {p:Array Nat} {i j:Nat} (h:PmN N p):PmN N (kas_rev p i j):=h.of (mirror_perm ..) (mirror_size ..)
theorem bub_at {p:Array Nat} {k l:Nat} (hk:k < p.size) (hl:l≤k) (i:Nat):(bubble p k (k - l)).getD i 0=if i=l then p.getD k 0 else if l < i∧i≤k then p.getD (i - 1) 0 else p.getD i 0:=by
 rw [Array.getD_eq_getD_getElem?,getElem?_bubble hk _ (by omega)]
 have e:k - (k - l)=l:=by omega
 rw [e]
 by_cases c1:i=l
 ·rw [if_pos c1,if_pos c1];exact (Array.getD_eq_getD_getElem? ..).symm
 ·rw [if_neg c1,if_neg c1]
  by_cases c2:l < i∧i≤k
  ·rw [if_pos c2,if_pos c2];exact (Array.getD_eq_getD_getElem? ..).symm
  ·rw [if_neg c2,if_neg c2];exact (Array.getD_eq_getD_getElem? ..).symm
theorem PmN.bub {p:Array Nat} {i j:Nat} (h:PmN N p):PmN N (bubble p i j):=h.of (bubble_perm ..) (bubble_size ..)
def Cmp (N:Nat) (lt:Nat→Nat→Bool) (cmp:Nat→Nat→(Bool→Shared→Prop)→Shared→Prop) (s:Shared):Prop:=∀ i j C,i < N→j < N→C (lt i j) s→cmp i j C s
theorem asc_ok (hc:Cmp N lt cmp s) (o:Ord N lt) {p:Array Nat} (h:PmN N p) {Q:Nat→Shared→Prop}:∀ (f n:Nat),1≤n→n+f≤N→Asc lt p n →
  (∀ m,n≤m→m≤n+f→Asc lt p m→(m=n+f∨lt (p.getD m 0) (p.getD (m - 1) 0)=true)→Q m s)→(kas_asc p f n).kasWp cmp Q s
 | 0,n,_,_,a,q=>q n (Nat.le_refl _) (by omega) a (.inl rfl)
 | f+1,n,h1,hf,a,q=>by
  refine hc _ _ _ (h.lo n (by omega)) (h.lo _ (by omega)) ?_
  cases e:lt (p.getD n 0) (p.getD (n - 1) 0) with
  | true=>exact q n (Nat.le_refl _) (by omega) a (.inr e)
  | false =>
   refine asc_ok hc o h f (n+1) (by omega) (by omega) (fun i j hij hj=>?_) fun m m1 m2 m3 m4=>q m (by omega) (by omega) m3 (m4.imp (fun z=>by omega) id)
   by_cases hjn:j < n
   ·exact a i j hij hjn
   ·obtain rfl:j=n:=by omega
    by_cases hi:i=j
    ·subst hi;exact o.refl (h.lo i (by omega))
    ·exact o.trn _ (p.getD (j - 1) 0) _ (h.lo i (by omega)) (h.lo _ (by omega)) (h.lo j (by omega)) (a i (j - 1) (by omega) (by omega)) e
theorem Dsc.rev {p:Array Nat} {n r:Nat} (h:PmN N p) (hn:n≤N) (hr:r≤n) (d:Dsc lt p n) (e:Eqs lt p r n):Dsc lt (kas_rev p r n) n:=by
 intro i j hij hj
 rw [rev_at (by rw [h.sz];exact hn),rev_at (by rw [h.sz];exact hn)]
 by_cases c1:r≤i
 ·rw [if_pos ⟨c1,by omega⟩,if_pos ⟨by omega,hj⟩]
  exact e _ _ (by omega) (by omega) (by omega) (by omega)
 ·rw [if_neg (by omega)]
  by_cases c2:r≤j
  ·rw [if_pos ⟨c2,hj⟩]
   exact d _ _ (by omega) (by omega)
  ·rw [if_neg (by omega)]
   exact d _ _ hij hj
theorem desc_ok (hc:Cmp N lt cmp s) (o:Ord N lt) {Q:Array Nat × Nat × Nat→Shared→Prop}:∀ (f:Nat) (p:Array Nat) (n q:Nat),PmN N p→q+1≤n→n+f≤N→Dsc lt p n→Eqs lt p (n - (q+1)) n →
  (∀ p' n' q',PmN N p'→q'+1≤n'→n'≤n+f→Dsc lt p' n'→Eqs lt p' (n' - (q'+1)) n'→Q (p',n',q') s)→(kas_desc f p n q).kasWp cmp Q s
 | 0,p,n,q,h,h1,hf,d,e,k=>k p n q h h1 (by omega) d e
 | f+1,p,n,q,h,h1,hf,d,e,k=>by
  refine hc _ _ _ (h.lo n (by omega)) (h.lo _ (by omega)) ?_
  have more:∀ p':Array Nat,PmN N p'→Dsc lt p' n→lt (p'.getD (n - 1) 0) (p'.getD n 0)=false→Dsc lt p' (n+1):=by
   intro p' h' d' z i j hij hj
   by_cases hjn:j < n
   ·exact d' i j hij hjn
   ·obtain rfl:j=n:=by omega
    by_cases hi:i=j
    ·subst hi;exact o.refl (h'.lo i (by omega))
    ·exact o.trn _ (p'.getD (j - 1) 0) _ (h'.lo j (by omega)) (h'.lo _ (by omega)) (h'.lo i (by omega)) z (d' i (j - 1) (by omega) (by omega))
  have one:∀ p':Array Nat,PmN N p'→Eqs lt p' (n+1 - (0+1)) (n+1):=by
   intro p' h' i j a1 a2 a3 a4
   obtain rfl:i=n:=by omega
   obtain rfl:j=i:=by omega
   exact o.refl (h'.lo j (by omega))
  cases e1:lt (p.getD n 0) (p.getD (n - 1) 0) with
  | true =>
   have z:=o.tot _ _ (h.lo n (by omega)) (h.lo _ (by omega)) e1
   show (if q > 0 then kas_desc f (kas_rev p (n - (q+1)) n) (n+1) 0 else kas_desc f p (n+1) 0).kasWp cmp Q s
   by_cases hq:q > 0
   ·rw [if_pos hq]
    have dr:=d.rev h (by omega) (by omega) e
    have z2:lt ((kas_rev p (n - (q+1)) n).getD (n - 1) 0) ((kas_rev p (n - (q+1)) n).getD n 0)=false:=by
     rw [rev_at (by rw [h.sz];omega),rev_at (by rw [h.sz];omega),if_pos (by omega),if_neg (by omega)]
     exact o.trn _ (p.getD (n - 1) 0) _ (h.lo n (by omega)) (h.lo _ (by omega)) (h.lo _ (by omega)) z (e _ _ (by omega) (by omega) (by omega) (by omega))
    exact desc_ok hc o f _ (n+1) 0 h.rev (by omega) (by omega) (more _ h.rev dr z2) (one _ h.rev) fun p' n' q' a b c=>k p' n' q' a b (by omega)
   ·rw [if_neg hq]
    exact desc_ok hc o f p (n+1) 0 h (by omega) (by omega) (more _ h d z) (one _ h) fun p' n' q' a b c=>k p' n' q' a b (by omega)
  | false =>
   refine hc _ _ _ (h.lo _ (by omega)) (h.lo n (by omega)) ?_
   cases e2:lt (p.getD (n - 1) 0) (p.getD n 0) with
   | true=>exact k p n q h h1 (by omega) d e
   | false =>
    refine desc_ok hc o f p (n+1) (q+1) h (by omega) (by omega) (more _ h d e2) (fun i j a1 a2 a3 a4=>?_) fun p' n' q' a b c=>k p' n' q' a b (by omega)
    have fwd:∀ i,n - (q+1)≤i→i < n→lt (p.getD i 0) (p.getD n 0)=false∧lt (p.getD n 0) (p.getD i 0)=false:=by
     intro i b1 b2
     exact ⟨o.trn _ (p.getD (n - 1) 0) _ (h.lo n (by omega)) (h.lo _ (by omega)) (h.lo i (by omega)) e2 (e _ _ b1 b2 (by omega) (by omega)),
      o.trn _ (p.getD (n - 1) 0) _ (h.lo i (by omega)) (h.lo _ (by omega)) (h.lo n (by omega)) (e _ _ (by omega) (by omega) b1 b2) e1⟩
    by_cases c1:i < n
    ·by_cases c2:j < n
     ·exact e i j (by omega) c1 (by omega) c2
     ·obtain rfl:j=n:=by omega
      exact (fwd i (by omega) c1).1
    ·obtain rfl:i=n:=by omega
     by_cases c2:j < i
     ·exact (fwd j (by omega) c2).2
     ·obtain rfl:j=i:=by omega
      exact o.refl (h.lo j (by omega))
theorem tail3_ok (hc:Cmp N lt cmp s) (o:Ord N lt) {p:Array Nat} {n:Nat} (h:PmN N p) (h1:1≤n) (hn:n≤N) (d:Dsc lt p n) {Q:Nat × Array Nat→Shared→Prop} (q:∀ m p',1≤m→m≤N→PmN N p'→Asc lt p' m→Q (m,p') s):(kas_tail3 n N p).kasWp cmp Q s:=by
 unfold kas_tail3
 rw [KasT.kasWp_bind]
 refine asc_ok hc o h.rev (N - n) n h1 (by omega) (fun i j hij hj=>?_) fun m a b c _=>q m _ (by omega) (by omega) h.rev c
 rw [rev_at (by rw [h.sz];exact hn),rev_at (by rw [h.sz];exact hn),if_pos ⟨Nat.zero_le _,hj⟩,if_pos ⟨Nat.zero_le _,by omega⟩]
 exact d _ _ (by omega) (by omega)
theorem descPart_ok (hc:Cmp N lt cmp s) (o:Ord N lt) {p:Array Nat} {n:Nat} (h:PmN N p) (h1:1≤n) (hn:n < N) (e:Eqs lt p 0 n) (z:lt (p.getD n 0) (p.getD (n - 1) 0)=true) {Q:Nat × Array Nat→Shared→Prop} (q:∀ m p',1≤m→m≤N→PmN N p'→Asc lt p' m→Q (m,p') s):(kas_descPart n N p).kasWp cmp Q s:=by
 unfold kas_descPart
 rw [KasT.kasWp_bind]
 have z':=o.tot _ _ (h.lo n hn) (h.lo _ (by omega)) z
 refine desc_ok hc o (N - (n+1)) p (n+1) 0 h (by omega) (by omega) (fun i j hij hj=>?_) (fun i j a1 a2 a3 a4=>?_) fun p' n' q' g1 g2 g3 g4 g5=>?_
 ·by_cases hjn:j < n
  ·exact e i j (by omega) (by omega) (by omega) hjn
  ·obtain rfl:j=n:=by omega
   by_cases hi:i=j
   ·subst hi;exact o.refl (h.lo i (by omega))
   ·exact o.trn _ (p.getD (j - 1) 0) _ (h.lo j (by omega)) (h.lo _ (by omega)) (h.lo i (by omega)) z' (e _ _ (by omega) (by omega) (by omega) (by omega))
 ·obtain rfl:i=n:=by omega
  obtain rfl:j=i:=by omega
  exact o.refl (h.lo j (by omega))
 ·show (if q' > 0 then kas_tail3 n' N (kas_rev p' (n' - (q'+1)) n') else kas_tail3 n' N p').kasWp cmp Q s
  by_cases hq:q' > 0
  ·rw [if_pos hq]
   exact tail3_ok hc o g1.rev (by omega) (by omega) (g4.rev g1 (by omega) (by omega) g5) q
  ·rw [if_neg hq]
   exact tail3_ok hc o g1 (by omega) (by omega) g4 q
theorem count_ok (hc:Cmp N lt cmp s) (o:Ord N lt) {p:Array Nat} (h:PmN N p) (hN:1≤N) {Q:Nat × Array Nat→Shared→Prop} (q:∀ m p',1≤m→m≤N→PmN N p'→Asc lt p' m→Q (m,p') s):(kas_count N p).kasWp cmp Q s:=by
 unfold kas_count
 rw [KasT.kasWp_bind]
 refine asc_ok hc o h (N - 1) 1 (Nat.le_refl _) (by omega) (fun i j hij hj=>?_) fun m a b c z=>?_
 ·obtain rfl:j=0:=by omega
  obtain rfl:i=0:=by omega
  exact o.refl (h.lo 0 (by omega))
 ·show (if (m == N)=true then KasT.ret (m,p) else if m > 1 then .ask (p.getD 0 0) (p.getD (m - 1) 0) fun c=>if c=true then .ret (m,p) else kas_descPart m N (kas_rev p 0 m) else kas_descPart m N p).kasWp cmp Q s
  by_cases hm:m=N
  ·rw [if_pos (by simp [hm])]
   exact q m p a (by omega) h c
  ·rw [if_neg (by simp [hm])]
   have z':lt (p.getD m 0) (p.getD (m - 1) 0)=true:=z.resolve_left (by omega)
   by_cases h1:m > 1
   ·rw [if_pos h1]
    refine hc _ _ _ (h.lo 0 (by omega)) (h.lo _ (by omega)) ?_
    cases e:lt (p.getD 0 0) (p.getD (m - 1) 0) with
    | true=>exact q m p a (by omega) h c
    | false =>
     have eq:Eqs lt p 0 m:=by
      intro i j _ i2 _ j2
      exact o.trn _ (p.getD (m - 1) 0) _ (h.lo j (by omega)) (h.lo _ (by omega)) (h.lo i (by omega)) (c j (m - 1) (by omega) (by omega)) (o.trn _ (p.getD 0 0) _ (h.lo _ (by omega)) (h.lo 0 (by omega)) (h.lo i (by omega)) e (c 0 i (by omega) (by omega)))
     refine descPart_ok hc o h.rev (by omega) (by omega) (fun i j _ i2 _ j2=>?_) ?_ q
     ·rw [rev_at (by rw [h.sz];omega),rev_at (by rw [h.sz];omega),if_pos (by omega),if_pos (by omega)]
      exact eq _ _ (by omega) (by omega) (by omega) (by omega)
     ·rw [rev_at (by rw [h.sz];omega),rev_at (by rw [h.sz];omega),if_neg (by omega),if_pos (by omega)]
      cases e3:lt (p.getD m 0) (p.getD (0+m - 1 - (m - 1)) 0) with
      | true=>rfl
      | false =>
       have:=o.trn _ (p.getD (0+m - 1 - (m - 1)) 0) _ (h.lo _ (by omega)) (h.lo _ (by omega)) (h.lo m (by omega)) (eq (0+m - 1 - (m - 1)) (m - 1) (by omega) (by omega) (by omega) (by omega)) e3
       rw [z'] at this;cases this
   ·rw [if_neg h1]
    obtain rfl:m=1:=by omega
    refine descPart_ok hc o h (by omega) (by omega) (fun i j _ i2 _ j2=>?_) z' q
    obtain rfl:j=0:=by omega
    obtain rfl:i=0:=by omega
    exact o.refl (h.lo 0 (by omega))
theorem place_ok (hc:Cmp N lt cmp s) (o:Ord N lt) {p:Array Nat} {k:Nat} (h:PmN N p) (hk:k < N) (a:Asc lt p k) {Q:Nat→Shared→Prop}:∀ (f l r:Nat),l≤r→r≤k→r - l≤f →
  (∀ i,i < l→lt (p.getD k 0) (p.getD i 0)=false)→(∀ i,r≤i→i < k→lt (p.getD i 0) (p.getD k 0)=false) →
  (∀ l,l≤k→(∀ i,i < l→lt (p.getD k 0) (p.getD i 0)=false)→(∀ i,l≤i→i < k→lt (p.getD i 0) (p.getD k 0)=false)→Q l s)→(kas_place p k f l r).kasWp cmp Q s
 | 0,l,r,h1,h2,h3,g1,g2,q=>q l (by omega) g1 (fun i a b=>g2 i (by omega) b)
 | f+1,l,r,h1,h2,h3,g1,g2,q=>by
  show (if l ≥ r then KasT.ret l else .ask (p.getD k 0) (p.getD ((l+r) / 2) 0) fun c=>if c=true then kas_place p k f l ((l+r) / 2) else kas_place p k f ((l+r) / 2+1) r).kasWp cmp Q s
  by_cases hlr:l ≥ r
  ·rw [if_pos hlr]
   exact q l (by omega) g1 (fun i a b=>g2 i (by omega) b)
  ·rw [if_neg hlr]
   refine hc _ _ _ (h.lo k hk) (h.lo _ (by omega)) ?_
   cases e:lt (p.getD k 0) (p.getD ((l+r) / 2) 0) with
   | true =>
    have e':=o.tot _ _ (h.lo k hk) (h.lo _ (by omega)) e
    refine place_ok hc o h hk a f l ((l+r) / 2) (by omega) (by omega) (by omega) g1 (fun i a1 a2=>?_) q
    exact o.trn _ (p.getD ((l+r) / 2) 0) _ (h.lo k hk) (h.lo _ (by omega)) (h.lo i (by omega)) e' (a _ _ a1 a2)
   | false =>
    refine place_ok hc o h hk a f ((l+r) / 2+1) r (by omega) h2 (by omega) (fun i a1=>?_) g2 q
    exact o.trn _ (p.getD ((l+r) / 2) 0) _ (h.lo i (by omega)) (h.lo _ (by omega)) (h.lo k hk) (a _ _ (by omega) (by omega)) e
theorem bin_ok (hc:Cmp N lt cmp s) (o:Ord N lt) {Q:Array Nat→Shared→Prop}:∀ (f:Nat) (p:Array Nat) (k:Nat),PmN N p→k+f≤N→Asc lt p k →
  (∀ p',PmN N p'→Asc lt p' (k+f)→Q p' s)→(kas_bin f p k).kasWp cmp Q s
 | 0,p,k,h,_,a,q=>q p h a
 | f+1,p,k,h,hf,a,q=>by
  show ((kas_place p k k 0 k).bind fun l=>kas_bin f (bubble p k (k - l)) (k+1)).kasWp cmp Q s
  rw [KasT.kasWp_bind]
  refine place_ok hc o h (by omega) a k 0 k (Nat.zero_le _) (Nat.le_refl _) (by omega) (fun i hi=>absurd hi (Nat.not_lt_zero _)) (fun i a b=>by omega) fun l hl g1 g2=>?_
  refine bin_ok hc o f _ (k+1) h.bub (by omega) (fun i j hij hj=>?_) fun p' h' a'=>q p' h' (by rw [show k+(f+1)=k+1+f by omega];exact a')
  have b1:(bubble p k (k - l)).getD l 0=p.getD k 0:=by rw [bub_at (by rw [h.sz];omega) hl,if_pos rfl]
  have b2:∀ i,l < i→i≤k→(bubble p k (k - l)).getD i 0=p.getD (i - 1) 0:=fun i x y=>by rw [bub_at (by rw [h.sz];omega) hl,if_neg (by omega),if_pos ⟨x,y⟩]
  have b3:∀ i,i < l→(bubble p k (k - l)).getD i 0=p.getD i 0:=fun i x=>by rw [bub_at (by rw [h.sz];omega) hl,if_neg (by omega),if_neg (by omega)]
  rcases Nat.lt_trichotomy i l with ci | ci | ci
  ·rw [b3 i ci]
   rcases Nat.lt_trichotomy j l with cj | cj | cj
   ·rw [b3 j cj];exact a _ _ hij (by omega)
   ·rw [cj,b1];exact g1 i ci
   ·rw [b2 j cj (by omega)];exact a _ _ (by omega) (by omega)
  ·rw [ci,b1]
   rcases Nat.lt_trichotomy j l with cj | cj | cj
   ·omega
   ·rw [cj,b1];exact o.refl (h.lo k (by omega))
   ·rw [b2 j cj (by omega)];exact g2 _ (by omega) (by omega)
  ·rw [b2 i ci (by omega),b2 j (by omega) (by omega)]
   exact a _ _ (by omega) (by omega)
theorem sort_ok (hc:Cmp N lt cmp s) (o:Ord N lt) (hN:1≤N) {Q:Array Nat→Shared→Prop} (q:∀ p,PmN N p→Asc lt p N→Q p s):(kas_sort N).kasWp cmp Q s:=by
 unfold kas_sort
 rw [KasT.kasWp_bind]
 refine count_ok hc o ⟨by simp,fun i hi=>by simp [Array.getD,hi],Array.Perm.refl _⟩ hN fun m p' h1 hm h a=>?_
 show (if m < N then kas_bin (N - max m 1) p' (max m 1) else KasT.ret p').kasWp cmp Q s
 have e:max m 1=m:=by omega
 rw [e]
 by_cases hlt:m < N
 ·rw [if_pos hlt]
  exact bin_ok hc o _ _ _ h (by omega) a fun p'' h'' a''=>q p'' h'' (by rw [show m+(N - m)=N by omega] at a'';exact a'')
 ·rw [if_neg hlt]
  obtain rfl:m=N:=by omega
  exact q p' h a
end
end L2
namespace L2
open PySem PySem.Spec PyProof.Rows
section
open PySem.W
variable {prog:Program} {w:World} {A:Around} {E:Value→Shared→Prop} {s:Shared}
def Grows (h h':Heap):Prop:=∀ (b:Addr) (o:Obj),h.get? b=some o→h'.get? b=some o
structure SortBy (prog:Program) (w:World) (A:Around) (h:Heap) (vs:List Value) (lt:Nat→Nat→Bool) (κ:SortKind):Prop where
 ord:Ord vs.length lt
 kind:∀ (s':Shared) (E:Value→Shared→Prop) (Q:SortKind→Shared→Prop),Grows h s'.heap→2≤vs.length→Q κ s'→wpAny (model prog w) A (keyKind' vs.toArray) Q E s'
 cmp:∀ (s':Shared) (i j:Nat) (C:Bool→Shared→Prop),Grows h s'.heap→i < vs.length→j < vs.length→C (lt i j) s'→wpAny (model prog w) A (keyLt' κ (vs.getD i Value.none) (vs.getD j Value.none)) C (fun _ _=>False) s'
def pickV (vs:List Value) (p:Array Nat):List Value:=p.toList.map fun i=>vs.getD i Value.none
theorem pickV_all (vs:List Value):pickV vs (List.toArray (List.range vs.length))=vs:=by
 unfold pickV
 refine List.ext_getElem (by simp) fun i h1 h2=>?_
 simp [h2]
theorem list_sort_by {h:Heap} {a:Addr} {vs:List Value} {n:Nat} {κ:SortKind} {lt:Nat→Nat→Bool} {P:PySem.Fin→Shared→Prop} (ho:s.heap.get? a=some (seqObj "list" vs.toArray n))
  (hg:∀ (b:Addr) (o:Obj),h.get? b=some o→b≠a∧s.heap.get? b=some o) (S:SortBy prog w A h vs lt κ) (h64:vs.length < 64)
  (q:∀ p,PmN vs.length p→Asc lt p vs.length→P (.done (.ret .none)) { s with heap:=sortedHeap s.heap a vs (pickV vs p).toArray }):wpAny (model prog w) A (Builtin.«list.sort» ⟨[.ref a],[]⟩) P E s:=by
 rw [list_sort_plain]
 have ha:a < s.heap.objs.size:=Heap.lt_size ho
 have hz:vs.toArray.size=vs.length:=List.size_toArray ..
 refine wpAny_bind (listItems_at ho rfl (wpAny_bind (listUpdate_at ho rfl ?_ (by rw [hz,sizeLine_eq];omega) (Nat.zero_le _))))
 obtain ⟨e1,ho1⟩:∃ e1,(s.heap.update a (Obj.mapSeq fun _=>#[])).get? a=some (seqObj "list" #[] e1):=⟨_,get?_update_seq ho (fun _=>#[])⟩
 refine wpAny_bind (seqEpoch_at ho1 rfl (wpAny_bind (wpAny_newTuple ?_ (by show vs.length≤_;rw [sizeLine_eq];omega))))
 refine wpAny_bind (wpAny_newList (wpAny_holding ?_) (Nat.zero_le _))
 have ho6:(((s.heap.update a (Obj.mapSeq fun _=>#[])).push (seqObj "tuple" vs.toArray 0)).push (seqObj "list" #[] 0)).get? a=some (seqObj "list" #[] e1):=Heap.get?_push_of_some _ (Heap.get?_push_of_some _ ho1)
 have gr:Grows h (((s.heap.update a (Obj.mapSeq fun _=>#[])).push (seqObj "tuple" vs.toArray 0)).push (seqObj "list" #[] 0)):=fun b o e =>
  Heap.get?_push_of_some _ (Heap.get?_push_of_some _ (((Heap.SameBut.update s.heap a (Obj.mapSeq fun _=>(#[]:Array Value))).2 b (hg b o e).1).trans (hg b o e).2))
 show wpAny (model prog w) A _ P E { s with heap:=((s.heap.update a (Obj.mapSeq fun _=>#[])).push (seqObj "tuple" vs.toArray 0)).push (seqObj "list" #[] 0) }
 dsimp only
 by_cases h2:vs.toArray.size < 2
 ·rw [if_pos h2,if_pos h2]
  refine wpAny_bind (wpAny_pure ?_)
  rw [StateT.run_pure]
  refine wpAny_bind (wpAny_pure ?_)
  dsimp only
  refine wpAny_bind (seqEpoch_at ho6 rfl ?_)
  have hout:(arrOf (SortSt.mk' general' (vs.toArray.zip vs.toArray) #[] 7 none)).map (·.2)=vs.toArray:=by
   show (pairsOf vs).map (·.2)=_
   apply Array.toList_inj.mp
   rw [Array.toList_map,pairsOf_toList,List.map_snd_zip (Nat.le_refl _)]
  rw [hout]
  refine wpAny_bind (listUpdate_at ho6 rfl ?_ (Nat.zero_le _) (by rw [hz,sizeLine_eq];omega))
  simp only [bne_self_eq_false,Bool.false_eq_true,if_false]
  have:=q (List.toArray (List.range vs.length)) ⟨by simp,fun i hi=>by simp [Array.getD,hi],Array.Perm.refl _⟩ (fun i j hij hj=>by
   obtain rfl:j=i:=by omega
   exact S.ord.refl (by simp [Array.getD,hj]))
  rw [pickV_all] at this
  exact wpAny_pure this
 ·rw [if_neg h2,if_neg h2]
  have hl2:2≤vs.length:=by omega
  refine wpAny_bind (S.kind _ E _ gr hl2 ?_)
  have est:SortSt.mk' κ (vs.toArray.zip vs.toArray) #[] 7 none=kas_st κ (pairsOf vs) (List.toArray (List.range vs.length)):=by
   have e:=kas_range (pairsOf vs)
   rw [pairsOf_size] at e
   show SortSt.mk' κ (pairsOf vs) #[] 7 none=SortSt.mk' κ _ #[] 7 none
   rw [e]
  have run:=kas_runs (prog:=prog) (w:=w) (A:=A) (E:=E) (κ:=κ) (it:=pairsOf vs) (s:={ s with heap:=((s.heap.update a (Obj.mapSeq fun _=>#[])).push (seqObj "tuple" vs.toArray 0)).push (seqObj "list" #[] 0) })
   (Q:=fun _ st' s'=>s'={ s with heap:=((s.heap.update a (Obj.mapSeq fun _=>#[])).push (seqObj "tuple" vs.toArray 0)).push (seqObj "list" #[] 0) }∧∃ p,PmN vs.length p∧Asc lt p vs.length∧arrOf st'=p.map (kas_item (pairsOf vs))∧failedOf st'=none)
   (G:=fun p s'=>s'={ s with heap:=((s.heap.update a (Obj.mapSeq fun _=>#[])).push (seqObj "tuple" vs.toArray 0)).push (seqObj "list" #[] 0) }∧PmN vs.length p∧Asc lt p vs.length)
   hl2 h64 (fun p' st' s' _ a2 a3 a4=>⟨a4.1,p',a4.2.1,a4.2.2,a2,a3⟩) (sort_ok (fun i j C hi hj hC=>by
    rw [← kas_ask_eq]
    exact S.cmp _ i j C gr hi hj hC) S.ord (by omega) fun p hp ap=>⟨rfl,hp,ap⟩)
  rw [← est] at run
  refine wpAny_bind (wpAny_mono run ?_ fun _ _ e=>e)
  rintro ⟨⟨⟩,st'⟩ s' ⟨rfl,p,hp,ap,har,hf⟩
  dsimp only
  have hout:(arrOf st').map (·.2)=(pickV vs p).toArray:=by
   apply Array.toList_inj.mp
   rw [har,Array.map_map,Array.toList_map]
   exact List.map_congr_left fun i _=>by show (kas_item (pairsOf vs) i).2=_;rw [kas_item_eq]
  have hsz:(pickV vs p).toArray.size=vs.length:=by unfold pickV;rw [List.size_toArray,List.length_map,Array.length_toList,hp.sz]
  rw [hout]
  refine wpAny_bind (seqEpoch_at ho6 rfl ?_)
  refine wpAny_bind (listUpdate_at ho6 rfl ?_ (Nat.zero_le _) (Nat.le_trans (Nat.le_of_eq hsz) (by rw [sizeLine_eq];omega)))
  rw [hf]
  simp only [bne_self_eq_false,Bool.false_eq_true,if_false]
  exact wpAny_pure (q p hp ap)
theorem sorted_by {x:Value} {vs:List Value} {κ:SortKind} {lt:Nat→Nat→Bool} {Q:Value→Shared→Prop} (h64:vs.length < 64)
  (col:∀ R:List Value→Shared→Prop,(∀ (h':Heap) (tk:Tok),Grows s.heap h'→s.heap.objs.size≤h'.objs.size→R vs { s with heap:=h',toks:=tk })→wpAny (model prog w) A.in1 (collect x) R E s)
  (S:SortBy prog w A.in1.in1 s.heap vs lt κ)
  (q:∀ (p:Array Nat) (h':Heap) (tk:Tok) (e:Nat) (l:Addr),PmN vs.length p→Asc lt p vs.length→Grows s.heap h'→s.heap.objs.size≤l→h'.get? l=some (seqObj "list" (pickV vs p).toArray e)→Q (.ref l) { s with heap:=h',toks:=tk }) :
  wpAny (model prog w) A (call (.builtin "sorted") [x]) Q E s:=by
 refine Calls.call_function_entry kind_sorted plain_sorted entry_sorted (args_sorted1 _) ?_
 unfold Builtin.«sorted»
 refine wpAny_bind (m:=checkCount "sorted" 1 1 _) (wpAny_pure ?_)
 refine wpAny_bind (col _ fun h' tk g hz=>?_)
 refine wpAny_bind (wpAny_newList ?_ (by rw [sizeLine_eq];omega))
 have hoL:(h'.push (seqObj "list" vs.toArray 0)).get? h'.objs.size=some (seqObj "list" vs.toArray 0):=Heap.get?_push_size _ rfl
 show wpAny _ _ _ _ _ { s with heap:=h'.push (seqObj "list" vs.toArray 0),toks:=tk }
 refine wpAny_bind (wpAny_holding (wpAny_call_entry slot_list_sort ⟨_,hoL,rfl⟩ entry_list_sort (list_sort_by (h:=s.heap) hoL (fun b o e=>⟨fun z=>absurd (Heap.lt_size e) (by rw [z];exact Nat.not_lt.mpr hz),Heap.get?_push_of_some _ (g b o e)⟩) S h64 fun p hp ap=>⟨_,rfl,?_⟩) (args_list_sort _)))
 obtain ⟨e,he⟩:∃ e,(sortedHeap (h'.push (seqObj "list" vs.toArray 0)) h'.objs.size vs (pickV vs p).toArray).get? h'.objs.size=some (seqObj "list" (pickV vs p).toArray e):=by
  unfold sortedHeap
  obtain ⟨e1,z1⟩:∃ e1,((h'.push (seqObj "list" vs.toArray 0)).update h'.objs.size (Obj.mapSeq fun _=>#[])).get? h'.objs.size=some (seqObj "list" #[] e1):=⟨_,get?_update_seq hoL (fun _=>#[])⟩
  exact ⟨_,get?_update_seq (Heap.get?_push_of_some _ (Heap.get?_push_of_some _ z1)) _⟩
 refine wpAny_pure ⟨_,rfl,q p _ tk e _ hp ap (fun b o z=>?_) hz he⟩
 have nb:b≠h'.objs.size:=fun y=>absurd (Heap.lt_size z) (by rw [y];exact Nat.not_lt.mpr hz)
 unfold sortedHeap
 rw [(Heap.SameBut.update _ h'.objs.size (Obj.mapSeq fun _=>(pickV vs p).toArray)).2 b nb]
 refine Heap.get?_push_of_some _ (Heap.get?_push_of_some _ ?_)
 rw [(Heap.SameBut.update _ h'.objs.size (Obj.mapSeq fun _=>(#[]:Array Value))).2 b nb]
 exact Heap.get?_push_of_some _ (g b o z)
end
end L2
namespace L2
open PySem PySem.Spec PyProof.Rows
section
open PySem.W
variable {prog:Program} {w:World} {A:Around} {E:Value→Shared→Prop} {s:Shared}
theorem collect_seq {T:String} {l:Addr} {o:Obj} {vs:List Value} {n:Nat} {Q:List Value→Shared→Prop} (ho:s.heap.get? l=some o) (hc:o.cls=.type T) (hT:T="list"∨T="tuple") (hd:o.data=.seq vs.toArray n) (hz:vs.length≤sizeLine)
  (q:Q vs { s with heap:=(s.heap.push (seqObj "list" #[] 0)).update s.heap.objs.size (Obj.mapSeq (· ++ vs.toArray)) }):wpAny (model prog w) A (collect (.ref l)) Q E s:=by
 unfold collect
 refine wpAny_bind (wpAny_runValue (codeAny_builtin entry_proto_collect' ?_))
 show wpAny _ _ (do again (.builtin "list.__iadd__" ⟨[← newList [],.ref l],[]⟩)) _ _ s
 refine wpAny_bind (wpAny_newList (wpAny_pure ⟨Code.quiet_builtin _ (by decide +kernel),codeAny_builtin entry_list_iadd' ?_⟩))
 show wpAny _ _ (Builtin.List.listExtendWith (.ref s.heap.objs.size) (.ref l) (.ref s.heap.objs.size)) _ _ { s with heap:=s.heap.push (seqObj "list" #[] 0) }
 unfold Builtin.List.listExtendWith
 have hp:(s.heap.push (seqObj "list" #[] 0)).get? l=some o:=Heap.get?_push_of_some _ ho
 have hn:(s.heap.push (seqObj "list" #[] 0)).get? s.heap.objs.size=some (seqObj "list" #[] 0):=Heap.get?_push_size _ rfl
 refine wpAny_bind (wpAny_typeOf (T:=T) ⟨o,hp,hc⟩ ?_)
 rw [if_pos (by rcases hT with rfl | rfl <;> simp [show (Value.type "list" == Value.type "list")=true from rfl,show (Value.type "tuple" == Value.type "tuple")=true from rfl])]
 refine wpAny_bind (listItems_at hp hd (wpAny_bind (listItems_at hn rfl ?_)))
 rw [if_neg (by simp)]
 refine wpAny_bind (listUpdate_at hn rfl ?_ (Nat.zero_le _) (by show (#[] ++ vs.toArray).size≤sizeLine+1;rw [Array.size_append,List.size_toArray];simp;omega))
 refine wpAny_pure ?_
 show wpAny (model prog w) A (do
   let o ← load s.heap.objs.size
   match o.data with
   | .seq xs _=>pure xs.toList
   | _=>unsupported "internal:collect") Q E { s with heap:=(s.heap.push (seqObj "list" #[] 0)).update s.heap.objs.size (Obj.mapSeq (· ++ vs.toArray)) }
 refine wpAny_bind (wpAny_load (get?_update_seq hn _) ?_)
 show wpAny _ _ (pure ((#[]:Array Value) ++ vs.toArray).toList) Q E _
 rw [show ((#[]:Array Value) ++ vs.toArray).toList=vs by simp]
 exact wpAny_pure q
end
inductive KindD (ds:List PyData):Prop where
 | ints (h:∀ d ∈ ds,∃ i,d=.int i)
 | strs (h:∀ d ∈ ds,∃ x,d=.str x)
 | rows (h:∀ d ∈ ds,∃ i r,d=.tuple (.int i :: r))
structure OrdD (ds:List PyData):Prop where
 kd:KindD ds
 ok:∀ d ∈ ds,∀ e ∈ ds,okD d e=true
 tot:∀ d ∈ ds,∀ e ∈ ds,lesD d e=true→lesD e d=false
 trn:∀ d ∈ ds,∀ e ∈ ds,∀ f ∈ ds,lesD e d=false→lesD f e=false→lesD f d=false
theorem getD_mem {α:Type} {l:List α} {i:Nat} {z:α} (h:i < l.length):l.getD i z ∈ l:=by
 rw [List.getD_eq_getElem?_getD,List.getElem?_eq_getElem h];exact List.getElem_mem h
section
open PySem.W
variable {prog:Program} {w:World} {A:Around}
theorem katLex_rows {s:Shared} {C:Bool→Shared→Prop} {xs ys:List PyData} {z:Bool}:∀ (us vs:List Value) (i j:Nat) (hl:us.length+j=xs.length) (hm:vs.length+j=ys.length) (hij:j=i)
  (_:∀ (k:Nat) (h1:k < us.length) (h2:k < vs.length),SeqAt.EqAt A s us[k] vs[k] (SeqAt.pairEq xs ys (k+j)))
  (_:∀ (k:Nat) (h1:k < us.length) (h2:k < vs.length),SeqAt.pairEq xs ys (k+j)=false→∀ Q:Bool→Shared→Prop,Q (pairLes xs ys (k+j)) s→wpAny (model prog w) A (oneLt' (true && (k+j == 0)) us[k] vs[k]) Q (fun _ _=>False) s)
  (_:C (lexR (SeqAt.pairEq xs ys) (pairLes xs ys) z ((List.range (min us.length vs.length)).map (·+j))) s),KatLex prog w A true z C (us.zip vs) i s
 | [],vs,i,j,hl,hm,hij,he,hg,q=>by simpa [lexR,KatLex] using q
 | _ :: _,[],i,j,hl,hm,hij,he,hg,q=>by simpa [lexR,KatLex] using q
 | u :: us,v :: vs,i,j,hl,hm,hij,he,hg,q=>by
  subst hij
  rw [List.zip_cons_cons]
  refine kat_cons (he 0 (Nat.zero_lt_succ _) (Nat.zero_lt_succ _) prog w _ _ ?_)
  have e:min (u :: us).length (v :: vs).length=min us.length vs.length+1:=by simp only [List.length_cons];omega
  rw [e,List.range_succ_eq_map,List.map_cons,lexR] at q
  refine kat_go (fun c=>kat_yes ?_) (fun c=>kat_no ?_)
  ·rw [if_pos c] at q
   refine katLex_rows (xs:=xs) (ys:=ys) us vs (j+1) (j+1) (by simp at hl;omega) (by simp at hm;omega) rfl (fun k h1 h2=>?_) (fun k h1 h2 c2 Q hQ=>?_) ?_
   ·have:=he (k+1) (Nat.succ_lt_succ h1) (Nat.succ_lt_succ h2)
    rw [show k+1+j=k+(j+1) by omega] at this
    exact this
   ·have:=hg (k+1) (Nat.succ_lt_succ h1) (Nat.succ_lt_succ h2)
    rw [show k+1+j=k+(j+1) by omega] at this
    exact this c2 Q hQ
   ·rw [List.map_map] at q
    have e2:((fun x=>x+j) ∘ Nat.succ)=fun x=>x+(j+1):=by funext x;show x+1+j=x+(j+1);omega
    rw [e2] at q
    exact q
  ·rw [if_neg (by rw [c];decide)] at q
   have:=hg 0 (Nat.zero_lt_succ _) (Nat.zero_lt_succ _) c C q
   rw [Nat.zero_add] at this
   exact this
theorem oneLt_at {s:Shared} {p q:Value} {b:Bool} {Q:Bool→Shared→Prop} {E:Value→Shared→Prop} (h:LesAt A s p q b) (k:Q b s):wpAny (model prog w) A (oneLt' false p q) Q E s:=by
 rw [oneLt'_eq]
 simp only [Bool.false_eq_true,if_false]
 exact wpAny_bind (h prog w _ _ (wpAny_truthy_bool k))
theorem sortBy_data {h:Heap} {vs:List Value} {ds:List PyData} (hl:vs.length=ds.length) (hr:∀ (j:Nat) (hj:j < vs.length),∃ as,Reads h vs[j] (ds.getD j .none) as) (hy:∀ d ∈ ds,d.canLay0=true) (hp:∀ d ∈ ds,d.depth≤8) (O:OrdD ds)
  (hu:A.units+12 < cLine):∃ κ,SortBy prog w A h vs (fun i j=>lesD (ds.getD i .none) (ds.getD j .none)) κ:=by
 have ord:Ord vs.length (fun i j=>lesD (ds.getD i .none) (ds.getD j .none)):=⟨fun x y hx hy'=>O.tot _ (getD_mem (by omega)) _ (getD_mem (by omega)),fun x y z hx hy' hz=>O.trn _ (getD_mem (by omega)) _ (getD_mem (by omega)) _ (getD_mem (by omega))⟩
 have gv:∀ (i:Nat) (hi:i < vs.length),vs.getD i Value.none=vs[i]:=fun i hi=>by simp [hi]
 rcases O.kd with hk | hk | hk
 ·refine ⟨oneType',ord,fun s' E Q g h2 q=>kas_kind (T:=Value.type "int") h2 (fun v hv=>?_) (by decide) (by decide) q,fun s' i j C g hi hj q=>?_⟩
  ·obtain ⟨j,hj,rfl⟩:=List.getElem_of_mem hv
   obtain ⟨as,r⟩:=hr j hj
   obtain ⟨k,e⟩:=hk _ (getD_mem (i:=j) (z:=.none) (by omega))
   rw [e] at r
   cases r1:vs[j] <;> rw [r1] at r <;> cases r
   exact Looks.of_pure rfl
  ·rw [gv i hi,gv j hj]
   obtain ⟨as,r⟩:=hr i hi
   obtain ⟨bs,t⟩:=hr j hj
   obtain ⟨k,e⟩:=hk _ (getD_mem (i:=i) (z:=.none) (by omega))
   obtain ⟨m,f⟩:=hk _ (getD_mem (i:=j) (z:=.none) (by omega))
   rw [e] at r
   rw [f] at t
   simp only [e,f,lesD] at q
   generalize vs[i]=u1 at r ⊢
   generalize vs[j]=u2 at t ⊢
   cases r
   cases t
   exact kat_lt_int q
 ·refine ⟨oneType',ord,fun s' E Q g h2 q=>kas_kind (T:=Value.type "str") h2 (fun v hv=>?_) (by decide) (by decide) q,fun s' i j C g hi hj q=>?_⟩
  ·obtain ⟨j,hj,rfl⟩:=List.getElem_of_mem hv
   obtain ⟨as,r⟩:=hr j hj
   obtain ⟨k,e⟩:=hk _ (getD_mem (i:=j) (z:=.none) (by omega))
   rw [e] at r
   cases r1:vs[j] <;> rw [r1] at r <;> cases r
   exact Looks.of_pure rfl
  ·rw [gv i hi,gv j hj]
   obtain ⟨as,r⟩:=hr i hi
   obtain ⟨bs,t⟩:=hr j hj
   obtain ⟨k,e⟩:=hk _ (getD_mem (i:=i) (z:=.none) (by omega))
   obtain ⟨m,f⟩:=hk _ (getD_mem (i:=j) (z:=.none) (by omega))
   rw [e] at r
   rw [f] at t
   simp only [e,f,lesD] at q
   generalize vs[i]=u1 at r ⊢
   generalize vs[j]=u2 at t ⊢
   cases r
   cases t
   exact kas_lt_str q
 ·have tup:∀ (j:Nat) (hj:j < vs.length),∃ (a:Addr) (o:Obj) (xs:Array Value) (n:Nat) (k:Int) (t:Tok) (r:List PyData) (as:List Addr),vs[j]=.ref a∧h.get? a=some o∧o.cls=.type "tuple"∧o.data=.seq xs n∧ds.getD j .none=.tuple (.int k :: r)∧ReadsAll h xs.toList (.int k :: r) as∧xs[0]?=some (.int k t):=by
   intro j hj
   obtain ⟨as,r⟩:=hr j hj
   obtain ⟨k,rr,e⟩:=hk _ (getD_mem (i:=j) (z:=.none) (by omega))
   rw [e] at r
   generalize hv:vs[j]=u1 at r
   cases r with
   | @tuple a o xs n _ _ h1 h2 h3 h4 =>
    have h0:∃ t,xs[0]?=some (.int k t):=by
     generalize hx:xs.toList=l at h4
     cases h4 with
     | cons r1 r2 =>
      cases r1 with
      | int _ t=>exact ⟨t,by rw [← Array.getElem?_toList,hx];rfl⟩
    obtain ⟨t,ht⟩:=h0
    exact ⟨a,o,xs,n,k,t,rr,_,rfl,h1,h2,h3,e,h4,ht⟩
  have firsts:∀ (l:List Value) (_:∀ v ∈ l,∃ (a:Addr) (o:Obj) (xs:Array Value) (n:Nat) (k:Int) (t:Tok),v=.ref a∧h.get? a=some o∧o.cls=.type "tuple"∧o.data=.seq xs n∧xs[0]?=some (.int k t)) (h':Heap),Grows h h'→∃ fs,KatTups h' l fs∧fs.length=l.length∧∀ f ∈ fs,∃ k t,f=Value.int k t:=by
   intro l
   induction l with
   | nil=>intro _ h' _;exact ⟨[],trivial,rfl,fun f hf=>absurd hf (by simp)⟩
   | cons v l ih =>
    intro hv h' g
    obtain ⟨fs,k1,k2,k3⟩:=ih (fun v hv'=>hv v (List.mem_cons_of_mem _ hv')) h' g
    obtain ⟨a,o,xs,n,k,t,rfl,h1,h2,h3,h4⟩:=hv v List.mem_cons_self
    exact ⟨.int k t :: fs,.cons (g a o h1) h2 h3 h4 k1,by simp [k2],fun f hf=>(List.mem_cons.mp hf).elim (fun e=>⟨k,t,e⟩) (k3 f)⟩
  refine ⟨tuples' (Value.type "int" != Value.type "tuple"),ord,fun s' E Q g h2 q=>?_,fun s' i j C g hi hj q=>?_⟩
  ·obtain ⟨fs,k1,k2,k3⟩:=firsts vs (fun v hv=>by
    obtain ⟨j,hj,rfl⟩:=List.getElem_of_mem hv
    obtain ⟨a,o,xs,n,k,t,r,as,e1,e2,e3,e4,e5,e6,e7⟩:=tup j hj
    exact ⟨a,o,xs,n,k,t,e1,e2,e3,e4,e7⟩) s'.heap g
   exact kat_kind (T:=Value.type "int") k1 (by omega) (fun v hv=>by
    obtain ⟨k,t,rfl⟩:=k3 v hv
    exact Looks.of_pure rfl) (by decide) q
  ·rw [gv i hi,gv j hj]
   obtain ⟨a,o,xs,n,k,t,r,as,e1,e2,e3,e4,e5,e6,e7⟩:=tup i hi
   obtain ⟨a',o',xs',n',k',t',r',as',f1,f2,f3,f4,f5,f6,f7⟩:=tup j hj
   have mi:=getD_mem (l:=ds) (i:=i) (z:=.none) (by omega)
   have mj:=getD_mem (l:=ds) (i:=j) (z:=.none) (by omega)
   have di:=hp _ mi
   have dj:=hp _ mj
   have yi:=hy _ mi
   have yj:=hy _ mj
   have ho:=O.ok _ mi _ mj
   rw [e5] at di yi
   rw [f5] at dj yj
   rw [e5,f5] at ho
   simp only [e5,f5] at q
   have di:PyData.depthAll (.int k :: r)≤7:=Nat.le_of_succ_le_succ di
   have dj:PyData.depthAll (.int k' :: r')≤7:=Nat.le_of_succ_le_succ dj
   have yi:PyData.canLayAll0 (.int k :: r)=true:=yi
   have yj:PyData.canLayAll0 (.int k' :: r')=true:=yj
   have ho:okDs (.int k :: r) (.int k' :: r')=true:=by simpa [okD] using ho
   rw [e1,f1]
   have g6:=ReadsAll.keeps g e6
   have g6':=ReadsAll.keeps g f6
   have l1:=reads_len e6
   have l2:=reads_len f6
   refine kat_lt (g a o e2) e4 (g a' o' f2) f4 ?_
   have sz:decide (xs.size < xs'.size)=decide ((PyData.int k :: r).length < (PyData.int k' :: r').length):=by rw [← l1,← l2];simp
   rw [sz]
   refine katLex_rows (xs:=.int k :: r) (ys:=.int k' :: r') xs.toList xs'.toList 0 0 (by omega) (by omega) rfl (fun m h1 h2=>?_) (fun m h1 h2 c Q hQ=>?_) ?_
   ·exact SeqAt.eqAt_readsAll _ _ A s' xs.toList xs'.toList _ _ g6 g6' yi yj (by omega) m h1 h2
   ·by_cases hm:m=0
    ·subst hm
     have z1:xs.toList[0]=.int k t:=by
      have:xs.toList[0]?=some (.int k t):=by rw [Array.getElem?_toList];exact e7
      rw [List.getElem?_eq_getElem h1] at this
      exact Option.some.inj this
     have z2:xs'.toList[0]=.int k' t':=by
      have:xs'.toList[0]?=some (.int k' t'):=by rw [Array.getElem?_toList];exact f7
      rw [List.getElem?_eq_getElem h2] at this
      exact Option.some.inj this
     rw [z1,z2]
     exact oneLt_int (by simpa [pairLes,lesD] using hQ)
    ·have eb:(true && (m+0 == 0))=false:=by simp [hm]
     rw [eb]
     obtain ⟨as2,q1⟩:=readsAll_at g6 m h1
     obtain ⟨bs2,q2⟩:=readsAll_at g6' m h2
     exact oneLt_at (lt_reads 7 _ _ A s' _ _ as2 bs2 (Nat.le_trans (dep_at _ m (by omega)) di) q1 q2 (lay_at _ yi m (by omega)) (lay_at _ yj m (by omega)) (okDs_at _ _ ho m (by omega) (by omega)) (by omega)) hQ
   ·have e0:((List.range (min xs.toList.length xs'.toList.length)).map (·+0))=List.range (min (PyData.int k :: r).length (PyData.int k' :: r').length):=by rw [l1,l2];simp
    rw [e0,lexR_eq]
    simpa [lesD] using q
end
section
variable {α:Type}
theorem pick_sorted {n:Nat} {p:Array Nat} {lt:Nat→Nat→Bool} (h:PmN n p) (a:Asc lt p n) (l:List α) (hl:l.length=n) (z:α) (R:α→α→Prop) (hR:∀ i j,i < n→j < n→lt j i=false→R (l.getD i z) (l.getD j z)) :
  (p.toList.map fun i=>l.getD i z).Perm l∧(p.toList.map fun i=>l.getD i z).Pairwise R:=by
 constructor
 ·have e:(List.range n).map (fun i=>l.getD i z)=l:=by
   refine List.ext_getElem (by simp [hl]) fun i h1 h2=>?_
   simp [h2]
  have:=(Array.perm_iff_toList_perm.mp h.pm).map (fun i=>l.getD i z)
  rw [show (List.toArray (List.range n)).toList=List.range n from rfl,e] at this
  exact this
 ·rw [List.pairwise_map,List.pairwise_iff_getElem]
  intro i j hi hj hij
  have hz:p.toList.length=n:=by rw [Array.length_toList,h.sz]
  have gi:p.toList[i]=p.getD i 0:=by simp [Array.getD,show i < p.size by rw [h.sz];omega]
  have gj:p.toList[j]=p.getD j 0:=by simp [Array.getD,show j < p.size by rw [h.sz];omega]
  rw [gi,gj]
  exact hR _ _ (h.lo i (by omega)) (h.lo j (by omega)) (a i j (by omega) (by omega))
end
def rSrt (K:PySem.W.Frag):List V→Hp→VK→Prop:=fun xs H Q=>∃ (b:Bool) (p:Addr) (zs:List (V × PyData)),xs=[.ref p]∧SqB b K H p (zs.map (·.1))∧zs.length < 64∧(∀ z ∈ zs,IsDat K H 8 z.1 z.2)∧OrdD (zs.map (·.2)) ∧
 ∀ (ys:List (V × PyData)) (q:Addr),ys.Perm zs→ys.Pairwise (fun x y=>lesD y.2 x.2=false)→H q=none→Q (.ref q) (upd H q (.lst (ys.map (·.1))))
theorem Vals.pick {xs:List V} {us:List Value} (r:Vals xs us):∀ (l:List Nat),(∀ i ∈ l,i < xs.length)→Vals (l.map fun i=>xs.getD i .non) (l.map fun i=>us.getD i Value.none)
 | [],_=>.nil
 | i :: l,h=>by
  have hi:=h i List.mem_cons_self
  obtain ⟨u,h1,h2⟩:=r.get (List.getElem?_eq_getElem hi)
  refine .cons ?_ (Vals.pick r l fun j hj=>h j (List.mem_cons_of_mem _ hj))
  have e1:xs.getD i .non=xs[i]:=by simp [hi]
  have e2:us.getD i Value.none=u:=by rw [List.getD_eq_getElem?_getD,h1];rfl
  show RelV (xs.getD i .non) (us.getD i Value.none)
  rw [e1,e2]
  exact h2
theorem call_sorted {X:Cx} (K:PySem.W.Frag) (hu:X.A.units+16 < cLine) (hK:X.K=K:=by rfl):CallR X (.builtin "sorted") (rSrt K):=by
 subst hK
 intro pins s σ H xs us Q I r h
 obtain ⟨b,p,zs,rfl,hq,h64,hd,O,q⟩:=h
 obtain ⟨u,rfl,rx⟩:=vals1 r
 cases rx
 obtain ⟨T,o,its,n,hT,ho,hc,hdat,r1⟩:∃ (T:String) (o:Obj) (its:List Value) (n:Nat),(T="list"∨T="tuple")∧s.heap.get? p=some o∧o.cls=.type T∧o.data=.seq its.toArray n∧Vals (zs.map (·.1)) its:=by
  rcases hq.or with hq | hq
  ·obtain ⟨its,r1,⟨o,n,ho,hc,_,hd⟩,_⟩:=I.list hq
   exact ⟨"list",o,its,n,.inl rfl,ho,hc,hd,r1⟩
  ·obtain ⟨its,r1,⟨o,ho,hc,n,hd⟩,_⟩:=I.tuple hq
   exact ⟨"tuple",o,its,n,.inr rfl,ho,hc,hd,r1⟩
 have hlen:its.length=zs.length:=by rw [← r1.length,List.length_map]
 obtain ⟨κ,S⟩:=sortBy_data (prog:=X.prog) (w:=X.w) (A:=X.A.in1.in1) (h:=s.heap) (vs:=its) (ds:=zs.map (·.2)) (by rw [hlen,List.length_map]) (fun j hj=>by
   obtain ⟨x,h1,h2⟩:=r1.back (List.getElem?_eq_getElem hj)
   have hz:j < zs.length:=by omega
   have e1:x=zs[j].1:=by simpa [hz] using h1.symm
   have e2:(zs.map (·.2)).getD j .none=zs[j].2:=by simp [hz]
   rw [e2]
   exact (e1 ▸ hd _ (List.getElem_mem hz)).reads I h2)
  (fun d hd'=>by obtain ⟨z,hz,rfl⟩:=List.mem_map.mp hd';exact (hd z hz).lay) (fun d hd'=>by obtain ⟨z,hz,rfl⟩:=List.mem_map.mp hd';exact (hd z hz).dep) O (by show X.A.units+1+1+12 < cLine;omega)
 refine sorted_by (by omega) (fun R k=>collect_seq ho hc hT hdat (by rw [sizeLine_eq];omega) (k _ s.toks (fun b o e=>?_) ?_)) S fun pm h' tk e l hp ap g hz hl=>?_
 ·have nb:b≠s.heap.objs.size:=fun y=>absurd (Heap.lt_size e) (by rw [y];exact Nat.lt_irrefl _)
  rw [(Heap.SameBut.update _ s.heap.objs.size (Obj.mapSeq (· ++ its.toArray))).2 b nb]
  exact Heap.get?_push_of_some _ e
 ·rw [Heap.size_update,size_push'];exact Nat.le_succ _
 ·obtain ⟨z1,z2⟩:=pick_sorted hp ap zs hlen.symm (V.non,PyData.none) (fun x y=>lesD y.2 x.2=false) (fun i j hi hj h0=>by
   have hi':i < zs.length:=by omega
   have hj':j < zs.length:=by omega
   simpa [hi',hj'] using h0)
  have ev:(pm.toList.map fun i=>(zs.map (·.1)).getD i V.non)=(pm.toList.map fun i=>zs.getD i (V.non,PyData.none)).map (·.1):=by
   rw [List.map_map]
   refine List.map_congr_left fun i hi=>?_
   show _=(zs.getD i (V.non,PyData.none)).1
   by_cases hz:i < zs.length
   ·simp [hz]
   ·simp [Nat.le_of_not_lt hz]
  have hin:∀ i ∈ pm.toList,i < (zs.map (·.1)).length:=by
   intro i hi
   have:=(Array.perm_iff_toList_perm.mp hp.pm).mem_iff.mp hi
   have:i < its.length:=by simpa using this
   rw [List.length_map];omega
  have rv:=r1.pick pm.toList hin
  rw [ev] at rv
  refine ⟨.ref l,_,I.laid (t':=tk) (o:=.lst ((pm.toList.map fun i=>zs.getD i (V.non,PyData.none)).map (·.1))) (fun b o eb=>g b o eb) hz ⟨by rw [List.length_map,List.length_map,Array.length_toList,hp.sz,sizeLine_eq];omega,_,e,rv,hl⟩,rfl,q _ _ z1 z2 (I.hok.fresh hz)⟩
end L2
namespace L2
open PySem PySem.Spec PyProof.Rows
section
variable {X:Cx}
def rLeS:R2:=fun x y H Q=>∃ a b:Str,x=.str a∧y=.str b∧Q (.bl (!decide (b.cps.toList < a.cps.toList))) H
theorem op_leS:OpR X (compareOp .LtE) rLeS:=by
 intro pins s σ H x y v u Q I rx ry h
 obtain ⟨a,b,rfl,rfl,q⟩:=h
 obtain ⟨t,rfl⟩:=(show ∃ t,v=Value.str a t from rx)
 obtain ⟨t2,rfl⟩:=(show ∃ t,u=Value.str b t from ry)
 exact P.le_str ⟨.bl _,H,I,rfl,q⟩
end
end L2
namespace L2
open PySem PySem.Spec PyProof.Rows
theorem pg_tupK {X:Cx} (K:PySem.W.Frag) {pos:Pos} {es:List Expr} {k:Nat} {t:TGs} {n:Nat} (hc:X.calm=true) (h:PGs X es t) (hK:X.K=K:=by rfl)
  (hn:(assignEach es X.env).length=n:=by rfl) (hst:(assignEach es X.env).findIdx? (·.1)=none:=by rfl):PG X (.Tuple es k pos) (gTup K n t):=by
 subst hK
 exact pg_tup hc h hn hst
end L2
namespace L2
open PySem PySem.Spec PyProof.Rows
end L2
namespace L2
open PySem PySem.Spec PyProof.Rows
section
open PySem.W
variable {prog:Program} {w:World} {A:Around} {E:Value→Shared→Prop} {s:Shared} {T:String} {r d:Addr} {n:Nat} {P:Nat→Value→Prop} {OK:Heap→Prop}
theorem collect_src {R:List Value→Shared→Prop} (K:KdlSrc prog w T r d n P OK) (hh:A.handled=none) (hok:OK s.heap) (hn:n≤sizeLine)
  (q:∀ (g:Heap) (tk:Nat) (acc:Array Value),Grows s.heap g→s.heap.objs.size≤g.objs.size→ItemsOf P acc n→R acc.toList { s with heap:=g,toks:=tk }):wpAny (model prog w) A (collect (.ref r)) R E s:=by
 have lt:=K.there _ hok
 unfold collect
 refine wpAny_bind (wpAny_runValue (codeAny_builtin entry_proto_collect' ?_))
 rw [Around.under_plainId PySem.F.plain_proto_collect _]
 show wpAny _ A.in1 (newList [] >>= fun x=>again (.builtin "list.__iadd__" ⟨[x,.ref r],[]⟩)) _ _ s
 refine wpAny_bind (wpAny_newObj_type (wpAny_pure ⟨plainId_quiet PySem.F.plain_list_iadd _,codeAny_builtin entry_list_iadd' ?_⟩))
 rw [Around.under_plainId PySem.F.plain_list_iadd _]
 have e1:(s.heap.push { cls:=.type "list",data:=.seq ([]:List Value).toArray }).get? s.heap.objs.size=some { cls:=.type "list",data:=.seq #[] }:=Heap.get?_push_size _ rfl
 show wpAny _ A.in1 (Builtin.List.listExtendWith (.ref s.heap.objs.size) (.ref r) (.ref s.heap.objs.size)) _ _ _
 have z:=kdl_extend (A:=A) (s:={ s with heap:=s.heap.push { cls:=.type "list",data:=.seq ([]:List Value).toArray } })
  (R:=fun (f:Result) (t:Shared)=>∃ (g:Heap) (tk:Nat) (acc:Array Value) (c:Nat),f=.ok (.ret (.ref s.heap.objs.size))∧t={ s with heap:=g,toks:=tk }∧Grows s.heap g∧g.get? s.heap.objs.size=some { cls:=.type "list",dict:=none,data:=.seq acc c,slots:=#[] }∧ItemsOf P acc n)
  K hh (K.keep _ _ hok fun b _ o e=>Heap.get?_push_of_some _ e) s.heap.objs.size (Nat.ne_of_gt lt.1) (Nat.ne_of_gt lt.2) (.ref s.heap.objs.size) 0 e1
  (fun g tk acc c hk hS ha=>⟨g,tk,acc,c,rfl,rfl,fun b o e=>hk b o (Nat.ne_of_lt (Heap.lt_size e)) (Heap.get?_push_of_some _ e),hS,ha⟩) hn
 refine wpAny_mono z (fun fin t x=>?_) fun e t x=>?_
 ·cases fin with
  | done f =>
   obtain ⟨g,tk,acc,c,e,rfl,hk,hS,ha⟩:=x
   cases e
   show wpAny _ A (load s.heap.objs.size >>= _) _ _ _
   exact wpAny_bind (wpAny_load hS (wpAny_pure (q g tk acc hk (Nat.le_of_lt (Heap.lt_size hS)) ha)))
  | again c₁ =>
   refine ⟨x.1,codeAny_mono x.2 fun f t2 y=>?_⟩
   obtain ⟨g,tk,acc,c,rfl,rfl,hk,hS,ha⟩:=y
   show wpAny _ A (load s.heap.objs.size >>= _) _ _ _
   exact wpAny_bind (wpAny_load hS (wpAny_pure (q g tk acc hk (Nat.le_of_lt (Heap.lt_size hS)) ha)))
 ·obtain ⟨_,_,_,_,y,_⟩:=x
  cases y
theorem sorted_byG {x:Value} {lt:Nat→Nat→Bool} {Q:Value→Shared→Prop} (G:List Value→Prop) (h64:∀ vs,G vs→vs.length < 64)
  (col:∀ R:List Value→Shared→Prop,(∀ (vs:List Value) (h':Heap) (tk:Tok),G vs→Grows s.heap h'→s.heap.objs.size≤h'.objs.size→R vs { s with heap:=h',toks:=tk })→wpAny (model prog w) A.in1 (collect x) R E s)
  (S:∀ vs,G vs→∃ κ,SortBy prog w A.in1.in1 s.heap vs lt κ)
  (q:∀ (vs:List Value) (p:Array Nat) (h':Heap) (tk:Tok) (e:Nat) (l:Addr),G vs→PmN vs.length p→Asc lt p vs.length→Grows s.heap h'→s.heap.objs.size≤l→h'.get? l=some (seqObj "list" (pickV vs p).toArray e)→Q (.ref l) { s with heap:=h',toks:=tk }) :
  wpAny (model prog w) A (call (.builtin "sorted") [x]) Q E s:=by
 refine Calls.call_function_entry kind_sorted plain_sorted entry_sorted (args_sorted1 _) ?_
 unfold Builtin.«sorted»
 refine wpAny_bind (m:=checkCount "sorted" 1 1 _) (wpAny_pure ?_)
 refine wpAny_bind (col _ fun vs h' tk hG g hz=>?_)
 have hv:=h64 vs hG
 obtain ⟨κ,S⟩:=S vs hG
 refine wpAny_bind (wpAny_newList ?_ (by rw [sizeLine_eq];omega))
 have hoL:(h'.push (seqObj "list" vs.toArray 0)).get? h'.objs.size=some (seqObj "list" vs.toArray 0):=Heap.get?_push_size _ rfl
 show wpAny _ _ _ _ _ { s with heap:=h'.push (seqObj "list" vs.toArray 0),toks:=tk }
 refine wpAny_bind (wpAny_holding (wpAny_call_entry slot_list_sort ⟨_,hoL,rfl⟩ entry_list_sort (list_sort_by (h:=s.heap) hoL (fun b o e=>⟨fun z=>absurd (Heap.lt_size e) (by rw [z];exact Nat.not_lt.mpr hz),Heap.get?_push_of_some _ (g b o e)⟩) S hv fun p hp ap=>⟨_,rfl,?_⟩) (args_list_sort _)))
 obtain ⟨e,he⟩:∃ e,(sortedHeap (h'.push (seqObj "list" vs.toArray 0)) h'.objs.size vs (pickV vs p).toArray).get? h'.objs.size=some (seqObj "list" (pickV vs p).toArray e):=by
  unfold sortedHeap
  obtain ⟨e1,z1⟩:∃ e1,((h'.push (seqObj "list" vs.toArray 0)).update h'.objs.size (Obj.mapSeq fun _=>#[])).get? h'.objs.size=some (seqObj "list" #[] e1):=⟨_,get?_update_seq hoL (fun _=>#[])⟩
  exact ⟨_,get?_update_seq (Heap.get?_push_of_some _ (Heap.get?_push_of_some _ z1)) _⟩
 refine wpAny_pure ⟨_,rfl,q vs p _ tk e _ hG hp ap (fun b o z=>?_) hz he⟩
 have nb:b≠h'.objs.size:=fun y=>absurd (Heap.lt_size z) (by rw [y];exact Nat.not_lt.mpr hz)
 unfold sortedHeap
 rw [(Heap.SameBut.update _ h'.objs.size (Obj.mapSeq fun _=>(pickV vs p).toArray)).2 b nb]
 refine Heap.get?_push_of_some _ (Heap.get?_push_of_some _ ?_)
 rw [(Heap.SameBut.update _ h'.objs.size (Obj.mapSeq fun _=>(#[]:Array Value))).2 b nb]
 exact Heap.get?_push_of_some _ (g b o z)
end
theorem ordInts (ns:List Int):OrdD (ns.map PyData.int) where
 kd:=.ints fun d hd=>by obtain ⟨n,_,rfl⟩:=List.mem_map.mp hd;exact ⟨n,rfl⟩
 ok:=fun d hd e he=>by
  obtain ⟨n,_,rfl⟩:=List.mem_map.mp hd
  obtain ⟨m,_,rfl⟩:=List.mem_map.mp he
  simp [okD]
 tot:=fun d hd e he h=>by
  obtain ⟨n,_,rfl⟩:=List.mem_map.mp hd
  obtain ⟨m,_,rfl⟩:=List.mem_map.mp he
  simp only [lesD,decide_eq_true_eq,decide_eq_false_iff_not] at h ⊢
  omega
 trn:=fun d hd e he f hf h1 h2=>by
  obtain ⟨n,_,rfl⟩:=List.mem_map.mp hd
  obtain ⟨m,_,rfl⟩:=List.mem_map.mp he
  obtain ⟨k,_,rfl⟩:=List.mem_map.mp hf
  simp only [lesD,decide_eq_false_iff_not] at h1 h2 ⊢
  omega
theorem ints_vals:∀ {ns:List Int} {us:List Value},us.length=ns.length→(∀ (i:Nat) (u:Value),us[i]?=some u→∃ t,u=Value.int (ns.getD i 0) t)→Vals (ns.map V.int) us
 | [],[],_,_=>.nil
 | [],_ :: _,h,_=>by cases h
 | _ :: _,[],h,_=>by cases h
 | n :: ns,u :: us,h,q=>by
  refine .cons (q 0 u rfl) (ints_vals (Nat.succ.inj h) fun i v e=>?_)
  have:=q (i+1) v (by simpa using e)
  simpa using this
section
variable {X:Cx}
theorem dict_col (hc:X.calm=true) {pins:List (Addr × Obj)} {σ:St} {H:Hp} {s:Shared} {A:Around} {E:Value→Shared→Prop} {d:Addr} {kvs:List (Key × V)} {ns:List Int} (I:Inv X pins σ H s) (hA:A.handled=X.A.handled) (hd:H d=some (.dK kvs)) (hk:kvs.map (·.1)=ns.map Sum.inl)
  {R:List Value→Shared→Prop} (q:∀ (vs:List Value) (h':Heap) (tk:Tok),Vals (ns.map V.int) vs→Grows s.heap h'→s.heap.objs.size≤h'.objs.size→R vs { s with heap:=h',toks:=tk }):wpAny (model X.prog X.w) A (collect (.ref d)) R E s:=by
 obtain ⟨vs,ep,rel,z,hs,hm,_⟩:=I.freeze hd
 have hl:kvs.length=ns.length:=by have:=congrArg List.length hk;rwa [List.length_map,List.length_map] at this
 have hl2:=rel.length
 refine collect_src (PySem.W.kdl_dict (knd:=mixKind X.prog X.w) (kvs:=vs) (ep:=ep) hs) (hA.trans (I.ok.hd hc)) hm (by omega) fun g tk acc hg hz ha=>q _ g tk ?_ hg hz
 obtain ⟨a1,a2⟩:=ha
 refine ints_vals (by rw [Array.length_toList,a1];omega) fun i u hu=>?_
 obtain ⟨k,x,e1,e2⟩:=a2 i u (by simpa using hu)
 obtain ⟨v,ev⟩:=kv_get rel e1
 have ek:(kvs.map (·.1))[i]?=some k:=by rw [List.getElem?_map,ev];rfl
 rw [hk,List.getElem?_map] at ek
 cases en:ns[i]? with
 | none=>rw [en] at ek;cases ek
 | some n =>
  rw [en] at ek
  obtain rfl:Sum.inl n=k:=Option.some.inj ek
  have er:ns.getD i 0=n:=by rw [List.getD_eq_getElem?_getD,en];rfl
  rw [er]
  exact kV_rel e2
def rSrtD:List V→Hp→VK→Prop:=fun xs H Q=>∃ (d:Addr) (kvs:List (Key × V)) (ns:List Int),xs=[.ref d]∧H d=some (.dK kvs)∧kvs.map (·.1)=ns.map Sum.inl∧ns.length < 64∧∀ (ys:List Int) (q:Addr),ys.Perm ns→ys.Pairwise (·≤·)→H q=none→Q (.ref q) (upd H q (.lst (ys.map V.int)))
theorem call_sortedD (hu:X.A.units+16 < cLine) (hc:X.calm=true:=by rfl):CallR X (.builtin "sorted") rSrtD:=by
 intro pins s σ H xs us Q I r h
 obtain ⟨d,kvs,ns,rfl,hd,hk,h64,q⟩:=h
 obtain ⟨u,rfl,rx⟩:=vals1 r
 cases rx
 have S:∀ vs,Vals (ns.map V.int) vs→∃ κ,SortBy X.prog X.w X.A.in1.in1 s.heap vs (fun i j=>lesD ((ns.map PyData.int).getD i .none) ((ns.map PyData.int).getD j .none)) κ:=fun vs hv=>by
  have hl:=hv.length
  rw [List.length_map] at hl
  refine sortBy_data (by rw [List.length_map];omega) (fun j hj=>?_) (fun d hd'=>by obtain ⟨n,_,rfl⟩:=List.mem_map.mp hd';rfl) (fun d hd'=>by obtain ⟨n,_,rfl⟩:=List.mem_map.mp hd';exact Nat.zero_le _) (ordInts ns) (by show X.A.units+1+1+12 < cLine;omega)
  obtain ⟨x,h1,h2⟩:=hv.back (List.getElem?_eq_getElem hj)
  rw [List.getElem?_map] at h1
  cases en:ns[j]? with
  | none=>rw [en] at h1;cases h1
  | some n =>
   rw [en] at h1
   obtain rfl:V.int n=x:=Option.some.inj h1
   obtain ⟨t,ht⟩:=(show ∃ t,vs[j]=Value.int n t from h2)
   have er:(ns.map PyData.int).getD j .none=.int n:=by rw [List.getD_eq_getElem?_getD,List.getElem?_map,en];rfl
   rw [ht,er]
   exact ⟨_,.int n t⟩
 refine sorted_byG (fun vs=>Vals (ns.map V.int) vs) (fun vs hv=>by have:=hv.length;rw [List.length_map] at this;omega) (fun R k=>dict_col (A:=X.A.in1) hc I rfl hd hk fun vs h' tk hv g hz=>k vs h' tk hv g hz) S fun vs p h' tk e l hv hp ap g hz hl=>?_
 have hlen:ns.length=vs.length:=by have:=hv.length;rwa [List.length_map] at this
 obtain ⟨z1,z2⟩:=pick_sorted hp ap ns hlen (0:Int) (fun x y=>x≤y) (fun i j hi hj h0=>by
  have hi':i < ns.length:=by omega
  have hj':j < ns.length:=by omega
  simp [hi',hj',lesD] at h0
  simpa [hi',hj'] using h0)
 have hin:∀ i ∈ p.toList,i < (ns.map V.int).length:=by
  intro i hi
  have:=(Array.perm_iff_toList_perm.mp hp.pm).mem_iff.mp hi
  have:i < vs.length:=by simpa using this
  rw [List.length_map];omega
 have rv:=hv.pick p.toList hin
 have ev:(p.toList.map fun i=>(ns.map V.int).getD i V.non)=(p.toList.map fun i=>ns.getD i 0).map V.int:=by
  rw [List.map_map]
  refine List.map_congr_left fun i hi=>?_
  have:=hin i hi
  rw [List.length_map] at this
  simp [this]
 rw [ev] at rv
 refine ⟨.ref l,_,I.laid (t':=tk) (o:=.lst ((p.toList.map fun i=>ns.getD i 0).map V.int)) (fun b o eb=>g b o eb) hz ⟨by rw [List.length_map,List.length_map,Array.length_toList,hp.sz,sizeLine_eq];omega,_,e,rv,hl⟩,rfl,q _ _ z1 z2 (I.hok.fresh hz)⟩
end
end L2
namespace L2
open PySem PySem.Spec PyProof.Rows
abbrev Tk:=List Int
def tkRow (a b:Int):List (Option Int):=[some a,some b]
structure IsTk (K:PySem.W.Frag) (H:Hp) (a:Addr) (k:Tk):Prop where
 ex:(∃ x y,k=[x,y]∧SqT K H a [.int x,.int y])∨(∃ x y z w b,k=[x,y,z,w]∧SqT K H a [.int x,.int y,.ref b]∧SqT K H b [.int z,.int w])
theorem IsTk.same {K:PySem.W.Frag} {H H':Hp} {a:Addr} {s:Tk} (h:IsTk K H a s) (e:Same H H'):IsTk K H' a s:=by
 rcases h.ex with ⟨x,y,h1,h2⟩ | ⟨x,y,z,w,b,h1,h2,h3⟩
 ·exact ⟨.inl ⟨x,y,h1,e.tup h2⟩⟩
 ·exact ⟨.inr ⟨x,y,z,w,b,h1,e.tup h2,e.tup h3⟩⟩
theorem IsTk.kept {K:PySem.W.Frag} {H H':Hp} {a:Addr} {s:Tk} (h:IsTk K H a s) (e:Kept H H'):IsTk K H' a s:=by
 rcases h.ex with ⟨x,y,h1,h2⟩ | ⟨x,y,z,w,b,h1,h2,h3⟩
 ·exact ⟨.inl ⟨x,y,h1,e.tup h2⟩⟩
 ·exact ⟨.inr ⟨x,y,z,w,b,h1,e.tup h2,e.tup h3⟩⟩
def IsTkH (h:Heap) (k:Tk) (a:Addr):Prop:=(∃ x y,k=[x,y]∧IsRowH h (tkRow x y) a)∨(∃ x y z w b t t',k=[x,y,z,w]∧h.IsTuple a #[.int x t,.int y t',.ref b]∧IsRowH h (tkRow z w) b)
def tkHash:Tk→Int
 | [x,y]=>rowHash (tkRow x y)
 | [x,y,z,w]=>reduceHash (Builtin.Tuple.tupleHashOf [hashInt x,hashInt y,rowHash (tkRow z w)])
 | _=>0
def tkDraws:Tk→Nat
 | [_,_]=>3
 | _=>6
theorem row_ints {h:Heap} {x y:Int} {a:Addr} (r:IsRowH h (tkRow x y) a):∃ t u,h.IsTuple a #[.int x t,.int y u]:=by
 obtain ⟨its,r,ht⟩:=r
 cases r with
 | cons r1 r =>
  cases r with
  | cons r2 r =>
   cases r
   obtain ⟨t,rfl⟩:=(show ∃ t,_=Value.int x t from r1)
   obtain ⟨u,rfl⟩:=(show ∃ t,_=Value.int y t from r2)
   exact ⟨t,u,ht⟩
theorem IsTkH.inj {h:Heap} {a:Addr} {x y:Tk} (hx:IsTkH h x a) (hy:IsTkH h y a):x=y:=by
 rcases hx with ⟨p,q,rfl,r⟩ | ⟨p,q,z,w,b,t,t',rfl,r,r2⟩
 ·rcases hy with ⟨p',q',rfl,r'⟩ | ⟨p',q',z',w',b',u,u',rfl,r',r2'⟩
  ·have:=r.inj r'
   simp only [tkRow,List.cons.injEq,Option.some.injEq,and_true] at this
   rw [this.1,this.2]
  ·obtain ⟨t,u2,ht⟩:=row_ints r
   exact absurd (congrArg Array.size (tup_inj ht r')) (by show ¬ ((2:Nat)=3);decide)
 ·rcases hy with ⟨p',q',rfl,r'⟩ | ⟨p',q',z',w',b',u,u',rfl,r',r2'⟩
  ·obtain ⟨t2,u2,ht⟩:=row_ints r'
   exact absurd (congrArg Array.size (tup_inj ht r)) (by show ¬ ((2:Nat)=3);decide)
  ·have e:=tup_inj r r'
   simp only [Array.mk.injEq,List.cons.injEq,Value.int.injEq,Value.ref.injEq,and_true] at e
   obtain ⟨⟨rfl,_⟩,⟨rfl,_⟩,rfl⟩:=e
   have:=r2.inj r2'
   simp only [tkRow,List.cons.injEq,Option.some.injEq,and_true] at this
   rw [this.1,this.2]
section
variable {prog:Program} {w:World} {A:Around} {E:Value→Shared→Prop} {s:Shared}
theorem pyHash_tk {x:Tk} {a:Addr} {Q:Int→Shared→Prop} (hu:A.units+1 < cLine) (hx:IsTkH s.heap x a) (h:Q (tkHash x) { s with toks:=s.toks+tkDraws x }):wpAny (model prog w) A (pyHash (.ref a)) Q E s:=by
 rcases hx with ⟨p,q,rfl,r⟩ | ⟨p,q,z,ww,b,t,t',rfl,r,r2⟩
 ·exact pyHash_row (by omega) r h
 ·refine pyHash_items (all:=[(.int p t,hashInt p,1),(.int q t',hashInt q,1),(.ref b,rowHash (tkRow z ww),3)]) (by omega) r (fun y hy tk Q' hq=>?_) h
  simp only [List.mem_cons,List.not_mem_nil,or_false] at hy
  rcases hy with rfl | rfl | rfl
  ·exact wpAny_pyHash_int hq
  ·exact wpAny_pyHash_int hq
  ·exact pyHash_row (by show A.units+1 < cLine;exact hu) r2 hq
theorem tkAt {x y:Tk} {a b:Addr} (hu:A.units+1 < cLine) (hx:IsTkH s.heap x a) (hy:IsTkH s.heap y b):SeqAt.EqAt A s (.ref a) (.ref b) (decide (x=y)):=by
 by_cases hab:a=b
 ·subst hab
  rw [decide_eq_true (hx.inj hy)]
  exact SeqAt.EqAt.same _
 ·rcases hx with ⟨p,q,rfl,r⟩ | ⟨p,q,z,ww,c,t,t',rfl,r,r2⟩
  ·rcases hy with ⟨p',q',rfl,r'⟩ | ⟨p',q',z',w',c',u,u',rfl,r',r2'⟩
   ·have:=rowAt (A:=A) (by omega) r r'
    have e:decide (tkRow p q=tkRow p' q')=decide ([p,q]=[p',q']):=by simp [tkRow]
    rw [e] at this
    exact this
   ·obtain ⟨t,t2,ht⟩:=row_ints r
    refine SeqAt.EqAt.of_refs hab ?_
    have z:=SeqAt.RcAt.tuples (A:=A) (s:=s) (e:=fun j=>if j=0 then (p == p') else (q == q')) ht r' (by omega) fun j h1 h2=>?_
    ·have e:((List.range (min (#[Value.int p t,Value.int q t2]:Array Value).size (#[Value.int p' u,Value.int q' u',Value.ref c']:Array Value).size)).all (fun j=>if j=0 then (p == p') else (q == q')) && (#[Value.int p t,Value.int q t2]:Array Value).size == (#[Value.int p' u,Value.int q' u',Value.ref c']:Array Value).size)=decide ([p,q]=[p',q',z',w']):=by
      rw [decide_eq_false (by simp)]
      have e2:((#[Value.int p t,Value.int q t2]:Array Value).size == (#[Value.int p' u,Value.int q' u',Value.ref c']:Array Value).size)=false:=rfl
      rw [e2,Bool.and_false]
     exact e ▸ z
    ·match j,h1,h2 with
     | 0,_,_=>exact SeqAt.EqAt.int_int _ _ _ _
     | 1,_,_=>exact SeqAt.EqAt.int_int _ _ _ _
     | j+2,h1,_=>exact absurd h1 (by show ¬ (j+2 < 2);omega)
  ·rcases hy with ⟨p',q',rfl,r'⟩ | ⟨p',q',z',w',c',u,u',rfl,r',r2'⟩
   ·obtain ⟨t3,t4,ht⟩:=row_ints r'
    refine SeqAt.EqAt.of_refs hab ?_
    have zz:=SeqAt.RcAt.tuples (A:=A) (s:=s) (e:=fun j=>if j=0 then (p == p') else (q == q')) r ht (by omega) fun j h1 h2=>?_
    ·have e:((List.range (min (#[Value.int p t,Value.int q t',Value.ref c]:Array Value).size (#[Value.int p' t3,Value.int q' t4]:Array Value).size)).all (fun j=>if j=0 then (p == p') else (q == q')) && (#[Value.int p t,Value.int q t',Value.ref c]:Array Value).size == (#[Value.int p' t3,Value.int q' t4]:Array Value).size)=decide ([p,q,z,ww]=[p',q']):=by
      rw [decide_eq_false (by simp)]
      have e2:((#[Value.int p t,Value.int q t',Value.ref c]:Array Value).size == (#[Value.int p' t3,Value.int q' t4]:Array Value).size)=false:=rfl
      rw [e2,Bool.and_false]
     exact e ▸ zz
    ·match j,h1,h2 with
     | 0,_,_=>exact SeqAt.EqAt.int_int _ _ _ _
     | 1,_,_=>exact SeqAt.EqAt.int_int _ _ _ _
     | j+2,_,h2=>exact absurd h2 (by show ¬ (j+2 < 2);omega)
   ·refine SeqAt.EqAt.of_refs hab ?_
    have zz:=SeqAt.RcAt.tuples (A:=A) (s:=s) (e:=fun j=>if j=0 then (p == p') else if j=1 then (q == q') else decide (tkRow z ww=tkRow z' w')) r r' (by omega) fun j h1 h2=>?_
    ·have e:((List.range (min 3 3)).all (fun j=>if j=0 then (p == p') else if j=1 then (q == q') else decide (tkRow z ww=tkRow z' w')) && ((3:Nat) == 3))=decide ([p,q,z,ww]=[p',q',z',w']):=by
      have e3:List.range (min 3 3)=[0,1,2]:=rfl
      rw [e3,Bool.eq_iff_iff]
      simp [tkRow]
     exact e ▸ zz
    ·match j,h1,h2 with
     | 0,_,_=>exact SeqAt.EqAt.int_int _ _ _ _
     | 1,_,_=>exact SeqAt.EqAt.int_int _ _ _ _
     | 2,_,_=>exact rowAt (by show A.units+1 < cLine;exact hu) r2 r2'
     | j+3,h1,_=>exact absurd h1 (by show ¬ (j+3 < 3);omega)
theorem quiet_tk {x:Tk} {a:Addr} {Q:Bool→Shared→Prop} (hx:IsTkH s.heap x a) (h:Q true s):wpAny (model prog w) A (eqIsQuiet 8 (.ref a)) Q E s:=by
 rcases hx with ⟨p,q,rfl,r⟩ | ⟨p,q,z,ww,b,t,t',rfl,r,r2⟩
 ·exact quiet_row 7 r h
 ·refine quiet_items 7 r (fun v hv Q' hq=>?_) h
  simp only [List.mem_cons,List.not_mem_nil,or_false] at hv
  rcases hv with rfl | rfl | rfl
  ·rw [eqIsQuiet_byValue _ rfl];exact wpAny_pure hq
  ·rw [eqIsQuiet_byValue _ rfl];exact wpAny_pure hq
  ·exact quiet_row 6 r2 hq
end
def tkKind (prog:Program) (w:World):HeapKind prog w Tk where
 is:=IsTkH
 hash:=tkHash
 draws:=tkDraws
 room:=fun A=>A.units+1 < cLine
 inj:=fun hx hy=>hx.inj hy
 keeps:=fun {h h' k a d o es ep} hx ho hd hs=>by
  rcases hx with ⟨p,q,rfl,⟨i1,r1,p1⟩⟩ | ⟨p,q,z,ww,b,t,t',rfl,r,⟨i1,r1,p1⟩⟩
  ·exact .inl ⟨p,q,rfl,i1,r1,tup_keep p1 ho hd hs⟩
  ·exact .inr ⟨p,q,z,ww,b,t,t',rfl,tup_keep r ho hd hs,i1,r1,tup_keep p1 ho hd hs⟩
 pyHash:=fun hu hk h=>pyHash_tk hu hk h
 eqBool:=fun hu hx hy h=>tkAt hu hx hy _ _ _ _ h
 quiet:=fun hk h=>quiet_tk hk h
end L2
namespace L2
open PySem PySem.Spec PyProof.Rows
abbrev TX:=List (Tk × Addr × V)
def tkEntry (q:Tk × Addr × Value):DictEntry:=⟨tkHash q.1,.ref q.2.1,q.2.2⟩
abbrev Q3:TX→List (Tk × Addr × Value)→Prop:=Paired fun p q=>p.1=q.1∧p.2.1=q.2.1∧RelV p.2.2 q.2.2
def DKφ (a:Addr) (xs:TX) (h:Heap):Prop:=xs.length≤sizeLine∧(a == sysModules)=false∧(xs.map (·.1)).Nodup∧∃ vs:List (Tk × Addr × Value),Q3 xs vs∧∃ o es ep,h.get? a=some o∧o.ExactDict∧o.data=.dict es ep∧es.toList=vs.map tkEntry
def DKt (a:Addr) (xs:TX):HO:=.ext (DKφ a xs)
def valT (xs:TX) (k:Tk):Option V:=(xs.find? fun x=>decide (x.1=k)).map (·.2.2)
def putT (xs:TX) (k:Tk) (b:Addr) (v:V):TX:=if (valT xs k).isSome then xs.map (fun x=>if x.1=k then (x.1,x.2.1,v) else x) else xs ++ [(k,b,v)]
theorem valT_isSome (xs:TX) (k:Tk):(valT xs k).isSome=decide (k ∈ xs.map (·.1)):=by
 unfold valT
 rw [Option.isSome_map,Bool.eq_iff_iff,decide_eq_true_iff,List.find?_isSome]
 simp only [decide_eq_true_eq,List.mem_map]
theorem putT_new {xs:TX} {k:Tk} {b:Addr} {v:V} (h:k ∉ xs.map (·.1)):putT xs k b v=xs ++ [(k,b,v)]:=by
 unfold putT
 rw [valT_isSome,decide_eq_false h]
 rfl
theorem putT_keys_old {xs:TX} {k:Tk} {b:Addr} {v:V} (h:k ∈ xs.map (·.1)):(putT xs k b v).map (·.1)=xs.map (·.1):=by
 unfold putT
 rw [valT_isSome,decide_eq_true h,if_pos rfl,List.map_map]
 apply List.map_congr_left
 intro x _
 show (if x.1=k then (x.1,x.2.1,v) else x).1=x.1
 split <;> rfl
theorem putT_len (xs:TX) (k:Tk) (b:Addr) (v:V):(putT xs k b v).length≤xs.length+1:=by
 unfold putT
 split
 ·rw [List.length_map];omega
 ·simp
theorem putT_nodup {xs:TX} (hn:(xs.map (·.1)).Nodup) (k:Tk) (b:Addr) (v:V):((putT xs k b v).map (·.1)).Nodup:=by
 by_cases h:k ∈ xs.map (·.1)
 ·rw [putT_keys_old h];exact hn
 ·rw [putT_new h,List.map_append]
  exact nd_snoc hn h
theorem Q3.val {xs:TX} {vs:List (Tk × Addr × Value)} (r:Q3 xs vs) (k:Tk):RelO (valT xs k) ((atKey vs k).map (·.2)):=by
 induction r with
 | nil=>exact True.intro
 | @cons p q ps qs h t ih =>
  obtain ⟨h1,_,h2⟩:=h
  by_cases e:p.1=k
  ·have e':q.1=k:=h1.symm.trans e
   have b:atKey (q :: qs) k=some q.2:=by simp [atKey,List.find?_cons,e']
   have b':valT (p :: ps) k=some p.2.2:=by simp [valT,List.find?_cons,e]
   rw [b',b];exact h2
  ·have e':¬ q.1=k:=fun z=>e (h1.trans z)
   have b:atKey (q :: qs) k=atKey qs k:=by simp [atKey,List.find?_cons,e']
   have b':valT (p :: ps) k=valT ps k:=by simp [valT,List.find?_cons,e]
   rw [b',b];exact ih
theorem Q3.repl {xs:TX} {vs:List (Tk × Addr × Value)} (r:Q3 xs vs) (k:Tk) {y:V} {u:Value} (ry:RelV y u) :
  Q3 (xs.map fun x=>if x.1=k then (x.1,x.2.1,y) else x) (vs.map (putAt k u)):=by
 induction r with
 | nil=>exact .nil
 | @cons p q ps qs h t ih =>
  rw [List.map_cons,List.map_cons]
  refine .cons ?_ ih
  obtain ⟨h1,h2,h3⟩:=h
  unfold putAt
  by_cases e:p.1=k
  ·rw [if_pos e,if_pos (h1.symm.trans e)];exact ⟨h1,h2,ry⟩
  ·rw [if_neg e,if_neg (fun z=>e (h1.trans z))];exact ⟨h1,h2,h3⟩
theorem Q3.put {xs:TX} {vs:List (Tk × Addr × Value)} (r:Q3 xs vs) (k:Tk) (b:Addr) {y:V} {u:Value} (ry:RelV y u):Q3 (putT xs k b y) (storedH vs k b u):=by
 have e:(valT xs k).isSome=(atKey vs k).isSome:=by rw [(r.val k).isSome_eq,Option.isSome_map]
 unfold putT storedH
 rw [e]
 by_cases q:(atKey vs k).isSome=true
 ·rw [if_pos q,if_pos q];exact r.repl k ry
 ·rw [if_neg q,if_neg q];exact Paired.snoc r ⟨rfl,rfl,ry⟩
theorem Q3.keys {xs:TX} {vs:List (Tk × Addr × Value)} (r:Q3 xs vs):xs.map (·.1)=vs.map (·.1):=by
 induction r with
 | nil=>rfl
 | cons h t ih=>rw [List.map_cons,List.map_cons,ih,h.1]
def dzO (d:Addr) (es:Array DictEntry) (ep:Nat):HO:=.ext (DRaw d es ep)
def DzOk (d:Addr) (xs:TX) (u:HO):Prop:=xs.length≤sizeLine∧(d == sysModules)=false∧(xs.map (·.1)).Nodup∧∃ (vs:List (Tk × Addr × Value)) (es:Array DictEntry) (ep:Nat),Q3 xs vs∧es.toList=vs.map tkEntry∧u=dzO d es ep
structure TD (K:PySem.W.Frag) (H:Hp) (a:Addr) (xs:TX):Prop where
 at_:H a=some (DKt a xs)∨∃ u,H a=some u∧DzOk a xs u
 keys:∀ p ∈ xs,IsTk K H p.2.1 p.1
section
variable {X:Cx} {pins:List (Addr × Obj)} {σ:St} {H:Hp} {s:Shared} {a:Addr} {xs:TX} {A:Around} {E:Value→Shared→Prop}
theorem tk_h (I:Inv X pins σ H s) {b:Addr} {k:Tk} (h:IsTk X.K H b k):IsTkH s.heap k b:=by
 rcases h.ex with ⟨x,y,e,h1⟩ | ⟨x,y,z,w,p,e,h1,h2⟩
 ·exact .inl ⟨x,y,e,row_h I h1⟩
 ·obtain ⟨its,r,ht,_⟩:=I.tuple h1
  cases r with
  | cons r1 r =>
   cases r with
   | cons r2 r =>
    cases r with
    | cons r3 r =>
     cases r
     obtain ⟨t,rfl⟩:=r1
     obtain ⟨t',rfl⟩:=r2
     cases r3
     exact .inr ⟨x,y,z,w,p,t,t',e,ht,row_h I h2⟩
theorem TD.raw (I:Inv X pins σ H s) (d:H a=some (DKt a xs)):DKφ a xs s.heap:=(I.hok a _ d).1
theorem TD.either (I:Inv X pins σ H s) (d:H a=some (DKt a xs)∨∃ u,H a=some u∧DzOk a xs u):DKφ a xs s.heap:=by
 rcases d with d | ⟨u,d,z,hd,hn,vs,es,ep,r,h4,rfl⟩
 ·exact TD.raw I d
 ·obtain ⟨o,h1,h2,h3⟩:=(show ObjOk X.prog X.w H s.heap a (dzO a es ep) from I.hok a _ d).1
  exact ⟨z,hd,hn,vs,r,o,es,ep,h1,h2,h3,h4⟩
theorem TD.dict (I:Inv X pins σ H s) (d:TD X.K H a xs):xs.length≤sizeLine∧(a == sysModules)=false∧(xs.map (·.1)).Nodup∧∃ vs,Q3 xs vs∧s.heap.DictOfH (tkKind X.prog X.w) a vs:=by
 obtain ⟨z,hd,hn,vs,r,o,es,ep,h1,h2,h3,h4⟩:=TD.either I d.at_
 refine ⟨z,hd,hn,vs,r,o,es,ep,h1,h2,h3,h4,?_,by rw [← r.keys];exact hn⟩
 have all:∀ {l:TX} {m:List (Tk × Addr × Value)},Q3 l m→(∀ p ∈ l,IsTk X.K H p.2.1 p.1)→∀ x ∈ m,(tkKind X.prog X.w).is s.heap x.1 x.2.1:=by
  intro l m q
  induction q with
  | nil=>intro _ x hx;exact nomatch hx
  | @cons p q ps qs hq t ih =>
   intro hl x hx
   rcases List.mem_cons.mp hx with e | hx
   ·subst e
    rw [← hq.1,← hq.2.1]
    exact tk_h I (hl p List.mem_cons_self)
   ·exact ih (fun p hp=>hl p (List.mem_cons_of_mem _ hp)) x hx
 exact all r d.keys
theorem dt_ok {P:Program} {w:World} {H':Hp} {h':Heap} (z:xs.length≤sizeLine) (hd:(a == sysModules)=false) (hn:(xs.map (·.1)).Nodup) {vs:List (Tk × Addr × Value)} (r:Q3 xs vs) {o:Obj} {es:Array DictEntry} {ep:Nat}
  (h1:h'.get? a=some o) (h2:o.ExactDict) (h3:o.data=.dict es ep) (h4:es.toList=vs.map tkEntry):ObjOk P w H' h' a (DKt a xs) :=
 ⟨⟨z,hd,hn,vs,r,o,es,ep,h1,h2,h3,h4⟩,⟨o,h1⟩,fun g1 g2 ⟨z,hd,hn,vs,r,o,es,ep,h1,h2,h3,h4⟩ k=>⟨z,hd,hn,vs,r,o,es,ep,k o h1,h2,h3,h4⟩⟩
theorem dt_mut:Mut (some (DKt a xs)):=True.intro
theorem t_setItem {b:Addr} {k:Tk} {v:V} {r:Value} {Q:Unit→Shared→Prop} (hu:A.units+2 < cLine) (I:Inv X pins σ H s) (d:TD X.K H a xs) (da:H a=some (DKt a xs)) (hb:IsTk X.K H b k) (hl:xs.length < sizeLine) (rv:RelV v r)
  (h:∀ s',Inv X pins σ (upd H a (DKt a (putT xs k b v))) s'→Q () s'):wpAny (model X.prog X.w) A (setItem (.ref a) (.ref b) r) Q E s:=by
 obtain ⟨z,hd,hn,vs,rel,dd⟩:=d.dict I
 have hz:vs.length≤sizeLine:=by rw [← Paired.length rel];exact z
 refine wpAny_setItem_heap (hsz:=hz) (show A.in1.units+1 < cLine from by show A.units+1+1 < cLine;omega) (tk_h I hb) dd fun h' dd' hs=>h _ ?_
 obtain ⟨q,es,ep,hq,h2,h3,h4,_,h5⟩:=dd'
 refine d_write I (by rw [da];exact dt_mut) hs ⟨q,hq⟩ (dt_ok (by have:=putT_len xs k b v;omega) hd (putT_nodup hn k b v) (rel.put k b rv) hq h2 h3 h4)
end
def rTGet (K:PySem.W.Frag):R2:=fun x y H Q=>∃ a b xs k v,x=.ref a∧y=.ref b∧TD K H a xs∧IsTk K H b k∧valT xs k=some v∧Q v H
def rTIn (K:PySem.W.Frag) (neg:Bool):R2:=fun x y H Q=>∃ a b xs k,x=.ref b∧y=.ref a∧TD K H a xs∧IsTk K H b k∧Q (.bl (if neg then !decide (k ∈ xs.map (·.1)) else decide (k ∈ xs.map (·.1)))) H
section
variable {X:Cx}
theorem op_inTk (K:PySem.W.Frag) (hu:X.A.units+16 < cLine) (hK:X.K=K:=by rfl):OpR X (compareOp .In) (rTIn K false):=by
 subst hK
 intro pins s σ H x y v u Q I rx ry h
 obtain ⟨a,b,xs,k,rfl,rfl,d,hb,q⟩:=h
 cases rx
 cases ry
 obtain ⟨z,hd,hn,vs,rel,dd⟩:=d.dict I
 refine wpAny_in_heap (show X.A.in1.units+1 < cLine from by show X.A.units+1+1 < cLine;omega) (tk_h I hb) hd dd ?_
 have e:=(rel.val k).isSome_eq
 rw [Option.isSome_map] at e
 rw [← e,valT_isSome]
 exact ⟨.bl _,H,I.tok _,rfl,q⟩
theorem op_notInTk (K:PySem.W.Frag) (hu:X.A.units+16 < cLine) (hK:X.K=K:=by rfl):OpR X (compareOp .NotIn) (rTIn K true):=by
 subst hK
 intro pins s σ H x y v u Q I rx ry h
 obtain ⟨a,b,xs,k,rfl,rfl,d,hb,q⟩:=h
 cases rx
 cases ry
 obtain ⟨z,hd,hn,vs,rel,dd⟩:=d.dict I
 refine wpAny_notIn_heap (show X.A.in1.units+1 < cLine from by show X.A.units+1+1 < cLine;omega) (tk_h I hb) hd dd ?_
 have e:=(rel.val k).isSome_eq
 rw [Option.isSome_map] at e
 rw [← e,valT_isSome]
 exact ⟨.bl _,H,I.tok _,rfl,q⟩
variable {o i value:Expr} {pos pos':Pos} {td ty tv:TE}
theorem pe_tget (K:PySem.W.Frag) (hu:X.A.units+16 < cLine) (ho:PE X o td) (hi:PE X i ty) (hs:NoSl i) (hK:X.K=K:=by rfl):PE X (.Subscript o i pos) (tOp (rTGet K) td ty):=by
 subst hK
 intro pins s σ H Q I h
 refine subD_of PySem.F.slot_dict_getitem.lookup hs (thn (ho pins s σ H _ I h) fun u s1 ⟨x,H1,I1,rx,q1⟩=>thn (hi pins s1 σ H1 _ I1 q1) fun iv s2 ⟨y,H2,I2,ry,a,b,xs,k,v,ex,ey,d,hb,hv,q2⟩=>?_)
 subst ex
 subst ey
 cases rx
 cases ry
 obtain ⟨z,hd,hn,vs,rel,dd⟩:=d.dict I2
 obtain ⟨w',hw,rw'⟩:=RelO.some_of (v:=v) (o:=(atKey vs k).map (·.2)) (by rw [← hv];exact rel.val k)
 obtain ⟨p,hp,hp2⟩:=Option.map_eq_some_iff.mp hw
 refine ⟨dd.typeIs,wpAny_getItem_heap (show X.A.in1.units+1 < cLine from by show X.A.units+1+1 < cLine;omega) (tk_h I2 hb) dd hp ?_⟩
 rw [hp2]
 exact ⟨v,H2,I2.tok _,rw',q2⟩
def sTPut (K:PySem.W.Frag) (td ty tv:TE):TS:=fun D σ H=>tv σ H fun v H1=>td σ H1 fun x H2=>ty σ H2 fun y H3=>∃ a b xs k,x=.ref a∧y=.ref b∧TD K H3 a xs∧H3 a=some (DKt a xs)∧IsTk K H3 b k∧xs.length < sizeLine∧D.nx σ (upd H3 a (DKt a (putT xs k b v)))
theorem ps_tput (K:PySem.W.Frag) (hu:X.A.units+16 < cLine) (ho:PE X o td) (hi:PE X i ty) (hv:PE X value tv) (hs:swapsWith value (some (.Subscript o i pos')) pos.line X.env=pure false) (hK:X.K=K:=by rfl) :
  PS X (.Assign [.Subscript o i pos'] value pos) (sTPut K td ty tv):=by
 subst hK
 intro pins s σ H D I h
 refine wpAny_Assign_Subscript (thn (hv pins s σ H _ I h) fun r s1 ⟨v,H1,I1,rv,q1⟩=>thn (ho pins s1 σ H1 _ I1 q1) fun u s2 ⟨x,H2,I2,rx,q2⟩=>thn (hi pins s2 σ H2 _ I2 q2) fun iv s3 ⟨y,H3,I3,ry,a,b,xs,k,ex,ey,d,da,hb,hl,q3⟩=>?_) hs
 subst ex
 subst ey
 cases rx
 cases ry
 exact t_setItem (by omega) I3 d da hb hl rv fun s4 I4=>⟨σ,_,I4,q3⟩
def tTNew:TE:=fun _ H Q=>∀ p,H p=none→Q (.ref p) (upd H p (DKt p []))
theorem dkt_empty {P:Program} {w:World} {H:Hp} (h:Heap) (hb:sysModules < h.objs.size):ObjOk P w H (h.push { cls:=.type "dict",data:=.dict #[] }) h.objs.size (DKt h.objs.size []) :=
 dt_ok (Nat.zero_le _) (beq_eq_false_iff_ne.mpr (Ne.symm (Nat.ne_of_lt hb))) List.nodup_nil .nil (Heap.get?_push_size _ rfl) ⟨rfl,rfl,rfl⟩ (ep:=0) rfl rfl
theorem pe_tnew:PE X (.Dict [] [] pos) tTNew:=fun pins s σ H Q I h =>
 wpAny_Dict_empty ⟨.ref s.heap.objs.size,_,I.laid (a:=s.heap.objs.size) (o:=DKt s.heap.objs.size []) (t':=s.toks) (fun _ _ q=>Heap.get?_push_of_some _ q) (Nat.le_refl _) (dkt_empty s.heap I.big),rfl,h _ (I.hok.fresh (Nat.le_refl _))⟩
end
end L2
namespace L2
open PySem PySem.Spec PyProof.Rows
def ItTk (d:Addr) (u:HO) (xs:TX):It where
 go:=fun i H=>H d=some u∧i < xs.length
 yld:=fun i H x H'=>H'=H∧∃ p,xs[i]?=some p∧x=.ref p.2.1
 stop:=fun i H=>H d=some u∧xs.length≤i
theorem Q3.addrs {xs:TX} {vs:List (Tk × Addr × Value)} (r:Q3 xs vs):Vals (xs.map fun p=>V.ref p.2.1) (vs.map fun q=>Value.ref q.2.1):=by
 induction r with
 | nil=>exact .nil
 | @cons p q ps qs h t ih =>
  refine .cons ?_ ih
  show Value.ref q.2.1=Value.ref p.2.1
  rw [h.2.1]
theorem turn_dictTk {P:Program} {w:World} {K:PySem.W.Frag} {tg:Expr} {d it:Addr} {xs:TX} {vs:List (Tk × Addr × Value)} {es:Array DictEntry} {ep:Nat} (r:Q3 xs vs) (he:es.toList=vs.map tkEntry) :
  Turn P w K tg (ItTk d (dzO d es ep) xs) [it] it (fun i h=>h.IsKeyIter it d i es.size ep) where
 mem:=by simp
 obj:=fun i h st b hb=>by
  have e:b=it:=by simpa using hb
  subst e
  obtain ⟨o,e,c,dd⟩:=st
  exact ⟨o,e,fun v z=>by rw [dd] at z;cases z⟩
 keep:=fun i h h' st k=>st.at fun o e=>k it (by simp) o e
 item:=by
  intro X hP hw hK hc i pins s σ H E I hf st hg
  subst hP hw hK
  obtain ⟨hd,hi⟩:=hg
  have hm:DRaw d es ep s.heap:=(show ObjOk X.prog X.w H s.heap d (dzO d es ep) from I.hok d _ hd).1
  have hl:es.size=xs.length:=by
   have:=congrArg List.length he
   simp only [Array.length_toList,List.length_map] at this
   rw [this,← Paired.length r]
  obtain ⟨f0,f1,f2,f3,f4,f5⟩:=hf it (by simp)
  have hi':i < es.size:=by omega
  refine next_raw st hm hi' fun h' st' sb=>?_
  have I1:Inv X pins σ H { s with heap:=h' }:=I.turned (t':=s.toks) (fun b o hb e=>sb.extBut b o hb e) f0 f1 f3 f4 f5
  obtain ⟨o,e,c,dd⟩:=id st'
  have ex:xs[i]?=some xs[i]:=by simp [hi]
  obtain ⟨p,hp⟩:∃ p,xs[i]=p:=⟨_,rfl⟩
  rw [hp] at ex
  obtain ⟨u,hu,ru⟩:=(Q3.addrs r).get (i:=i) (x:=V.ref p.2.1) (by rw [List.getElem?_map,ex];rfl)
  have ek:es[i].key=u:=by
   have e2:es.toList[i]?=some es[i]:=by simp [hi']
   rw [he,List.getElem?_map] at e2
   rw [List.getElem?_map] at hu
   cases ew:vs[i]? with
   | none=>rw [ew] at e2;cases e2
   | some q =>
    rw [ew] at e2 hu
    rw [← Option.some.inj e2,← Option.some.inj hu]
    rfl
  exact ⟨es[i].key,rfl,go_of (s:={ s with heap:=h' }) e c dd (by decide) ⟨.ref p.2.1,H,I1,by rw [ek];exact ru,⟨rfl,p,ex,rfl⟩,st',fun b hb=>(hf b hb).1⟩⟩
 done:=by
  intro X hP hw hK hc i pins s σ H E I hf st hg
  subst hP hw hK
  obtain ⟨hd,hi⟩:=hg
  have hm:DRaw d es ep s.heap:=(show ObjOk X.prog X.w H s.heap d (dzO d es ep) from I.hok d _ hd).1
  have hl:es.size=xs.length:=by
   have:=congrArg List.length he
   simp only [Array.length_toList,List.length_map] at this
   rw [this,← Paired.length r]
  obtain ⟨f0,f1,f2,f3,f4,f5⟩:=hf it (by simp)
  exact end_raw (I.ok.hd hc) st hm (by omega) fun h' eb=>⟨rfl,I.turned (t':=s.toks) (fun b o hb e=>eb b o hb e) f0 f1 f3 f4 f5⟩
 self:=fun _ _ _ _ _ st h=>wpAny_pyIter_keyiter st h
section
variable {X:Cx}
theorem Inv.freezeTk {pins:List (Addr × Obj)} {σ:St} {H:Hp} {s:Shared} {d:Addr} {xs:TX} (I:Inv X pins σ H s) (hd:H d=some (DKt d xs)) :
  ∃ vs es ep,Q3 xs vs∧es.toList=vs.map tkEntry∧xs.length≤sizeLine∧(d == sysModules)=false∧(xs.map (·.1)).Nodup∧DRaw d es ep s.heap∧Inv X pins σ (upd H d (dzO d es ep)) s:=by
 obtain ⟨z,hs,hn,vs,r,o,es,ep,h1,h2,h3,h4⟩:=TD.raw I hd
 have hm:DRaw d es ep s.heap:=⟨o,h1,h2,h3⟩
 refine ⟨vs,es,ep,r,h4,z,hs,hn,hm,?_⟩
 exact I.write (x:=d) (e:=d) (h':=s.heap) (t':=s.toks) (by rw [hd];exact True.intro) (.inl rfl) (fun _ _ _ q=>q) ⟨o,h1⟩ ⟨hm,⟨o,h1⟩,fun g1 g2 x k=>x.at_ k⟩
theorem Inv.thawTk {pins:List (Addr × Obj)} {σ:St} {H:Hp} {s:Shared} {d:Addr} {xs:TX} {u:HO} (I:Inv X pins σ H s) (ok:DzOk d xs u) (hd:H d=some u):Inv X pins σ (upd H d (DKt d xs)) s:=by
 obtain ⟨z,hs,hn,vs,es,ep,r,h4,rfl⟩:=ok
 obtain ⟨o,h1,h2,h3⟩:=(show ObjOk X.prog X.w H s.heap d (dzO d es ep) from I.hok d _ hd).1
 exact I.write (x:=d) (e:=d) (h':=s.heap) (t':=s.toks) (by rw [hd];exact True.intro) (.inl rfl) (fun _ _ _ q=>q) ⟨o,h1⟩ (dt_ok z hs hn r h1 h2 h3 h4)
def iDictTk (td:TE):TI:=fun σ H R=>td σ H fun x H1=>∃ d xs,x=.ref d∧H1 d=some (DKt d xs)∧∀ u,DzOk d xs u→R (ItTk d u xs) (upd H1 d u)
theorem pi_dictTk {tg l:Expr} {td:TE} (hl:PE X l td):PI X tg l (iDictTk td):=by
 intro pins s σ H R I h
 refine thn (hl pins s σ H _ I h) fun v s1 ⟨x,H1,I1,r1,q1⟩=>?_
 obtain ⟨d,xs,rfl,hd,q⟩:=q1
 cases r1
 obtain ⟨vs,es,ep,rel,he,z,hs,hn,hm,I2⟩:=I1.freezeTk hd
 refine iter_raw hs hm ?_
 refine ⟨s1.heap.objs.size,[s1.heap.objs.size],_,_,_,rfl,I2.kept (t':=s1.toks) fun b o e=>Heap.get?_push_of_some _ e,turn_dictTk rel he,⟨_,Heap.get?_push_size _ rfl,rfl,rfl⟩,fun b hb=>?_,q _ ⟨z,hs,hn,vs,es,ep,rel,he,rfl⟩⟩
 have e:b=s1.heap.objs.size:=by simpa using hb
 subst e
 exact I2.fpOk (Nat.le_refl _) (I2.hok.fresh (Nat.le_refl _))
def sThawTk (t:TS):TS:=fun D σ H=>t { D with nx:=fun σ' H'=>∃ d xs u,DzOk d xs u∧H' d=some u∧D.nx σ' (upd H' d (DKt d xs)) } σ H
theorem ps_thawTk {st:Stmt} {t:TS} (h:PS X st t):PS X st (sThawTk t):=by
 intro pins s σ H D I q
 refine wpAny_mono (h pins s σ H _ I q) (fun f s' q=>?_) fun _ _ z=>z
 cases f with
 | next=>obtain ⟨σ',H',I',d,xs,u,ok,hd,q⟩:=q;exact ⟨σ',_,I'.thawTk ok hd,q⟩
 | brk=>exact q
 | cont=>exact q
 | ret u=>exact q
def tThawTk (t:TE):TE:=fun σ H Q=>t σ H fun x H'=>∃ d xs u,DzOk d xs u∧H' d=some u∧Q x (upd H' d (DKt d xs))
theorem pe_thawTk {e:Expr} {t:TE} (h:PE X e t):PE X e (tThawTk t):=by
 intro pins s σ H Q I q
 exact thn (h pins s σ H _ I q) fun v s1 ⟨x,H1,I1,r1,d,xs,u,ok,hd,q1⟩=>⟨x,_,I1.thawTk ok hd,r1,q1⟩
end
section
variable {g:TG} {tt:TT} {te:TE} {D:Addr} {σ:St} {H:Hp} {Q:VK}
theorem lc_dictTk {d:Addr} {u:HO} {xs:TX} (Pv:Nat→St→Hp→Prop) (h0:Pv 0 σ H) (hl:∀ i σ H,i≤xs.length→Pv i σ H→H d=some u)
  (hs:∀ (i:Nat) (p:Tk × Addr × V) (σ:St) (H:Hp) (N:St→Hp→Prop),(∀ σ H,Pv (i+1) σ H→N σ H)→xs[i]?=some p→Pv i σ H→g (.ref p.2.1) σ H fun σ3 H3=>tt σ3 H3 fun b H4 =>
   if b=true then te σ3 H4 fun v H5=>∃ ys,H5 D=some (.lst ys)∧ys.length < sizeLine∧N σ3 (upd H5 D (.lst (ys ++ [v]))) else N σ3 H4)
  (hd:∀ σ H,Pv xs.length σ H→Q (.ref D) H):lcRun (ItTk d u xs) g tt te D σ H Q:=by
 refine ⟨fun i m σ H=>m=xs.length - i∧i≤xs.length∧Pv i σ H,⟨xs.length,by simp,Nat.zero_le _,h0⟩,?_⟩
 rintro i m σ' H' ⟨rfl,hi,p⟩
 have q1:=hl i σ' H' hi p
 by_cases hlt:i < xs.length
 ·refine .inr ⟨⟨q1,hlt⟩,fun x H2 y=>?_⟩
  obtain ⟨rfl,k,ex,rfl⟩:=y
  exact hs i k σ' _ (fun σ3 H3=>∃ m',m' < xs.length - i∧m'=xs.length - (i+1)∧i+1≤xs.length∧Pv (i+1) σ3 H3) (fun σ3 H3 z=>⟨xs.length - (i+1),by omega,rfl,hlt,z⟩) ex p
 ·have e:i=xs.length:=by omega
  subst e
  exact .inl ⟨⟨q1,Nat.le_refl _⟩,hd σ' H' p⟩
theorem for_dictTk {d:Addr} {u:HO} {xs:TX} {tb:TS} {D:Ends} (Pv:Nat→St→Hp→Prop) (h0:Pv 0 σ H) (hl:∀ i σ H,i≤xs.length→Pv i σ H→H d=some u)
  (hs:∀ (i:Nat) (p:Tk × Addr × V) (σ:St) (H:Hp),xs[i]?=some p→Pv i σ H→g (.ref p.2.1) σ H fun σ2 H2=>tb { D with nx:=Pv (i+1),ct:=Pv (i+1),bk:=D.nx } σ2 H2) (hd:∀ σ H,Pv xs.length σ H→D.nx σ H) :
  ∃ W:Nat→Nat→St→Hp→Prop,(∃ m,W 0 m σ H)∧∀ i m σ H,W i m σ H →
   ((ItTk d u xs).stop i H∧D.nx σ H)∨((ItTk d u xs).go i H∧∃ N:St→Hp→Prop,(∀ σ' H',N σ' H'→∃ m',m' < m∧W (i+1) m' σ' H')∧∀ x H',(ItTk d u xs).yld i H x H'→g x σ H' fun σ2 H2=>tb { D with nx:=N,ct:=N,bk:=D.nx } σ2 H2):=by
 refine ⟨fun i m σ H=>m=xs.length - i∧i≤xs.length∧Pv i σ H,⟨xs.length,by simp,Nat.zero_le _,h0⟩,?_⟩
 rintro i m σ' H' ⟨rfl,hi,p⟩
 have q1:=hl i σ' H' hi p
 by_cases hlt:i < xs.length
 ·refine .inr ⟨⟨q1,hlt⟩,Pv (i+1),fun σ3 H3 z=>⟨xs.length - (i+1),by omega,rfl,hlt,z⟩,fun x H2 y=>?_⟩
  obtain ⟨rfl,k,ex,rfl⟩:=y
  exact hs i k σ' _ ex p
 ·have e:i=xs.length:=by omega
  subst e
  exact .inl ⟨⟨q1,Nat.le_refl _⟩,hd σ' H' p⟩
end
end L2
namespace L2
section
open PySem PySem.Spec PyProof.Rows
variable {X:Cx}
def tDGetX (P:Program) (w:World) (td ty:TE):TE:=fun σ H Q=>td σ H fun x H1=>ty σ H1 fun y H2=>∃ a kvs u k v,x=.ref a∧H2 a=some u∧DxOk P w a kvs u∧y=kV k∧valV kvs k=some v∧Q v H2
theorem pe_dgetX (P:Program) (w:World) {o i:Expr} {pos:Pos} {td ty:TE} (ho:PE X o td) (hi:PE X i ty) (hs:NoSl i) (hP:X.prog=P:=by rfl) (hw:X.w=w:=by rfl):PE X (.Subscript o i pos) (tDGetX P w td ty):=by
 subst hP hw
 intro pins s σ H Q I h
 refine subD_of PySem.F.slot_dict_getitem.lookup hs (thn (ho pins s σ H _ I h) fun u s1 ⟨x,H1,I1,rx,q1⟩=>thn (hi pins s1 σ H1 _ I1 q1) fun iv s2 ⟨y,H2,I2,ry,a,kvs,uo,k,v,ex,hu2,ok,ey,hv,q2⟩=>?_)
 subst ex ey
 obtain rfl:u=Value.ref a:=rx
 obtain ⟨z,hs',vs,ep,rel,rfl⟩:=ok
 have hm:s2.heap.DictAt (mixKind X.prog X.w) a vs ep:=(show ObjOk X.prog X.w H2 s2.heap a (dxO X.prog X.w a vs ep) from I2.hok a _ hu2).1
 obtain ⟨w',hw',rw'⟩:=RelO.some_of (v:=v) (o:=valueAt vs k) (by rw [← hv];exact rel.val k)
 exact ⟨hm.dictOf.typeIs,wpAny_getItem_of (kV_is ry) hm.dictOf.mapOf hw' ⟨v,H2,I2.tok _,rw',q2⟩⟩
end
end L2
namespace L2
open PySem PySem.Spec PyProof.Rows
theorem wpAny_alive {M:Model} {A:Around} {E:Value→Shared→Prop} {s:Shared} {a:Addr} {Q:Option Obj→Shared→Prop} (h:Q (s.heap.get? a) s):wpAny M A (loadIfAlive a) Q E s:=fun Γ p _=>by
 unfold loadIfAlive
 rw [Sem.wp_loadIfAlive]
 exact (Sem.wp_pure ..).mpr h
abbrev IsZ (h:Heap) (z TI TO:Addr) (f0:Value) (b:Bool):Prop :=
 h.get? z=some { cls:=.type "zip",dict:=none,data:=.fields #[f0,.bool b,.bool false,.ref TI,.ref TO],slots:=#[] }
def FreeF (f0:Value):Prop:=f0=.none∨∃ a t,f0=.int a t
section
variable {prog:Program} {w:World} {A:Around} {E:Value→Shared→Prop} {s:Shared}
theorem owned_free {z TI TO:Addr} {f0:Value} {b:Bool} {Q:Bool→Shared→Prop} (hz:IsZ s.heap z TI TO f0 b) (hf:FreeF f0) (h1:Q true s) (h2:∀ h',IsZ h' z TI TO f0 true→Heap.SameBut z s.heap h'→Q false { s with heap:=h' }) :
  wpAny (model prog w) A (Builtin.SmallTypes.ownedTupleIsFree (.ref z)) Q E s:=by
 unfold Builtin.SmallTypes.ownedTupleIsFree
 refine wpAny_bind (wpAny_field hz rfl (x:=f0) rfl ?_)
 rcases hf with rfl | ⟨a,t,rfl⟩
 ·exact wpAny_pure h1
 ·refine wpAny_bind (wpAny_alive ?_)
  cases e:s.heap.get? a.toNat with
  | none=>exact wpAny_pure h1
  | some o =>
   refine (show wpAny _ _ (field (.ref z) 1 >>= _) _ _ _ from wpAny_bind (wpAny_field hz rfl (x:=.bool b) rfl ?_))
   cases b with
   | true=>exact wpAny_pure (h2 s.heap hz (.refl _ _))
   | false=>exact wpAny_bind (wpAny_setField_rec hz (by simp) fun h' hz' hs=>wpAny_pure (h2 h' hz' hs))
theorem nextOf_tup_stop {it t:Addr} {i:Nat} {items:Array Value} {Q:Value→Shared→Prop} (hh:A.handled=none) (hit:s.heap.IsTupleIter it t i) (ht:s.heap.IsTuple t items) (hx:items[i]?=none)
  (hE:∀ h' e,Heap.ExtBut it s.heap h'→(∃ o,h'.get? e=some o∧o.cls=.type "StopIteration")→E (.ref e) { s with heap:=h' }):wpAny (model prog w) A (Builtin.SmallTypes.nextOf (.ref it)) Q E s:=by
 obtain ⟨ob,e1,_,e2⟩:=id hit
 obtain ⟨ot,g1,_,m,g2⟩:=ht
 unfold Builtin.SmallTypes.nextOf
 refine wpAny_bind (wpAny_callSpecial?_slot (name:=Str.ofString "__next__") hit.typeIs F.slot_tuple_iterator_next (wpAny_call_entry F.slot_tuple_iterator_next hit.typeIs F.entry_tuple_iterator_next ?_ (F.args_tuple_iterator_next_1 _)))
 refine (show wpAny _ _ (field (.ref it) 0 >>= _) _ _ s from wpAny_bind (wpAny_field e1 e2 (x:=.ref t) rfl (show wpAny _ _ (if (Value.ref t == Value.none)=true then _ else _) _ _ s from ?_)))
 rw [if_neg (by exact Bool.false_ne_true)]
 refine (show wpAny _ _ (field (.ref it) 1 >>= _) _ _ s from wpAny_bind (wpAny_field e1 e2 (x:=.int i 0) rfl (show wpAny _ _ (seqItems? (.ref t) >>= _) _ _ s from wpAny_bind (wpAny_seqItems g1 g2 ?_))))
 simp only [hx,Int.toNat_natCast]
 refine wpAny_bind (wpAny_rule (wpAny_bind (wpAny_setField e1 e2 (by simp) (show wpAny _ _ (newExc (.type "StopIteration") [] >>= _) _ _ _ from wpAny_bind ?_))))
 simp only [newTuple,newExc]
 refine wpAny_bind (wpAny_newObj_type (wpAny_bind (m:=firstArgMember _ _) (wpAny_of_eq (a:=Value.none) (by first | rfl | (simp only [firstArgMember];rfl)) (wpAny_newObj_type ?_ (by size_fits)))) (by size_fits))
 simp only [raiseNew]
 refine wpAny_bind (wpAny_handled ?_)
 first | rw [hh] | rw [show A.in1.handled=none from hh]
 exact wpAny_bind (wpAny_pure (wpAny_throw (hE _ _ (((Heap.SameBut.update ..).extBut.push _).push _) ⟨_,Heap.get?_push_size _ rfl,rfl⟩)))
theorem zip2_item {z TI TO i1 i2 l t:Addr} {k:Nat} {xs ys:Array Value} {x y a b f0:Value} {fb:Bool} {Q:Value→Shared→Prop} (D:ZipApart z TI TO i1 i2 l t) (hz:IsZ s.heap z TI TO f0 fb) (hf0:FreeF f0) (hTI:IsPair s.heap TI (.ref i1) (.ref i2)) (hTO:IsPair s.heap TO a b)
  (h1:s.heap.IsTupleIter i1 l k) (h2:s.heap.IsTupleIter i2 t k) (hl:s.heap.IsTuple l xs) (ht:s.heap.IsTuple t ys) (hx:xs[k]?=some x) (hy:ys[k]?=some y)
  (hQ:∀ h' f1 fb' a' b',IsZ h' z TI TO f1 fb'→FreeF f1→IsPair h' TO a' b'→h'.IsTupleIter i1 l (k+1)→h'.IsTupleIter i2 t (k+1)→IsPair h' s.heap.objs.size x y→h'.objs.size=s.heap.objs.size+1 →
   (∀ c o,c≠z→c≠TO→c≠i1→c≠i2→s.heap.get? c=some o→h'.get? c=some o)→Q (.ref s.heap.objs.size) { s with heap:=h' }) :
  wpAny (model prog w) A (Builtin.«zip.__next__» ⟨[.ref z],[]⟩) (fun fin s'=>∃ v,fin=.done (.ret v)∧Q v s') E s:=by
 refine (show wpAny _ _ (field (.ref z) 2 >>= _) _ _ _ from wpAny_bind (wpAny_field hz rfl (x:=.bool false) rfl ?_))
 refine (show wpAny _ _ (field (.ref z) 3 >>= _) _ _ _ from wpAny_bind (wpAny_field hz rfl (x:=.ref TI) rfl (wpAny_bind (wpAny_seqItems hTI rfl ?_))))
 refine (show wpAny _ _ (Builtin.SmallTypes.ownedTupleIsFree (.ref z) >>= _) _ _ _ from wpAny_bind (owned_free hz hf0 ?_ fun ha hza hsa=>?_))
 ·rw [if_pos (by rfl)]
  refine wpAny_bind (wpAny_rule (wpAny_bind (wpAny_field hz rfl (x:=.ref TO) rfl (wpAny_bind (wpAny_setField_rec hz (by simp) fun ha hza hsa=>wpAny_bind ?_)))))
  have hza':IsZ ha z TI TO .ellipsis fb:=hza
  simp only [List.forIn_cons,List.forIn_nil,List.zipIdx_cons,List.zipIdx_nil]
  refine wpAny_bind (wpAny_bind (wpAny_onRaise (show wpAny _ _ (Builtin.SmallTypes.nextOf (.ref i1) >>= _) _ _ _ from wpAny_bind (nextOf_tup (h1.extBut hsa.extBut D.i1z) (hl.extBut hsa.extBut D.l1z) hx fun hb h1b hsb=>wpAny_pure ?_))))
  have to2:IsPair hb TO a b:=hsb.extBut _ _ D.TOi1 (hsa.extBut _ _ D.TOz hTO)
  refine wpAny_bind (wpAny_seqItems to2 rfl (wpAny_bind (wpAny_updateSeq_pair to2 fun hc to3 hsc=>wpAny_bind (wpAny_letGo (wpAny_pure ?_)))))
  have to3':IsPair hc TO x b:=to3
  refine wpAny_bind (wpAny_bind (wpAny_onRaise (show wpAny _ _ (Builtin.SmallTypes.nextOf (.ref i2) >>= _) _ _ _ from wpAny_bind
   (nextOf_tup (((h2.extBut hsa.extBut D.i2z).extBut hsb.extBut D.i12.symm).extBut hsc.extBut D.TOi2.symm) (((ht.extBut hsa.extBut D.l2z).extBut hsb.extBut D.l2i1).extBut hsc.extBut D.l2TO) hy fun hd h2d hsd=>wpAny_pure ?_))))
  have to4:IsPair hd TO x b:=hsd.extBut _ _ D.TOi2 to3'
  refine wpAny_bind (wpAny_seqItems to4 rfl (wpAny_bind (wpAny_updateSeq_pair to4 fun he to5 hse=>wpAny_bind (wpAny_letGo (wpAny_pure (wpAny_pure ?_))))))
  have to5':IsPair he TO x y:=to5
  refine wpAny_bind (wpAny_seqItems to5' rfl (wpAny_bind (wpAny_newTuple ?_)))
  have size5:he.objs.size=s.heap.objs.size:=by rw [hse.1,hsd.1,hsc.1,hsb.1,hsa.1]
  have z5:IsZ he z TI TO .ellipsis fb:=hse.extBut _ _ D.TOz.symm (hsd.extBut _ _ D.i2z.symm (hsc.extBut _ _ D.TOz.symm (hsb.extBut _ _ D.i1z.symm hza')))
  have keep5:∀ c o,c≠z→c≠TO→c≠i1→c≠i2→s.heap.get? c=some o→he.get? c=some o:=fun c o n1 n2 n3 n4 e=>hse.extBut _ _ n2 (hsd.extBut _ _ n4 (hsc.extBut _ _ n2 (hsb.extBut _ _ n3 (hsa.extBut _ _ n1 e))))
  have it1:he.IsTupleIter i1 l (k+1):=((h1b.extBut hsc.extBut D.TOi1.symm).extBut hsd.extBut D.i12).extBut hse.extBut D.TOi1.symm
  have it2:he.IsTupleIter i2 t (k+1):=h2d.extBut hse.extBut D.TOi2.symm
  have ltz:z < he.objs.size:=Heap.lt_size z5
  refine (show wpAny _ _ (Builtin.SmallTypes.ownedTupleHandOut (.ref z) (.ref he.objs.size) >>= _) _ _ _ from wpAny_bind ?_)
  unfold Builtin.SmallTypes.ownedTupleHandOut
  have z6:IsZ (he.push { cls:=.type "tuple",data:=.seq #[x,y] }) z TI TO .ellipsis fb:=Heap.get?_push_of_some _ z5
  refine wpAny_bind (wpAny_setField_rec z6 (by simp) fun hf zf hsf=>?_)
  have zf':IsZ hf z TI TO (rawInt he.objs.size) fb:=zf
  refine wpAny_setField_rec zf' (by simp) fun hg zg hsg=>?_
  have zg':IsZ hg z TI TO (rawInt he.objs.size) false:=zg
  have up:∀ c o,c≠z→he.get? c=some o→hg.get? c=some o:=fun c o n1 e=>hsg.extBut _ _ n1 (hsf.extBut _ _ n1 (Heap.get?_push_of_some _ e))
  have pairG:IsPair hg he.objs.size x y:=hsg.extBut _ _ (Nat.ne_of_gt ltz) (hsf.extBut _ _ (Nat.ne_of_gt ltz) (Heap.get?_push_size _ rfl))
  have sizeG:hg.objs.size=he.objs.size+1:=by rw [hsg.1,hsf.1,Heap.size_push]
  rw [size5] at zg' pairG sizeG
  refine wpAny_pure ⟨_,rfl,(show Q (.ref he.objs.size) _ from ?_)⟩
  rw [size5]
  exact hQ hg _ _ _ _ zg' (.inr ⟨_,_,rfl⟩) (up _ _ D.TOz to5') (it1.at fun o e=>up _ o D.i1z e) (it2.at fun o e=>up _ o D.i2z e) pairG sizeG fun c o n1 n2 n3 n4 e=>up c o n1 (keep5 c o n1 n2 n3 n4 e)
 ·rw [if_neg (by exact Bool.false_ne_true)]
  refine wpAny_bind ?_
  simp only [List.forIn_toArray,List.forIn_cons,List.forIn_nil]
  refine wpAny_bind (wpAny_bind (wpAny_holding (show wpAny _ _ (Builtin.SmallTypes.nextOf (.ref i1) >>= _) _ _ _ from wpAny_bind (nextOf_tup (h1.extBut hsa.extBut D.i1z) (hl.extBut hsa.extBut D.l1z) hx fun hb h1b hsb=>wpAny_pure ?_))))
  refine wpAny_pure ?_
  refine wpAny_bind (wpAny_bind (wpAny_holding (show wpAny _ _ (Builtin.SmallTypes.nextOf (.ref i2) >>= _) _ _ _ from wpAny_bind (nextOf_tup ((h2.extBut hsa.extBut D.i2z).extBut hsb.extBut D.i12.symm) ((ht.extBut hsa.extBut D.l2z).extBut hsb.extBut D.l2i1) hy fun hd h2d hsd=>wpAny_pure ?_))))
  refine wpAny_pure (wpAny_pure ?_)
  refine wpAny_bind (wpAny_newTuple ?_ (by show 2≤sizeLine;decide))
  have size5:hd.objs.size=s.heap.objs.size:=by rw [hsd.1,hsb.1,hsa.1]
  have up:∀ c o,hd.get? c=some o→(hd.push { cls:=.type "tuple",data:=.seq #[x,y] }).get? c=some o:=fun c o e=>Heap.get?_push_of_some _ e
  refine wpAny_pure ⟨_,rfl,(show Q (.ref hd.objs.size) _ from ?_)⟩
  rw [size5]
  refine hQ _ f0 true a b (up _ _ (hsd.extBut _ _ D.i2z.symm (hsb.extBut _ _ D.i1z.symm hza))) hf0 (up _ _ (hsd.extBut _ _ D.TOi2 (hsb.extBut _ _ D.TOi1 (hsa.extBut _ _ D.TOz hTO)))) ((h1b.extBut hsd.extBut D.i12).at fun o e=>up _ o e) (h2d.at fun o e=>up _ o e) ?_ (by rw [Heap.size_push,size5]) fun c o n1 n2 n3 n4 e=>up _ _ (hsd.extBut _ _ n4 (hsb.extBut _ _ n3 (hsa.extBut _ _ n1 e)))
  rw [← size5]
  exact Heap.get?_push_size _ rfl
theorem zip2_end {z TI TO i1 i2 l t:Addr} {k:Nat} {xs ys:Array Value} {x a b f0:Value} {fb:Bool} {Q:Fin→Shared→Prop} (hh:A.handled=none) (D:ZipApart z TI TO i1 i2 l t) (hz:IsZ s.heap z TI TO f0 fb) (hf0:FreeF f0) (hTI:IsPair s.heap TI (.ref i1) (.ref i2)) (hTO:IsPair s.heap TO a b)
  (h1:s.heap.IsTupleIter i1 l k) (h2:s.heap.IsTupleIter i2 t k) (hl:s.heap.IsTuple l xs) (ht:s.heap.IsTuple t ys) (hx:xs[k]?=some x) (hy:ys[k]?=none)
  (hE:∀ h' e,(∀ c o,c≠z→c≠TO→c≠i1→c≠i2→s.heap.get? c=some o→h'.get? c=some o)→(∃ o,h'.get? e=some o∧o.cls=.type "StopIteration")→E (.ref e) { s with heap:=h' }) :
  wpAny (model prog w) A (Builtin.«zip.__next__» ⟨[.ref z],[]⟩) Q E s:=by
 refine (show wpAny _ _ (field (.ref z) 2 >>= _) _ _ _ from wpAny_bind (wpAny_field hz rfl (x:=.bool false) rfl ?_))
 refine (show wpAny _ _ (field (.ref z) 3 >>= _) _ _ _ from wpAny_bind (wpAny_field hz rfl (x:=.ref TI) rfl (wpAny_bind (wpAny_seqItems hTI rfl ?_))))
 refine (show wpAny _ _ (Builtin.SmallTypes.ownedTupleIsFree (.ref z) >>= _) _ _ _ from wpAny_bind (owned_free hz hf0 ?_ fun ha hza hsa=>?_))
 ·rw [if_pos (by rfl)]
  refine wpAny_bind (wpAny_rule (wpAny_bind (wpAny_field hz rfl (x:=.ref TO) rfl (wpAny_bind (wpAny_setField_rec hz (by simp) fun ha hza hsa=>wpAny_bind ?_)))))
  have hza':IsZ ha z TI TO .ellipsis fb:=hza
  simp only [List.forIn_cons,List.forIn_nil,List.zipIdx_cons,List.zipIdx_nil]
  refine wpAny_bind (wpAny_bind (wpAny_onRaise (show wpAny _ _ (Builtin.SmallTypes.nextOf (.ref i1) >>= _) _ _ _ from wpAny_bind (nextOf_tup (h1.extBut hsa.extBut D.i1z) (hl.extBut hsa.extBut D.l1z) hx fun hb h1b hsb=>wpAny_pure ?_))))
  have to2:IsPair hb TO a b:=hsb.extBut _ _ D.TOi1 (hsa.extBut _ _ D.TOz hTO)
  refine wpAny_bind (wpAny_seqItems to2 rfl (wpAny_bind (wpAny_updateSeq_pair to2 fun hc to3 hsc=>wpAny_bind (wpAny_letGo (wpAny_pure ?_)))))
  refine wpAny_bind (wpAny_bind (wpAny_onRaise (show wpAny _ _ (Builtin.SmallTypes.nextOf (.ref i2) >>= _) _ _ _ from wpAny_bind
   (nextOf_tup_stop hh (((h2.extBut hsa.extBut D.i2z).extBut hsb.extBut D.i12.symm).extBut hsc.extBut D.TOi2.symm) (((ht.extBut hsa.extBut D.l2z).extBut hsb.extBut D.l2i1).extBut hsc.extBut D.l2TO) hy fun hd e hsd he=>?_))))
  obtain ⟨oe,hoe,hce⟩:=he
  have z2:IsZ hd z TI TO .ellipsis fb:=hsd _ _ D.i2z.symm (hsc.extBut _ _ D.TOz.symm (hsb.extBut _ _ D.i1z.symm hza'))
  have hez:e≠z:=fun q=>by subst q;rw [z2] at hoe;cases hoe;simp at hce
  exact wpAny_setField_rec z2 (by simp) fun hc' _ hsc'=>hE hc' e (fun c o n1 n2 n3 n4 q=>hsc'.extBut _ _ n1 (hsd _ _ n4 (hsc.extBut _ _ n2 (hsb.extBut _ _ n3 (hsa.extBut _ _ n1 q))))) ⟨oe,hsc'.extBut _ _ hez hoe,hce⟩
 ·rw [if_neg (by exact Bool.false_ne_true)]
  refine wpAny_bind ?_
  simp only [List.forIn_toArray,List.forIn_cons,List.forIn_nil]
  refine wpAny_bind (wpAny_bind (wpAny_holding (show wpAny _ _ (Builtin.SmallTypes.nextOf (.ref i1) >>= _) _ _ _ from wpAny_bind (nextOf_tup (h1.extBut hsa.extBut D.i1z) (hl.extBut hsa.extBut D.l1z) hx fun hb h1b hsb=>wpAny_pure ?_))))
  refine wpAny_pure ?_
  refine wpAny_bind (wpAny_bind (wpAny_holding (show wpAny _ _ (Builtin.SmallTypes.nextOf (.ref i2) >>= _) _ _ _ from wpAny_bind (nextOf_tup_stop hh ((h2.extBut hsa.extBut D.i2z).extBut hsb.extBut D.i12.symm) ((ht.extBut hsa.extBut D.l2z).extBut hsb.extBut D.l2i1) hy fun hd e hsd he=>?_))))
  exact hE hd e (fun c o n1 n2 n3 n4 q=>hsd _ _ n4 (hsb.extBut _ _ n3 (hsa.extBut _ _ n1 q))) he
theorem pyIter_z {z TI TO:Addr} {f0:Value} {b:Bool} {Q:Value→Shared→Prop} (hz:IsZ s.heap z TI TO f0 b) (h:Q (.ref z) s):wpAny (model prog w) A (pyIter (.ref z)) Q E s:=by
 have ty:s.TypeIs (.ref z) "zip":=⟨_,hz,rfl⟩
 exact wpAny_pyIter_slot ty F.slot_zip_iter (wpAny_call_entry F.slot_zip_iter ty F.entry_zip_iter (show wpAny _ _ (ret (.ref z)) _ _ s from wpAny_pure ⟨_,rfl,"zip",_,ty,F.slot_zip_next.lookup,h⟩) (F.args_zip_iter_1 _))
theorem pyNext_zip2_item {z TI TO i1 i2 l t:Addr} {k:Nat} {xs ys:Array Value} {x y a b f0:Value} {fb:Bool} {Q:Option Value→Shared→Prop} (D:ZipApart z TI TO i1 i2 l t) (hz:IsZ s.heap z TI TO f0 fb) (hf0:FreeF f0) (hTI:IsPair s.heap TI (.ref i1) (.ref i2)) (hTO:IsPair s.heap TO a b)
  (h1:s.heap.IsTupleIter i1 l k) (h2:s.heap.IsTupleIter i2 t k) (hl:s.heap.IsTuple l xs) (ht:s.heap.IsTuple t ys) (hx:xs[k]?=some x) (hy:ys[k]?=some y)
  (hQ:∀ h' f1 fb' a' b',IsZ h' z TI TO f1 fb'→FreeF f1→IsPair h' TO a' b'→h'.IsTupleIter i1 l (k+1)→h'.IsTupleIter i2 t (k+1)→IsPair h' s.heap.objs.size x y→h'.objs.size=s.heap.objs.size+1 →
   (∀ c o,c≠z→c≠TO→c≠i1→c≠i2→s.heap.get? c=some o→h'.get? c=some o)→Q (some (.ref s.heap.objs.size)) { s with heap:=h' }) :
  wpAny (model prog w) A (pyNext (.ref z)) Q E s:=by
 have hT:s.TypeIs (.ref z) "zip":=⟨_,hz,rfl⟩
 unfold pyNext
 exact wpAny_bind (wpAny_attempt (wpAny_callSpecial?_slot (name:=Str.ofString "__next__") hT F.slot_zip_next (wpAny_call_entry F.slot_zip_next hT F.entry_zip_next
  (zip2_item D hz hf0 hTI hTO h1 h2 hl ht hx hy fun h' f1 fb' a' b' a1 a2 a3 a4 a5 a6 a7 a8=>wpAny_pure (hQ h' f1 fb' a' b' a1 a2 a3 a4 a5 a6 a7 a8)) (F.args_zip_next_1 _))))
theorem pyNext_zip2_end {z TI TO i1 i2 l t:Addr} {k:Nat} {xs ys:Array Value} {x a b f0:Value} {fb:Bool} {Q:Option Value→Shared→Prop} (hh:A.handled=none) (D:ZipApart z TI TO i1 i2 l t) (hz:IsZ s.heap z TI TO f0 fb) (hf0:FreeF f0) (hTI:IsPair s.heap TI (.ref i1) (.ref i2)) (hTO:IsPair s.heap TO a b)
  (h1:s.heap.IsTupleIter i1 l k) (h2:s.heap.IsTupleIter i2 t k) (hl:s.heap.IsTuple l xs) (ht:s.heap.IsTuple t ys) (hx:xs[k]?=some x) (hy:ys[k]?=none)
  (hQ:∀ h',(∀ c o,c≠z→c≠TO→c≠i1→c≠i2→s.heap.get? c=some o→h'.get? c=some o)→Q none { s with heap:=h' }):wpAny (model prog w) A (pyNext (.ref z)) Q E s:=by
 have hT:s.TypeIs (.ref z) "zip":=⟨_,hz,rfl⟩
 unfold pyNext
 refine wpAny_bind (wpAny_attempt (wpAny_callSpecial?_slot (name:=Str.ofString "__next__") hT F.slot_zip_next (wpAny_call_entry F.slot_zip_next hT F.entry_zip_next (zip2_end hh D hz hf0 hTI hTO h1 h2 hl ht hx hy fun h' e hk he=>?_) (F.args_zip_next_1 _))))
 obtain ⟨o,ho,hc⟩:=he
 exact wpAny_bind (wpAny_isInstance (T:="StopIteration") (b:=true) ⟨o,ho,hc⟩ isSubtype_stop (wpAny_pure (hQ _ hk)))
end
abbrev yA (h:Heap) (l:Addr):Heap:=h.push { cls:=.type "tuple_iterator",data:=.fields #[.ref l,.int 0 0] }
abbrev yB (h:Heap) (l t:Addr):Heap:=(yA h l).push { cls:=.type "tuple_iterator",data:=.fields #[.ref t,.int 0 0] }
abbrev yC (h:Heap) (l t:Addr):Heap:=(yB h l t).push { cls:=.type "tuple",data:=.seq #[.ref h.objs.size,.ref (yA h l).objs.size] }
abbrev yD (h:Heap) (l t:Addr):Heap:=(yC h l t).push { cls:=.type "tuple",data:=.seq #[.none,.none] }
abbrev yE (h:Heap) (l t:Addr):Heap:=(yD h l t).push { cls:=.type "zip",data:=.fields #[.none,.bool false,.bool false,.ref (yB h l t).objs.size,.ref (yC h l t).objs.size] }
theorem meets_zip2 (l t:Addr) (xs ys:Array Value):Meets (Builtin.«zip.__new__» ⟨[.type "zip",.ref l,.ref t],[]⟩) (fun _ R s=>s.heap.IsTuple l xs∧s.heap.IsTuple t ys∧R (.ok (.ret (.ref (yD s.heap l t).objs.size))) { s with heap:=yE s.heap l t }) :=
 .of_wp fun prog w A R s h=>by
  obtain ⟨hp,g,d,tk,os⟩:=s
  obtain ⟨hl,ht,h⟩:=h
  have hsub:=sub_zip
  have e1:Heap.IsTuple (Shared.heap ⟨hp,g,d,tk,os⟩) l xs:=hl
  have e2:Heap.IsTuple (Shared.heap ⟨hp.push { cls:=.type "tuple_iterator",data:=.fields #[.ref l,.int 0 0] },g,d,tk,os⟩) t ys:=Heap.IsTuple.push ht _
  wp_walk using wpAny_pyIter_tuple e1,wpAny_pyIter_tuple e2
  exact ⟨_,rfl,h⟩
section
variable {prog:Program} {w:World} {A:Around} {E:Value→Shared→Prop} {s:Shared}
theorem call_zip2 {l t:Addr} {xs ys:Array Value} {Q:Value→Shared→Prop} (hl:s.heap.IsTuple l xs) (ht:s.heap.IsTuple t ys)
  (h:∀ h',IsZip h' (s.heap.objs.size+4) (s.heap.objs.size+2) (s.heap.objs.size+3) .none→IsPair h' (s.heap.objs.size+2) (.ref s.heap.objs.size) (.ref (s.heap.objs.size+1))→IsPair h' (s.heap.objs.size+3) .none .none →
   h'.IsTupleIter s.heap.objs.size l 0→h'.IsTupleIter (s.heap.objs.size+1) t 0→(∀ c o,s.heap.get? c=some o→h'.get? c=some o)→Q (.ref (s.heap.objs.size+4)) { s with heap:=h' }) :
  wpAny (model prog w) A (call (.type "zip") [.ref l,.ref t]) Q E s:=by
 refine callType_new F.called_zip (by decide) (F.typeCall_zip_2 _ _) (F.newCall_zip_2 _ _) (fun obj=>F.args_object_init_3 obj _ _) F.entry_zip_new (meets_zip2 l t xs ys) ⟨hl,ht,?_⟩
 have s1:(yA s.heap l).objs.size=s.heap.objs.size+1:=Heap.size_push ..
 have s2:(yB s.heap l t).objs.size=s.heap.objs.size+2:=by rw [Heap.size_push,s1]
 have s3:(yC s.heap l t).objs.size=s.heap.objs.size+3:=by rw [Heap.size_push,s2]
 have s4:(yD s.heap l t).objs.size=s.heap.objs.size+4:=by rw [Heap.size_push,s3]
 have up:∀ {g:Heap} {o p:Obj} {c:Addr},g.get? c=some o→(g.push p).get? c=some o:=fun e=>Heap.get?_push_of_some _ e
 have g5:(yE s.heap l t).get? (yD s.heap l t).objs.size=some _:=Heap.get?_push_size _ rfl
 have g4:(yE s.heap l t).get? (yC s.heap l t).objs.size=some _:=up (Heap.get?_push_size _ rfl)
 have g3:(yE s.heap l t).get? (yB s.heap l t).objs.size=some _:=up (up (Heap.get?_push_size _ rfl))
 have g2:(yE s.heap l t).get? (yA s.heap l).objs.size=some _:=up (up (up (Heap.get?_push_size _ rfl)))
 have g1:(yE s.heap l t).get? s.heap.objs.size=some _:=up (up (up (up (Heap.get?_push_size _ rfl))))
 show _∧_
 rw [s2,s3,s4] at g5
 rw [s1,s2] at g3
 rw [s3] at g4
 rw [s1] at g2
 rw [s4]
 exact ⟨⟨_,g5,rfl⟩,h _ g5 g3 g4 ⟨_,g1,rfl,rfl⟩ ⟨_,g2,rfl,rfl⟩ fun c o q=>up (up (up (up (up q))))⟩
end
def Itz2 (K:PySem.W.Frag) (a b:Addr):It :=
 ⟨fun i H=>∃ xs ys x y,SqT K H a xs∧SqT K H b ys∧xs[i]?=some x∧ys[i]?=some y,
  fun i H v H'=>∃ p x y,H p=none∧v=.ref p∧H'=upd H p (.tup [x,y])∧(∀ xs,SqT K H a xs→xs[i]?=some x)∧∀ ys,SqT K H b ys→ys[i]?=some y,
  fun i H=>∃ xs ys x,SqT K H a xs∧SqT K H b ys∧xs[i]?=some x∧ys.length≤i⟩
theorem turn_zip2 {P:Program} {w:World} {K:PySem.W.Frag} {nm:Str} {pos:Pos} {z TI TO i1 i2 l1 l2:Addr} (D:ZipApart z TI TO i1 i2 l1 l2) :
  Turn P w K (.Name nm pos) (Itz2 K l1 l2) [z,TI,TO,i1,i2] z (fun i h=>(∃ f0 fb,IsZ h z TI TO f0 fb∧FreeF f0)∧IsPair h TI (.ref i1) (.ref i2)∧(∃ a b,IsPair h TO a b)∧h.IsTupleIter i1 l1 i∧h.IsTupleIter i2 l2 i) where
 mem:=by simp
 obj:=fun i h st b hb=>by
  obtain ⟨⟨f0,fb,hz,_⟩,hTI,⟨a,b',hTO⟩,⟨o1,e1,c1,d1⟩,⟨o2,e2,c2,d2⟩⟩:=st
  simp only [List.mem_cons,List.not_mem_nil,or_false] at hb
  rcases hb with rfl | rfl | rfl | rfl | rfl
  ·exact ⟨_,hz,fun v q=>by cases q⟩
  ·exact ⟨_,hTI,fun v q=>by cases q⟩
  ·exact ⟨_,hTO,fun v q=>by cases q⟩
  ·exact ⟨_,e1,fun v q=>by rw [d1] at q;cases q⟩
  ·exact ⟨_,e2,fun v q=>by rw [d2] at q;cases q⟩
 keep:=fun i h h' st k=>by
  obtain ⟨⟨f0,fb,hz,hf⟩,hTI,⟨a,b',hTO⟩,h1,h2⟩:=st
  exact ⟨⟨f0,fb,k z (by simp) _ hz,hf⟩,k TI (by simp) _ hTI,⟨a,b',k TO (by simp) _ hTO⟩,h1.at fun o e=>k i1 (by simp) o e,h2.at fun o e=>k i2 (by simp) o e⟩
 item:=by
  intro X hP hw hK hc i pins s σ H E I hf st hg
  subst hP hw hK
  obtain ⟨⟨f0,fb,hz,hf0⟩,hTI,⟨a,b,hTO⟩,h1,h2⟩:=st
  obtain ⟨xs,ys,x,y,hx,hy,ex,ey⟩:=hg
  obtain ⟨its,rv,p,hzx⟩:=I.tuple hx
  obtain ⟨its2,rv2,p2,hzy⟩:=I.tuple hy
  obtain ⟨u,hu,ru⟩:=rv.get ex
  obtain ⟨u2,hu2,ru2⟩:=rv2.get ey
  refine pyNext_zip2_item D hz hf0 hTI hTO h1 h2 (show s.heap.IsTuple l1 its.toArray from p) (show s.heap.IsTuple l2 its2.toArray from p2) (x:=u) (y:=u2) (by simpa using hu) (by simpa using hu2) fun h' f1 fb' a' b' a1 af a2 a3 a4 a5 a6 kk=>⟨_,rfl,?_⟩
  refine (show wpAny _ _ (pure ()) _ _ _ from wpAny_pure ?_)
  have lt:∀ {c o},s.heap.get? c=some o→s.heap.objs.size≠c:=fun e=>Nat.ne_of_gt (Heap.lt_size e)
  have k2:∀ c o,c ∉ [z,TI,TO,i1,i2]→s.heap.get? c=some o→h'.get? c=some o:=fun c o hc e=>by
   simp only [List.mem_cons,List.not_mem_nil,or_false,not_or] at hc
   exact kk c o hc.1 hc.2.2.1 hc.2.2.2.1 hc.2.2.2.2 e
  have tup:ObjOk X.prog X.w (upd H s.heap.objs.size (.tup [x,y])) h' s.heap.objs.size (.tup [x,y]) :=
   ⟨by show 2≤sizeLine;decide,[u,u2],.cons ru (.cons ru2 .nil),⟨_,a5,rfl,_,rfl⟩⟩
  have hn:=I.hok.fresh (Nat.le_refl s.heap.objs.size)
  refine ⟨.ref s.heap.objs.size,_,I.turnedNew (t':=s.toks) k2 hf (Nat.le_refl _) tup,rfl,⟨_,x,y,hn,rfl,rfl,fun zs hq=>by rw [I.tuple_inj hq hx];exact ex,fun zs hq=>by rw [I.tuple_inj hq hy];exact ey⟩,
   ⟨⟨f1,fb',a1,af⟩,kk _ _ D.TIz D.TITO D.TIi1 D.TIi2 hTI,⟨_,_,a2⟩,a3,a4⟩,fun c hc=>?_⟩
  have hcn:c≠s.heap.objs.size:=by
   simp only [List.mem_cons,List.not_mem_nil,or_false] at hc
   obtain ⟨o1,e1,_⟩:=h1
   obtain ⟨o2,e2,_⟩:=h2
   rcases hc with rfl | rfl | rfl | rfl | rfl
   ·exact (lt hz).symm
   ·exact (lt hTI).symm
   ·exact (lt hTO).symm
   ·exact (lt e1).symm
   ·exact (lt e2).symm
  rw [upd_ne hcn]
  exact (hf c hc).1
 done:=by
  intro X hP hw hK hc i pins s σ H E I hf st hg
  subst hP hw hK
  obtain ⟨⟨f0,fb,hz,hf0⟩,hTI,⟨a,b,hTO⟩,h1,h2⟩:=st
  obtain ⟨xs,ys,x,hx,hy,ex,he⟩:=hg
  obtain ⟨its,rv,p,hzx⟩:=I.tuple hx
  obtain ⟨its2,rv2,p2,hzy⟩:=I.tuple hy
  obtain ⟨u,hu,ru⟩:=rv.get ex
  have l1':=rv2.length
  refine pyNext_zip2_end (I.ok.hd hc) D hz hf0 hTI hTO h1 h2 (show s.heap.IsTuple l1 its.toArray from p) (show s.heap.IsTuple l2 its2.toArray from p2) (x:=u) (by simpa using hu) (by simp;omega) fun h' kk=>⟨rfl,?_⟩
  refine I.turnedL (t':=s.toks) (ch:=[z,TI,TO,i1,i2]) (fun c o hc e=>?_) hf
  simp only [List.mem_cons,List.not_mem_nil,or_false,not_or] at hc
  exact kk c o hc.1 hc.2.2.1 hc.2.2.2.1 hc.2.2.2.2 e
 self:=fun _ _ _ _ _ st h=>by
  obtain ⟨⟨f0,fb,hz,_⟩,_⟩:=st
  exact pyIter_z hz h
section
variable {X:Cx}
def iZip2 (K:PySem.W.Frag) (ta:TA):TI:=fun σ H R=>ta σ H fun vs H1=>∃ a b,vs=[.ref a,.ref b]∧(∃ xs,SqT K H1 a xs)∧(∃ ys,SqT K H1 b ys)∧R (Itz2 K a b) H1
theorem pi_zip2K (K:PySem.W.Frag) {e1 e2:Expr} {ta:TA} {p pos tpos:Pos} {nm:Str} (hg:Gl X "zip") (hm:X.mg "zip"=none) (ha:PA X [e1,e2] ta) (hK:X.K=K:=by rfl) (hs:starEach [e1,e2] X.env=(false,eval e1 X.env) :: starEach [e2] X.env:=by rfl) (hpl:(backTo pos (starEach [e2] X.env)).any (·.1)=false:=by rfl) :
  PI X (.Name nm tpos) (.Call (.Name "zip" p) [e1,e2] [] pos) (iZip2 K ta):=by
 subst hK
 intro pins s σ H R I h
 refine wpAny_Call_Name_kw (ld_blt I hg hm boot_zip ?_ (by decide) (by decide))
 refine PyProof.Rows.callWith_type1 (thn (ha pos pins s σ H _ I h) fun us s1 ⟨vs,H1,I1,r1,q1⟩=>?_) hs hpl
 obtain ⟨a,b,rfl,⟨xs,hx⟩,⟨ys,hy⟩,q⟩:=q1
 obtain ⟨u,v,rfl,ru,rv⟩:=r1.two
 cases ru
 cases rv
 obtain ⟨its,r1',p1,_⟩:=I1.tuple hx
 obtain ⟨its2,r2',p2,_⟩:=I1.tuple hy
 have p1':s1.heap.IsTuple a its.toArray:=p1
 have p2':s1.heap.IsTuple b its2.toArray:=p2
 refine call_zip2 p1' p2' fun h' hz hTI hTO h1 h2 kk=>?_
 refine wpAny_pyIter_zip hz ?_
 have la:a < s1.heap.objs.size:=by obtain ⟨o,ho,_⟩:=p1';exact Heap.lt_size ho
 have lb:b < s1.heap.objs.size:=by obtain ⟨o,ho,_⟩:=p2';exact Heap.lt_size ho
 have I2:Inv X pins σ H1 { s1 with heap:=h' }:=I1.kept (t':=s1.toks) fun b o e=>kk b o e
 refine ⟨s1.heap.objs.size+4,[s1.heap.objs.size+4,s1.heap.objs.size+2,s1.heap.objs.size+3,s1.heap.objs.size,s1.heap.objs.size+1],_,_,H1,rfl,I2,turn_zip2 (zipApart_new la lb),⟨⟨_,_,hz,.inl rfl⟩,hTI,⟨_,_,hTO⟩,h1,h2⟩,fun c hc=>?_,q⟩
 have hle:s1.heap.objs.size≤c:=by
  simp only [List.mem_cons,List.not_mem_nil,or_false] at hc
  rcases hc with rfl | rfl | rfl | rfl | rfl
  ·exact Nat.le_add_right _ _
  ·exact Nat.le_add_right _ _
  ·exact Nat.le_add_right _ _
  ·exact Nat.le_refl _
  ·exact Nat.le_add_right _ _
 exact I1.fpOk (H':=H1) hle (I1.hok.fresh hle)
end
section
variable {K:PySem.W.Frag} {g:TG} {σ:St} {H:Hp}
theorem for_zip2 {a b:Addr} {xs ys:List V} {tb:TS} {D:Ends} (hlen:ys.length < xs.length) (Pv:Nat→St→Hp→Prop) (h0:Pv 0 σ H) (hl:∀ i σ H,i≤ys.length→Pv i σ H→SqT K H a xs∧SqT K H b ys)
  (hs:∀ (i:Nat) (x y:V) (p:Addr) (σ:St) (H:Hp),xs[i]?=some x→ys[i]?=some y→Pv i σ H→H p=none→g (.ref p) σ (upd H p (.tup [x,y])) fun σ2 H2=>tb { D with nx:=Pv (i+1),ct:=Pv (i+1),bk:=D.nx } σ2 H2) (hd:∀ σ H,Pv ys.length σ H→D.nx σ H) :
  ∃ W:Nat→Nat→St→Hp→Prop,(∃ m,W 0 m σ H)∧∀ i m σ H,W i m σ H →
   ((Itz2 K a b).stop i H∧D.nx σ H)∨((Itz2 K a b).go i H∧∃ N:St→Hp→Prop,(∀ σ' H',N σ' H'→∃ m',m' < m∧W (i+1) m' σ' H')∧∀ x H',(Itz2 K a b).yld i H x H'→g x σ H' fun σ2 H2=>tb { D with nx:=N,ct:=N,bk:=D.nx } σ2 H2):=by
 refine ⟨fun i m σ H=>m=ys.length - i∧i≤ys.length∧Pv i σ H,⟨ys.length,by simp,Nat.zero_le _,h0⟩,?_⟩
 rintro i m σ' H' ⟨rfl,hi,p⟩
 obtain ⟨q1,q2⟩:=hl i σ' H' hi p
 by_cases hlt:i < ys.length
 ·have hlt2:i < xs.length:=by omega
  refine .inr ⟨⟨xs,ys,xs[i],ys[i],q1,q2,by simp [hlt2],by simp [hlt]⟩,Pv (i+1),fun σ2 H2 z=>⟨ys.length - (i+1),by omega,rfl,hlt,z⟩,fun x H2 y=>?_⟩
  obtain ⟨pp,x1,y1,hn,rfl,rfl,ex,ey⟩:=y
  exact hs i x1 y1 pp σ' _ (ex xs q1) (ey ys q2) p hn
 ·have e:i=ys.length:=by omega
  subst e
  exact .inl ⟨⟨xs,ys,xs[ys.length],q1,q2,by simp [hlen],Nat.le_refl _⟩,hd σ' H' p⟩
end
end L2
namespace L2
open PySem PySem.Spec PyProof.Rows
abbrev RI:=Addr × Key × Value × Value
def stI (acc:List (Key × Value)) (q:RI):List (Key × Value):=stored acc q.2.1 q.2.2.2
theorem stI_len:∀ (m:List RI) (acc:List (Key × Value)),(m.foldl stI acc).length≤acc.length+m.length
 | [],_=>Nat.le_refl _
 | q :: m,acc=>by
  have h1:=stI_len m (stI acc q)
  have h2:(stI acc q).length≤acc.length+1:=by
   unfold stI stored
   split
   ·rw [List.length_map];omega
   ·simp
  rw [List.foldl_cons,List.length_cons]
  omega
section
variable {prog:Program} {w:World} {A:Around} {d it l:Addr} {L:List RI} {h0:Heap}
theorem upd_loopI (hu:A.units+3 < cLine) (hh:A.handled=none) (hL:h0.IsList l (L.map fun q=>Value.ref q.1).toArray) (hq:∀ q ∈ L,h0.IsTuple q.1 #[q.2.2.1,q.2.2.2]∧(mixKind prog w).is q.2.1 q.2.2.1=true)
  (hd:h0.objs.size≤d) (hi:h0.objs.size≤it) (hdi:d≠it) (hz:L.length≤sizeLine) :
  ∀ (rest done:List RI) (s:Shared) (R:Result→Shared→Prop),L=done ++ rest→(∀ b o,h0.get? b=some o→s.heap.get? b=some o)→s.heap.IsListIter it l done.length →
   s.heap.DictOf (mixKind prog w) d (done.foldl stI []) →
   (∀ h' tk,(∀ b o,h0.get? b=some o→h'.get? b=some o)→h'.DictOf (mixKind prog w) d (L.foldl stI [])→R (.ok (.ret .none)) { s with heap:=h',toks:=tk }) →
   codeAny (model prog w) A (.builtin "dict.update.loop" ⟨[.ref d,.ref it,rawInt done.length,.none],[]⟩) R s:=by
 intro rest
 have olds:∀ {h h':Heap} {x:Addr},h0.objs.size≤x→(∀ b o,h0.get? b=some o→h.get? b=some o)→Heap.ExtBut x h h'→∀ b o,h0.get? b=some o→h'.get? b=some o :=
  fun hx k e b o hb=>e b o (fun z=>absurd (Heap.lt_size hb) (by rw [z];exact Nat.not_lt.mpr hx)) (k b o hb)
 obtain ⟨ol,hol,zl⟩:=hL
 induction rest with
 | nil =>
  intro done s R e k hit dd hR
  rw [List.append_nil] at e
  subst e
  refine codeAny_builtin entry_upd ?_
  rw [Around.under_plainId plain_upd _]
  refine (show wpAny _ A.in1 (pyNext (.ref it) >>= _) _ _ s from wpAny_bind (wpAny_pyNext_list_end hh hit ⟨ol,k _ _ hol,zl⟩ (by simp) fun h' eb=>?_))
  exact (show wpAny _ A.in1 (Builtin.Dict.addKeywords d [] >>= _) _ _ _ from wpAny_bind (wpAny_pure (wpAny_pure (hR h' s.toks (olds hi k eb) (dd.extBut eb hdi)))))
 | cons q rest ih =>
  intro done s R e k hit dd hR
  refine codeAny_builtin entry_upd ?_
  rw [Around.under_plainId plain_upd _]
  have hx:(L.map fun q=>Value.ref q.1).toArray[done.length]?=some (.ref q.1):=by rw [e];simp
  refine (show wpAny _ A.in1 (pyNext (.ref it) >>= _) _ _ s from wpAny_bind (wpAny_pyNext_list_item hit ⟨ol,k _ _ hol,zl⟩ hx fun h' hit' hs=>?_))
  have k':=olds hi k hs.extBut
  obtain ⟨⟨ot,hot,hct,nt,hdt⟩,hkey⟩:=hq q (by rw [e];simp)
  have dd':=dd.extBut hs.extBut hdi
  refine (show wpAny _ A.in1 (holding [Value.ref q.1] _ >>= _) _ _ _ from wpAny_bind (wpAny_holding (wpAny_bind (wpAny_tryCatch ?_))))
  unfold Builtin.Dict.pairItems
  refine wpAny_bind (wpAny_typeOf (T:="tuple") ⟨ot,k' _ _ hot,hct⟩ (wpAny_ite_split (fun _=>?_) (fun z=>absurd (by decide) z)))
  refine wpAny_bind (wpAny_seqItems (k' _ _ hot) hdt (wpAny_pure ?_))
  have hle:=stI_len done []
  have hll:done.length+(rest.length+1)=L.length:=by rw [e];simp
  have hle:(done.foldl stI []).length≤done.length:=by simpa using hle
  refine (show wpAny _ A.in1 (holding [q.2.2.1,q.2.2.2] (dictSet d q.2.2.1 q.2.2.2)) _ _ _ from wpAny_holding (wpAny_dictSet_pairs (hsz:=by omega) hkey dd' fun h2 dd2 hs2=>?_))
  refine wpAny_pure ⟨plainId_quiet plain_upd _,?_⟩
  have hit2:h2.IsListIter it l (done.length+1):=by
   obtain ⟨oi,hoi,zi⟩:=hit'
   exact ⟨oi,(hs2.2 it (Ne.symm hdi)).trans hoi,zi⟩
  have hr:rawInt ((done.length:Int)+1)=rawInt ((done ++ [q]).length:Int):=by simp
  rw [hr]
  refine ih (done ++ [q]) _ R (by rw [e];simp) (olds hd k' hs2.extBut) (by simpa using hit2) (by simpa [stI] using dd2) fun h3 tk k3 dd3=>?_
  exact hR h3 tk k3 dd3
end
abbrev VI:=Addr × Key × V
def puI (acc:List (Key × V)) (q:VI):List (Key × V):=putK acc q.2.1 q.2.2
abbrev PI':List VI→List RI→Prop:=Paired fun p q=>p.1=q.1∧p.2.1=q.2.1∧RelV (kV p.2.1) q.2.2.1∧RelV p.2.2 q.2.2.2
theorem PI'.fold {L:List VI} {M:List RI} (r:PI' L M):∀ {acc:List (Key × V)} {acc':List (Key × Value)},KV acc acc'→KV (L.foldl puI acc) (M.foldl stI acc'):=by
 induction r with
 | nil=>intro acc acc' h;exact h
 | @cons p q ps qs h t ih =>
  intro acc acc' ha
  rw [List.foldl_cons,List.foldl_cons]
  refine ih ?_
  have:=ha.put p.2.1 h.2.2.2
  unfold puI stI
  rw [← h.2.1]
  exact this
theorem puI_len:∀ (m:List VI) (acc:List (Key × V)),(m.foldl puI acc).length≤acc.length+m.length
 | [],_=>Nat.le_refl _
 | q :: m,acc=>by
  have h1:=puI_len m (puI acc q)
  have h2:(puI acc q).length≤acc.length+1:=length_putK _ _ _
  rw [List.foldl_cons,List.length_cons]
  omega
section
variable {X:Cx} {pins:List (Addr × Obj)} {σ:St} {H:Hp} {s:Shared}
theorem rawI (I:Inv X pins σ H s):∀ (L:List VI),(∀ q ∈ L,SqT X.K H q.1 [kV q.2.1,q.2.2]) →
  ∃ M:List RI,PI' L M∧(∀ q ∈ M,s.heap.IsTuple q.1 #[q.2.2.1,q.2.2.2]∧(mixKind X.prog X.w).is q.2.1 q.2.2.1=true)∧∀ its,Vals (L.map fun q=>V.ref q.1) its→its=M.map fun q=>Value.ref q.1
 | [],_=>⟨[],.nil,fun q hq=>absurd hq List.not_mem_nil,fun its h=>by cases h;rfl⟩
 | p :: L,h=>by
  obtain ⟨M,r,hM,hv⟩:=rawI I L fun q hq=>h q (List.mem_cons_of_mem _ hq)
  obtain ⟨its,rv,ht,_⟩:=I.tuple (h p List.mem_cons_self)
  cases rv with
  | @cons _ u _ _ r1 rv =>
   cases rv with
   | @cons _ u2 _ _ r2 rv =>
    cases rv
    refine ⟨(p.1,p.2.1,u,u2) :: M,.cons ⟨rfl,rfl,r1,r2⟩ r,fun q hq=>?_,fun its hi=>?_⟩
    ·rcases List.mem_cons.mp hq with e | hq
     ·subst e
      exact ⟨ht,kV_is r1⟩
     ·exact hM q hq
    ·cases hi with
     | cons q1 qv =>
      cases q1
      rw [hv _ qv,List.map_cons]
end
def rDctI (K:PySem.W.Frag):List V→Hp→VK→Prop:=fun vs H Q=>∃ (l:Addr) (L:List VI),vs=[V.ref l]∧H l=some (.lst (L.map fun q=>V.ref q.1))∧(∀ q ∈ L,SqT K H q.1 [kV q.2.1,q.2.2])∧∀ p,H p=none→Q (.ref p) (upd H p (.dK (L.foldl puI [])))
theorem call_dictI {X:Cx} (K:PySem.W.Frag) (hu:X.A.units+16 < cLine) (hK:X.K=K:=by rfl) (hc:X.calm=true:=by rfl):CallR X (.type "dict") (rDctI K):=by
 subst hK
 intro pins s σ H vs us Q I r h
 obtain ⟨l,L,rfl,hl,hq,q⟩:=h
 obtain ⟨u,rfl,ru⟩:=vals1 r
 cases ru
 obtain ⟨M,rM,hM,hv⟩:=rawI I L hq
 obtain ⟨its,n,rv,ho,hz⟩:=I.lst hl
 obtain rfl:=hv _ rv
 rw [List.length_map] at hz
 have hlen:L.length=M.length:=Paired.length rM
 refine callType_codes (Q₁:=fun obj s₁=>obj=.ref s.heap.objs.size∧s₁={ s with heap:=s.heap.push { cls:=.type "dict",data:=.dict #[] } }) F.kt_called_dict (F.kt_typeCall_dict_1 _) F.entry_dict_init (kt_code_dict_new _ ⟨rfl,rfl⟩) ?_
 rintro obj s₁ ⟨rfl,rfl⟩
 have hnew:(s.heap.push { cls:=.type "dict",data:=.dict #[] }).get? s.heap.objs.size=some { cls:=.type "dict",data:=.dict #[] }:=Heap.get?_push_size _ rfl
 have hT:(⟨s.heap.push { cls:=.type "dict",data:=.dict #[] },s.gens,s.drawn,s.toks,s.os⟩:Shared).TypeIs (.ref s.heap.objs.size) "dict":=⟨_,hnew,rfl⟩
 refine ⟨hT,F.args_dict_init_2 _ _,?_⟩
 unfold Builtin.«dict.__init__»
 refine wpAny_bind ?_
 unfold Builtin.Dict.selfAndRest
 refine wpAny_bind (wpAny_notOrdered_dict hT (show wpAny _ _ (pure (s.heap.objs.size,[Value.ref l])) _ _ _ from wpAny_pure (show wpAny _ _ (Builtin.Dict.updateFrom "dict.__init__" s.heap.objs.size (.ref l) [] .none) _ _ _ from ?_)))
 unfold Builtin.Dict.updateFrom
 have ho1:(s.heap.push { cls:=.type "dict",data:=.dict #[] }).get? l=some { cls:=.type "list",data:=.seq (M.map fun q=>Value.ref q.1).toArray n }:=Heap.get?_push_of_some _ ho
 refine wpAny_bind (wpAny_typeOf (T:="list") ⟨_,ho1,rfl⟩ (wpAny_ite_split (fun _=>?_) (fun z=>absurd (by decide) z)))
 refine wpAny_bind (keys_miss (xs:=(M.map fun q=>Value.ref q.1).toArray) (k:=n) ho1 (I.ok.hd hc) fun h2 tk2 k2=>wpAny_ite_split (fun _=>wpAny_bind (wpAny_rule ?_)) (fun z=>absurd rfl z))
 have hl2:h2.IsList l (M.map fun q=>Value.ref q.1).toArray:=⟨_,k2 _ _ ho1,rfl,n,rfl⟩
 refine wpAny_bind (wpAny_pyIter_list hl2 ?_)
 have k0:∀ b o,s.heap.get? b=some o→(h2.push { cls:=.type "list_iterator",data:=.fields #[.ref l,.int 0 0] }).get? b=some o:=fun b o e=>Heap.get?_push_of_some _ (k2 b o (Heap.get?_push_of_some _ e))
 have hlt2:s.heap.objs.size < h2.objs.size:=Heap.lt_size (k2 _ _ hnew)
 refine wpAny_pure ⟨plainId_quiet plain_upd _,?_⟩
 refine (show codeAny _ _ (.builtin "dict.update.loop" ⟨[.ref s.heap.objs.size,.ref h2.objs.size,rawInt (([]:List RI).length:Nat),.none],[]⟩) _ _ from ?_)
 have hu':X.A.in1.units+3 < cLine:=by show X.A.units+1+3 < cLine;omega
 refine upd_loopI (h0:=s.heap) (L:=M) (l:=l) (A:=X.A.in1) hu' (I.ok.hd hc) ⟨_,ho,rfl,n,rfl⟩ hM (Nat.le_refl _) (Nat.le_of_lt hlt2) (Nat.ne_of_lt hlt2) (by omega) M [] _ _ rfl k0 ?_ ?_ ?_
 ·exact (show (h2.push { cls:=.type "list_iterator",data:=.fields #[.ref l,.int 0 0] }).IsListIter h2.objs.size l 0 from ⟨_,Heap.get?_push_size _ rfl,rfl,rfl⟩)
 ·refine (show (h2.push { cls:=.type "list_iterator",data:=.fields #[.ref l,.int 0 0] }).DictOf (mixKind X.prog X.w) s.heap.objs.size [] from ?_)
  exact ⟨_,#[],0,Heap.get?_push_of_some _ (k2 _ _ hnew),⟨rfl,rfl,rfl⟩,rfl,(fun x hx=>by simp at hx),.nil,List.nodup_nil⟩
 ·intro h3 tk3 k3 dd
  have hle:=puI_len L []
  refine ⟨rfl,.ref s.heap.objs.size,_,I.laid (a:=s.heap.objs.size) (o:=.dK (L.foldl puI [])) (t':=tk3) k3 (Nat.le_refl _) ?_,rfl,q _ (I.hok.fresh (Nat.le_refl _))⟩
  have hle:(L.foldl puI []).length≤L.length:=by simpa using hle
  exact dk_new (by omega) (beq_eq_false_iff_ne.mpr (Ne.symm (Nat.ne_of_lt I.big))) (PI'.fold rM .nil) dd
end L2
namespace K52
open PySem L2 PyProof.Rows
def top (i:Nat):Stmt:=PySem.Challenge.pw_stormpost_k52_whole_no_way_is_shorter.main.body.getD i (.Pass ⟨0,0,0,0⟩)
abbrev s_is_house:Stmt:=top 6
abbrev s_lengths_of:Stmt:=top 8
abbrev s_heights_to:Stmt:=top 9
abbrev s_next_house:Stmt:=top 10
abbrev s_least_way:Stmt:=top 11
abbrev s_way_of:Stmt:=top 12
abbrev s_way_length:Stmt:=top 13
abbrev s_goes_from_to:Stmt:=top 14
abbrev s_heights_hold:Stmt:=top 15
abbrev s_way_holds:Stmt:=top 16
abbrev s_side_holds:Stmt:=top 18
abbrev s_way_judged:Stmt:=top 19
abbrev s_look_house:Stmt:=top 27
abbrev s_look_bounds:Stmt:=top 28
abbrev s_look_unlike:Stmt:=top 29
abbrev s_is_name:Stmt:=top 30
abbrev s_look_names:Stmt:=top 31
abbrev s_made_wire:Stmt:=top 32
abbrev s_made_near:Stmt:=top 33
abbrev s_made_news:Stmt:=top 34
abbrev s__law_cell_at:Stmt:=top 37
abbrev s__law_mixed:Stmt:=top 38
abbrev s__law_drawn:Stmt:=top 39
abbrev s__law_houses:Stmt:=top 40
abbrev s__law_told:Stmt:=top 41
abbrev s__law_news:Stmt:=top 42
abbrev s__law_map:Stmt:=top 43
abbrev s__law_wires:Stmt:=top 44
abbrev s__law_ways:Stmt:=top 45
abbrev s__law_length:Stmt:=top 46
abbrev s__law_right:Stmt:=top 47
abbrev s_law:Stmt:=top 48
def clsBody:Stmt→List Stmt
 | .ClassDef _ _ _ b _ _ _ _ _ _ _=>b
 | _=>[]
abbrev s_init:Stmt:=(clsBody (top 35)).getD 0 (.Pass ⟨0,0,0,0⟩)
abbrev s_hear:Stmt:=(clsBody (top 35)).getD 1 (.Pass ⟨0,0,0,0⟩)
abbrev s_news:Stmt:=(clsBody (top 35)).getD 2 (.Pass ⟨0,0,0,0⟩)
abbrev s_wires:Stmt:=(clsBody (top 35)).getD 3 (.Pass ⟨0,0,0,0⟩)
abbrev s_holder:Stmt:=(clsBody (top 35)).getD 4 (.Pass ⟨0,0,0,0⟩)
abbrev s_copy:Stmt:=(clsBody (top 35)).getD 5 (.Pass ⟨0,0,0,0⟩)
structure Ad where
 BadNews:Addr
 Map:Addr
 init:Addr
 m_hear:Addr
 m_news:Addr
 m_wires:Addr
 m_holder:Addr
 m_copy:Addr
structure Txt (K:PySem.W.Frag) (mg:Str→Option Value) (t:Ad):Prop where
 cHOUSES:∃ tk,mg "HOUSES"=some (.int 32 tk)
 cLONGEST_NAME:∃ tk,mg "LONGEST_NAME"=some (.int 4 tk)
 cMOST_BIRTH:∃ tk,mg "MOST_BIRTH"=some (.int 9000 tk)
 cMOST_NAMES:∃ tk,mg "MOST_NAMES"=some (.int 4 tk)
 cMOST_NEAR:∃ tk,mg "MOST_NEAR"=some (.int 5 tk)
 cMOST_NUMBER:∃ tk,mg "MOST_NUMBER"=some (.int 900000 tk)
 cMOST_QUIET:∃ tk,mg "MOST_QUIET"=some (.int 10 tk)
 n_all:mg "all"=none
 n_any:mg "any"=none
 n_dict:mg "dict"=none
 n_len:mg "len"=none
 n_list:mg "list"=none
 n_max:mg "max"=none
 n_min:mg "min"=none
 n_range:mg "range"=none
 n_set:mg "set"=none
 n_sorted:mg "sorted"=none
 n_tuple:mg "tuple"=none
 n_zip:mg "zip"=none
 mBadNews:mg "BadNews"=some (.ref t.BadNews)
 mMap:mg "Map"=some (.ref t.Map)
 xBadNews:PySem.W.excIn K t.BadNews [.type "ValueError",.type "Exception",.type "BaseException",.type "object"] "ValueError.__new__"=true
 eBadNews:ExcCls K t.BadNews
 kMap:Mk K t.Map t.init
 fi:∃ fd,Fun K "__init__" "Map.__init__" s_init t.init fd
 cMap:Cls K t.Map
 na_latest:NoAttr K t.Map "latest"
 me_hear:Meth K t.Map "hear" t.m_hear
 f_hear:∃ fd,Fun K "hear" "Map.hear" s_hear t.m_hear fd
 me_news:Meth K t.Map "news" t.m_news
 f_news:∃ fd,Fun K "news" "Map.news" s_news t.m_news fd
 me_wires:Meth K t.Map "wires" t.m_wires
 f_wires:∃ fd,Fun K "wires" "Map.wires" s_wires t.m_wires fd
 me_holder:Meth K t.Map "holder" t.m_holder
 f_holder:∃ fd,Fun K "holder" "Map.holder" s_holder t.m_holder fd
 me_copy:Meth K t.Map "copy" t.m_copy
 f_copy:∃ fd,Fun K "copy" "Map.copy" s_copy t.m_copy fd
section
variable {P:Program} {w:World} {K:PySem.W.Frag} {mg:Str→Option Value} {base:Heap} {t:Ad}
theorem txt_len {i:Int} (h:i.natAbs < 2 ^ 1000):(Str.ofString (toString i)).length≤1001:=by
 have hl:i.natAbs.log2 < 1000:=by
  by_cases z:i.natAbs=0
  ·rw [z];decide
  ·exact (Nat.log2_lt z).mpr h
 have e:=int_text_length_le (k:=1000) (by decide) hl
 rw [PySem.ofString_length];omega
theorem cutV_ns {xs:List V} {hi:Int} (h2:0≤hi):cutV xs none (some hi)=xs.take hi.toNat:=by
 unfold cutV
 obtain ⟨b,rfl⟩:=Int.eq_ofNat_of_zero_le h2
 rw [HT.sIx_nat,HT.sIx_none,Int.toNat_natCast,List.drop_zero,Nat.sub_zero]
 by_cases g:b≤xs.length
 ·rw [Nat.min_eq_left g]
 ·rw [Nat.min_eq_right (by omega),List.take_length,List.take_of_length_le (by omega)]
theorem cutV_sn {xs:List V} {lo:Int} (h1:0≤lo):cutV xs (some lo) none=xs.drop lo.toNat:=by
 unfold cutV
 obtain ⟨a,rfl⟩:=Int.eq_ofNat_of_zero_le h1
 rw [HT.sIx_nat,HT.sIx_none,Int.toNat_natCast]
 by_cases h:a≤xs.length
 ·rw [Nat.min_eq_left h,List.take_of_length_le (by rw [List.length_drop];omega)]
 ·rw [Nat.min_eq_right (by omega),List.drop_length,List.drop_of_length_le (by omega),List.take_nil]
def Mods (S:List Addr) (H H':Hp):Prop:=∀ b o,b ∉ S→H b=some o→H' b=some o
theorem Mods.refl {S:List Addr} {H:Hp}:Mods S H H:=fun _ _ _ e=>e
theorem Mods.upd {S:List Addr} {H H':Hp} {p:Addr} {o:HO} (m:Mods S H H') (h:p ∈ S∨H p=none):Mods S H (upd H' p o):=fun b u n e=>by
 rw [upd_ne (fun z=>by rw [z] at n e;exact h.elim n fun y=>by rw [y] at e;cases e)]
 exact m b u n e
def Hse (n:Int):Prop:=0≤n∧n < 32
def Sml (n:Int):Prop:=n.natAbs < 2 ^ 1000
theorem Sml.of {n:Int} (h:-(10 ^ 60)≤n) (h2:n≤10 ^ 60):Sml n:=far_abs h h2
def sp_is_house:Sp:=fun vs H Q _=>∃ n:Int,vs=[.int n]∧Q (.bl (decide (0≤n∧n < 32))) H
theorem sc_is_house:FnScope ["number"] ["number"] (defScope s_is_house):=⟨rfl,rfl,rfl,by decide +kernel,rfl,by decide +kernel,by decide +kernel⟩
theorem ok_is_house (F:Site K mg "is_house" s_is_house) (T:Txt K mg t):Def P w K mg base 1 "is_house" ["number"] sp_is_house:=by
 refine F.def sc_is_house (fun _ _ _ _ _ _ us hl=>match us,hl with | [_],_=>rfl) (fun vs H Q E h=>?_) (fun f cdv A outer s H vs Q E hr h=>?_)
 ·obtain ⟨n,rfl,_⟩:=h
  rfl
 ·obtain ⟨n,rfl,q⟩:=h
  refine ⟨_,pss_one (ps_ret (pe_chain op_le op_lt pe_int (pv 0) (pe_gint T.cHOUSES))),?_⟩
  refine ⟨_,rfl,_,_,rfl,rfl,_,rfl,?_⟩
  by_cases h0:0≤n
  ·rw [decide_eq_true h0]
   refine iteT ⟨_,_,rfl,rfl,?_⟩
   have e:decide (n < 32)=decide (0≤n∧n < 32):=by simp [h0]
   show Q (.bl (decide (n < 32))) H
   rw [e]
   exact q
  ·rw [decide_eq_false h0]
   refine iteF ?_
   have e:false=decide (0≤n∧n < 32):=by simp [h0]
   show Q (.bl false) H
   rw [e]
   exact q
def sp_look_house (C:Addr):Sp:=fun vs H Q E=>∃ n:Int,vs=[.int n]∧Sml n∧(Hse n→Q .non H)∧(¬ Hse n→E (.ref C) none H)
theorem sc_look_house:FnScope ["number"] ["number"] (defScope s_look_house):=⟨rfl,rfl,rfl,by decide +kernel,rfl,by decide +kernel,by decide +kernel⟩
theorem ok_look_house (F:Site K mg "look_house" s_look_house) (T:Txt K mg t) (D_is_house:Def P w K mg base 1 "is_house" ["number"] sp_is_house):Def P w K mg base 2 "look_house" ["number"] (sp_look_house t.BadNews):=by
 refine F.def sc_look_house (fun _ _ _ _ _ _ us hl=>match us,hl with | [_],_=>rfl) (fun vs H Q E h=>?_) (fun f cdv A outer s H vs Q E hr h=>?_)
 ·obtain ⟨n,rfl,_⟩:=h
  rfl
 ·obtain ⟨n,rfl,hm,q1,q2⟩:=h
  refine ⟨_,pss_one (ps_if (pt_not (pt_val (pe_def (D_is_house.mono (by decide)) hr passN (pa_cons (pv 0) pa_nil))))
    (pss_one (ps_raise cx1_body rfl rfl T.mBadNews T.xBadNews PySem.F.excBase_ValueError (pa_cons (pe_fstr (pj_cons (pe_fmtI (pv 0)) (pj_cons pe_str pj_nil))) pa_nil)))
    (pss_nil)),?_⟩
  have sl:(5000:Nat)≤sizeLine:=by decide
  refine ⟨_,rfl,n,rfl,_,rfl,?_⟩
  by_cases h0:0≤n∧n < 32
  ·rw [decide_eq_true h0]
   exact iteF (q1 h0)
  ·rw [decide_eq_false h0]
   refine iteT ?_
   have hzl:=txt_len hm
   have f0:(Str.empty ++ Str.ofString (toString n)).length≤1001:=by rw [strLen_append];show 0+_≤1001;omega
   have f1:((Str.empty ++ Str.ofString (toString n)) ++ (" is no house":Str)).length≤2000:=by
    have:(" is no house":Str).length=12:=by decide +kernel
    rw [strLen_append];omega
   refine ⟨_,rfl,n,rfl,log_lt hm (by decide) (by decide),_,rfl,by omega,_,rfl,by omega,by omega,?_⟩
   exact ⟨by show 1≤sizeLine;decide,q2 h0⟩
def sp_look_bounds (C:Addr):Sp:=fun vs H Q E=>∃ n lo hi:Int,vs=[.int n,.int lo,.int hi]∧Sml n∧Sml lo∧Sml hi∧(lo≤n∧n≤hi→Q .non H)∧(¬ (lo≤n∧n≤hi)→E (.ref C) none H)
theorem sc_look_bounds:FnScope ["number","least","most"] ["number","least","most"] (defScope s_look_bounds):=⟨rfl,rfl,rfl,by decide +kernel,rfl,by decide +kernel,by decide +kernel⟩
theorem ok_look_bounds (F:Site K mg "look_bounds" s_look_bounds) (T:Txt K mg t):Def P w K mg base 1 "look_bounds" ["number","least","most"] (sp_look_bounds t.BadNews):=by
 refine F.def sc_look_bounds (fun _ _ _ _ _ _ us hl=>match us,hl with | [_,_,_],_=>rfl) (fun vs H Q E h=>?_) (fun f cdv A outer s H vs Q E hr h=>?_)
 ·obtain ⟨n,lo,hi,rfl,_⟩:=h
  rfl
 ·obtain ⟨n,lo,hi,rfl,hn,hlo,hhi,q1,q2⟩:=h
  refine ⟨_,pss_one (ps_if (pt_not (pt_chain op_le op_le (pv 1) (pv 0) (pv 2)))
    (pss_one (ps_raise cx1_body rfl rfl T.mBadNews T.xBadNews PySem.F.excBase_ValueError (pa_cons (pe_fstr (pj_cons pe_str (pj_cons (pe_fmtI (pv 1)) (pj_cons pe_str (pj_cons (pe_fmtI (pv 2)) (pj_cons pe_str (pj_cons (pe_fmtI (pv 0)) pj_nil))))))) pa_nil)))
    (pss_nil)),?_⟩
  have sl:(5000:Nat)≤sizeLine:=by decide
  have zn:=txt_len hn
  have zl:=txt_len hlo
  have zh:=txt_len hhi
  have l1:("from ":Str).length=5:=by decide +kernel
  have l2:(" to ":Str).length=4:=by decide +kernel
  have l3:(" is asked for here, not ":Str).length=24:=by decide +kernel
  have e1:(Str.empty ++ ("from ":Str)).length≤5:=by rw [strLen_append,l1];show 0+5≤5;omega
  have e2:((Str.empty ++ ("from ":Str)) ++ Str.ofString (toString lo)).length≤1006:=by rw [strLen_append];omega
  have e3:(((Str.empty ++ ("from ":Str)) ++ Str.ofString (toString lo)) ++ (" to ":Str)).length≤1010:=by rw [strLen_append];omega
  have e4:((((Str.empty ++ ("from ":Str)) ++ Str.ofString (toString lo)) ++ (" to ":Str)) ++ Str.ofString (toString hi)).length≤2011:=by rw [strLen_append];omega
  have e5:(((((Str.empty ++ ("from ":Str)) ++ Str.ofString (toString lo)) ++ (" to ":Str)) ++ Str.ofString (toString hi)) ++ (" is asked for here, not ":Str)).length≤2035:=by rw [strLen_append];omega
  have e6:((((((Str.empty ++ ("from ":Str)) ++ Str.ofString (toString lo)) ++ (" to ":Str)) ++ Str.ofString (toString hi)) ++ (" is asked for here, not ":Str)) ++ Str.ofString (toString n)).length≤3036:=by rw [strLen_append];omega
  refine ⟨_,rfl,_,rfl,_,_,rfl,rfl,_,rfl,?_⟩
  by_cases h1:lo≤n
  ·refine iteY h1 ?_
   refine ⟨_,rfl,_,_,rfl,rfl,_,rfl,?_⟩
   by_cases h2:n≤hi
   ·rw [decide_eq_true h2]
    exact iteF (q1 ⟨h1,h2⟩)
   ·rw [decide_eq_false h2]
    refine iteT ?_
    refine ⟨_,rfl,by omega,_,rfl,lo,rfl,log_lt hlo (by decide) (by decide),_,rfl,by omega,_,rfl,by omega,_,rfl,hi,rfl,log_lt hhi (by decide) (by decide),_,rfl,by omega,_,rfl,by omega,_,rfl,n,rfl,log_lt hn (by decide) (by decide),_,rfl,by omega,by omega,?_⟩
    exact ⟨by show 1≤sizeLine;decide,q2 fun z=>h2 z.2⟩
  ·refine iteN h1 ?_
   refine ⟨_,rfl,iteT ?_⟩
   refine ⟨_,rfl,by omega,_,rfl,lo,rfl,log_lt hlo (by decide) (by decide),_,rfl,by omega,_,rfl,by omega,_,rfl,hi,rfl,log_lt hhi (by decide) (by decide),_,rfl,by omega,_,rfl,by omega,_,rfl,n,rfl,log_lt hn (by decide) (by decide),_,rfl,by omega,by omega,?_⟩
   exact ⟨by show 1≤sizeLine;decide,q2 fun z=>h1 z.1⟩
theorem nodup_rev {α:Type} {l:List α}:l.reverse.Nodup↔l.Nodup:=by
 unfold List.Nodup
 rw [List.pairwise_reverse]
 exact ⟨fun h=>h.imp fun e z=>e z.symm,fun h=>h.imp fun e z=>e z.symm⟩
def sp_look_unlike (K:PySem.W.Frag) (C:Addr):Sp:=fun vs H Q E=>∃ (b:Bool) (l:Addr) (ks:List Key) (m:Int),vs=[.ref l,.int m]∧SqB b K H l (ks.map kV)∧ks.length≤1000∧0≤m∧m≤1000 ∧
 ((ks.length:Int)≤m∧ks.Nodup→∀ H',Same H H'→Q .non H')∧(¬ ((ks.length:Int)≤m∧ks.Nodup)→∀ H',Same H H'→E (.ref C) none H')
theorem sc_look_unlike:FnScope ["things","most"] ["things","most"] (defScope s_look_unlike):=⟨rfl,rfl,rfl,by decide +kernel,rfl,by decide +kernel,by decide +kernel⟩
theorem ok_look_unlike (F:Site K mg "look_unlike" s_look_unlike) (T:Txt K mg t):Def P w K mg base 1 "look_unlike" ["things","most"] (sp_look_unlike K t.BadNews):=by
 refine F.def sc_look_unlike (fun _ _ _ _ _ _ us hl=>match us,hl with | [_,_],_=>rfl) (fun vs H Q E h=>?_) (fun f cdv A outer s H vs Q E hr h=>?_)
 ·obtain ⟨b,l,ks,m,rfl,_⟩:=h
  rfl
 ·obtain ⟨b,l,ks,m,rfl,hl,hk,m0,m1,q1,q2⟩:=h
  refine ⟨_,pss_cons (ps_if (pt_cmpR op_gt (pe_callB (call_lenK K) (by rfl) T.n_len boot_len (pa_cons (pv 0) pa_nil)) (pv 1) (nomark _))
    (pss_one (ps_raise cx1_body rfl rfl T.mBadNews T.xBadNews PySem.F.excBase_ValueError (pa_cons (pe_fstr (pj_cons pe_str (pj_cons (pe_fmtI (pv 1)) (pj_cons pe_str pj_nil)))) pa_nil)))
    (pss_nil))
   (pss_one (ps_if (pt_cmpR op_ne (pe_callB call_lenKS (by rfl) T.n_len boot_len (pa_cons (pe_callTy (call_setK K) (by rfl) T.n_set boot_set (pa_cons (pv 0) pa_nil)) pa_nil)) (pe_callB (call_lenK K) (by rfl) T.n_len boot_len (pa_cons (pv 0) pa_nil)) (nomark _))
    (pss_one (ps_raise cx1_body rfl rfl T.mBadNews T.xBadNews PySem.F.excBase_ValueError (pa_cons pe_str pa_nil)))
    (pss_nil))),?_⟩
  have sl:(5000:Nat)≤sizeLine:=by decide
  have hm:m.natAbs < 2 ^ 1000:=small_abs (by omega) (by omega)
  have zl:=txt_len hm
  have l1:("at most ":Str).length=8:=by decide +kernel
  have l2:(" are asked for here":Str).length=19:=by decide +kernel
  have e1:(Str.empty ++ ("at most ":Str)).length≤8:=by rw [strLen_append,l1];show 0+8≤8;omega
  have e2:((Str.empty ++ ("at most ":Str)) ++ Str.ofString (toString m)).length≤1009:=by rw [strLen_append];omega
  have e3:(((Str.empty ++ ("at most ":Str)) ++ Str.ofString (toString m)) ++ (" are asked for here":Str)).length≤1034:=by rw [strLen_append];omega
  refine ⟨_,rfl,l,_,rfl,hl.or,_,rfl,_,_,rfl,rfl,_,rfl,?_⟩
  rw [List.length_map]
  have sb:2000 < scanBound:=by decide
  by_cases h1:m < (ks.length:Nat)
  ·refine iteY h1 ?_
   refine ⟨_,rfl,by omega,_,rfl,m,rfl,log_lt hm (by decide) (by decide),_,rfl,by omega,_,rfl,by omega,by omega,?_⟩
   exact ⟨by show 1≤sizeLine;decide,q2 (fun r=>by have:=r.1;omega) H (Same.refl _)⟩
  ·refine iteN h1 ?_
   refine ⟨_,rfl,l,ks,rfl,hl.or,by omega,fun p hp=>?_⟩
   have s1:=(Same.refl H).new (o:=KSet P w p ks.reverse) hp
   refine ⟨p,_,rfl,upd_same,_,rfl,l,_,rfl,(hl.same s1).or,rfl,_,rfl,?_⟩
   rw [List.length_map]
   by_cases h2:ks.Nodup
   ·have e:=(dd_nodup ks.reverse).mpr (nodup_rev.mpr h2)
    rw [List.length_reverse] at e
    refine iteNN (by rw [e]) ?_
    exact q1 ⟨by omega,h2⟩ _ s1
   ·refine iteNY (fun e=>h2 (nodup_rev.mp ((dd_nodup ks.reverse).mp (by have:=V.int.inj e;rw [List.length_reverse];omega)))) ?_
    exact ⟨by show 1≤sizeLine;decide,q2 (fun r=>h2 r.2) _ s1⟩
end
end K52
namespace K52
open PySem L2 PyProof.Rows
section
variable {P:Program} {w:World} {K:PySem.W.Frag} {mg:Str→Option Value} {base:Heap} {t:Ad}
def Let (c:Nat):Prop:=97≤c∧c≤122
instance (c:Nat):Decidable (Let c):=by unfold Let;infer_instance
def NmOk (cs:List Nat):Prop:=(1≤cs.length∧cs.length≤4)∧∀ c ∈ cs,Let c
instance (cs:List Nat):Decidable (NmOk cs):=by unfold NmOk;infer_instance
def Asc7 (cs:List Nat):Prop:=cs.length≤100∧∀ c ∈ cs,c < 128
theorem one_lt (a b:Nat):([a] < [b])↔a < b:=by
 rw [List.cons_lt_cons_iff];simp
theorem le_a (c:Nat):(!decide ((⟨#[c]⟩:Str).cps.toList < ("a":Str).cps.toList))=decide (97≤c):=by
 have e:((⟨#[c]⟩:Str).cps.toList < ("a":Str).cps.toList)↔c < 97:=one_lt c 97
 by_cases h:97≤c
 ·rw [decide_eq_false (fun z=>by have:=e.mp z;omega),decide_eq_true h];rfl
 ·rw [decide_eq_true (e.mpr (by omega)),decide_eq_false h];rfl
theorem le_z (c:Nat):(!decide (("z":Str).cps.toList < (⟨#[c]⟩:Str).cps.toList))=decide (c≤122):=by
 have e:(("z":Str).cps.toList < (⟨#[c]⟩:Str).cps.toList)↔122 < c:=one_lt 122 c
 by_cases h:c≤122
 ·rw [decide_eq_false (fun z=>by have:=e.mp z;omega),decide_eq_true h];rfl
 ·rw [decide_eq_true (e.mpr (by omega)),decide_eq_false h];rfl
def sp_is_name:Sp:=fun vs H Q _=>∃ cs:List Nat,vs=[.str (ofCodes cs)]∧Asc7 cs∧∀ H',Same H H'→Q (.bl (decide (NmOk cs))) H'
theorem sc_is_name:FnScope ["text"] ["text"] (defScope s_is_name):=⟨rfl,rfl,rfl,by decide +kernel,rfl,by decide +kernel,by decide +kernel⟩
theorem ok_is_name (F:Site K mg "is_name" s_is_name) (T:Txt K mg t):Def P w K mg base 1 "is_name" ["text"] sp_is_name:=by
 refine F.def sc_is_name (fun _ _ _ _ _ _ us hl=>match us,hl with | [_],_=>rfl) (fun vs H Q E h=>?_) (fun f cdv A outer s H vs Q E hr h=>?_)
 ·obtain ⟨cs,rfl,_⟩:=h
  rfl
 ·obtain ⟨cs,rfl,ha,q⟩:=h
  refine ⟨_,pss_one (ps_ret (pe_and (pe_chain op_le op_le pe_int (pe_callB call_len_str (by rfl) T.n_len boot_len (pa_cons (pv 0) pa_nil)) (pe_gint T.cLONGEST_NAME)) (pe_one (pe_callB (call_allK K rfl) (by rfl) T.n_all boot_all (pa_cons (pe_lc rfl (Nc:=["letter"]) (ix:=[none]) (cscope (defScope s_is_name) ["text"] rfl rfl (by decide +kernel)) (pi_str (pv 0)) (fun C fp s H=>⟨(pg_name (i:=0) (show (["letter"]:List Str).Nodup by decide +kernel) rfl (Or.inl rfl)),pts_nil,(pe_chain op_leS op_leS pe_str (pv 0) pe_str)⟩)) pa_nil))))),?_⟩
  have hsz:(2000:Nat)≤sizeLine:=by decide
  have hl:=ha.1
  refine ⟨_,rfl,_,rfl,by rw [ofCodes_length];omega,_,_,rfl,rfl,_,rfl,?_⟩
  rw [ofCodes_length]
  by_cases h1:(1:Int)≤(cs.length:Nat)
  ·refine iteY h1 ?_
   refine ⟨_,_,rfl,rfl,?_⟩
   by_cases h2:((cs.length:Nat):Int)≤4
   ·refine ⟨_,rfl,iteY h2 ?_⟩
    refine ⟨_,rfl,cs,rfl,ha.2,fun D hD=>?_⟩
    refine lc_str (cs:=cs) (fun i σ H'=>∃ v:Option V,σ=[v]∧Same H H'∧H' D=some (.lst (((cs.take i).map fun c=>decide (Let c)).map V.bl))) ⟨none,rfl,(Same.refl _).new hD,upd_same⟩ ?_ ?_
    ·rintro i c σ H' N hN hi ⟨v,rfl,s1,e1⟩
     have hi2:i < cs.length:=(List.getElem?_eq_some_iff.mp hi).1
     have fin:∀ b:Bool,b=decide (Let c)→∃ ys,H' D=some (.lst ys)∧ys.length < sizeLine∧N [some (.str ⟨#[c]⟩)] (upd H' D (.lst (ys ++ [.bl b]))):=by
      rintro b rfl
      refine ⟨_,e1,by rw [List.length_map,List.length_map,List.length_take];omega,hN _ _ ⟨_,rfl,s1.put hD,?_⟩⟩
      rw [upd_same,take_succ hi,List.map_append,List.map_append]
      rfl
     refine turn_do ?_
     refine ⟨_,rfl,_,_,rfl,rfl,_,rfl,?_⟩
     rw [le_a]
     by_cases g1:97≤c
     ·refine iteY g1 ⟨_,_,rfl,rfl,?_⟩
      rw [le_z]
      exact fin _ (by unfold Let;simp [g1])
     ·exact iteN g1 (fin _ (by unfold Let;simp [g1]))
    ·rintro σ H' ⟨v,rfl,s1,e1⟩
     rw [List.take_length] at e1
     refine ⟨D,_,rfl,SqL.of e1,?_⟩
     have e:((cs.map fun c=>decide (Let c)).all id)=decide (NmOk cs):=by
      rw [Bool.eq_iff_iff,List.all_map,List.all_eq_true,decide_eq_true_iff]
      unfold NmOk
      constructor
      ·intro z
       exact ⟨⟨by omega,by omega⟩,fun c hc=>by simpa using z c hc⟩
      ·intro z c hc
       simpa using z.2 c hc
     show Q (.bl ((cs.map fun c=>decide (Let c)).all id)) H'
     rw [e]
     exact q _ s1
   ·refine ⟨_,rfl,iteN h2 ?_⟩
    have e:false=decide (NmOk cs):=by
     rw [eq_comm,decide_eq_false_iff_not]
     exact fun z=>h2 (by have:=z.1.2;omega)
    show Q (.bl false) H
    rw [e]
    exact q _ (Same.refl _)
  ·refine iteN h1 ?_
   refine ⟨_,rfl,iteF ?_⟩
   have e:false=decide (NmOk cs):=by
    rw [eq_comm,decide_eq_false_iff_not]
    exact fun z=>h1 (by have:=z.1.1;omega)
   show Q (.bl false) H
   rw [e]
   exact q _ (Same.refl _)
def nmV (cs:List Nat):V:=.str (ofCodes cs)
def NmsOk (ns:List (List Nat)):Prop:=ns.length≤4∧ns.Nodup∧∀ n ∈ ns,NmOk n
theorem ofCodes_inj {a b:List Nat} (h:ofCodes a=ofCodes b):a=b:=by
 have:=congrArg (fun s:Str=>s.cps.toList) h
 simpa [ofCodes] using this
theorem nm_keys (ns:List (List Nat)):ns.map nmV=(ns.map fun cs=>(Sum.inr (ofCodes cs):Key)).map kV:=by rw [List.map_map];rfl
theorem nm_nodup {ns:List (List Nat)}:(ns.map fun cs=>(Sum.inr (ofCodes cs):Key)).Nodup↔ns.Nodup:=by
 unfold List.Nodup
 rw [List.pairwise_map]
 exact ⟨fun h=>h.imp fun e z=>e (by rw [z]),fun h=>h.imp fun e z=>e (ofCodes_inj (Sum.inr.inj z))⟩
def sp_look_names (K:PySem.W.Frag) (C:Addr):Sp:=fun vs H Q E=>∃ (b:Bool) (l:Addr) (ns:List (List Nat)),vs=[.ref l]∧SqB b K H l (ns.map nmV)∧ns.length≤100∧(∀ n ∈ ns,Asc7 n∧(NmOk n∨(reprText (ofCodes n)).length≤1000))∧(NmsOk ns→∀ H',Same H H'→Q .non H')∧(¬ NmsOk ns→∀ H',Same H H'→E (.ref C) none H')
theorem sc_look_names:FnScope ["names","name"] ["names"] (defScope s_look_names):=⟨rfl,rfl,rfl,by decide +kernel,rfl,by decide +kernel,by decide +kernel⟩
theorem ok_look_names (F:Site K mg "look_names" s_look_names) (T:Txt K mg t) (D_look_unlike:Def P w K mg base 1 "look_unlike" ["things","most"] (sp_look_unlike K t.BadNews)) (D_is_name:Def P w K mg base 1 "is_name" ["text"] sp_is_name):Def P w K mg base 2 "look_names" ["names"] (sp_look_names K t.BadNews):=by
 refine F.def sc_look_names (fun _ _ _ _ _ _ us hl=>match us,hl with | [_],_=>rfl) (fun vs H Q E h=>?_) (fun f cdv A outer s H vs Q E hr h=>?_)
 ·obtain ⟨b,l,ns,rfl,_⟩:=h
  rfl
 ·obtain ⟨b,l,ns,rfl,hl,hn,ha,q1,q2⟩:=h
  refine ⟨_,pss_cons (ps_expr (pe_def (D_look_unlike.mono (by decide)) hr (pass1 cx1_body) (pa_cons (pv 0) (pa_cons (pe_gint T.cMOST_NAMES) pa_nil))))
   (pss_one (ps_for (own1 cx1_body) rfl (pi_seqK K (pv 0)) (pg_name (i:=1) sc_look_names.nd rfl (Or.inl rfl))
    (pss_one (ps_if (pt_not (pt_val (pe_def (D_is_name.mono (by decide)) hr passN (pa_cons (pv 1) pa_nil))))
     (pss_one (ps_raise cx1_body rfl rfl T.mBadNews T.xBadNews PySem.F.excBase_ValueError (pa_cons (pe_fstr (pj_cons (pe_fmtR (pv 1)) (pj_cons pe_str pj_nil))) pa_nil)))
     (pss_nil))))),?_⟩
  have sl:(5000:Nat)≤sizeLine:=by decide
  refine ⟨_,rfl,b,l,_,4,rfl,(nm_keys ns ▸ hl),by rw [List.length_map];omega,by decide,by decide,?_,?_⟩
  ·rw [List.length_map,nm_nodup]
   rintro ⟨h1,h2⟩ H1 s1
   have hl1:=hl.same s1
   refine ⟨_,rfl,b,l,_,rfl,hl1,for_seq (b:=b) (K:=K) (a:=l) (xs:=ns.map nmV) (fun i σ H'=>∃ x:Option V,σ=[some (.ref l),x]∧Same H1 H'∧∀ n ∈ ns.take i,NmOk n) ⟨none,rfl,Same.refl _,fun n hn=>by simp at hn⟩ (fun i σ H' _ ⟨_,_,e,_⟩=>hl1.same e) ?_ ?_⟩
   ·rintro i y σ H' hi ⟨x,rfl,s2,hg⟩
    obtain ⟨n,hz,rfl⟩:∃ n,ns[i]?=some n∧y=nmV n:=by
     rw [List.getElem?_map] at hi
     cases e:ns[i]? with
     | none=>rw [e] at hi;cases hi
     | some n=>rw [e] at hi;exact ⟨n,rfl,(Option.some.inj hi).symm⟩
    have hm:n ∈ ns:=List.mem_of_getElem? hz
    refine ⟨_,rfl,n,rfl,(ha n hm).1,fun H2 s3=>?_⟩
    refine ⟨_,rfl,?_⟩
    by_cases h0:NmOk n
    ·rw [decide_eq_true h0]
     refine iteF ⟨_,rfl,s2.trans s3,?_⟩
     rw [take_succ hz]
     intro n' hn'
     rcases List.mem_append.mp hn' with z1 | z1
     ·exact hg n' z1
     ·rw [List.mem_singleton.mp z1];exact h0
    ·rw [decide_eq_false h0]
     refine iteT ?_
     have hzl:=(ha n hm).2.resolve_left h0
     have f0:(Str.empty ++ reprText (ofCodes n)).length≤1000:=by rw [strLen_append];show 0+_≤1000;omega
     have f1:((Str.empty ++ reprText (ofCodes n)) ++ (" is no name":Str)).length≤2000:=by
      have:(" is no name":Str).length=11:=by decide +kernel
      rw [strLen_append];omega
     refine ⟨_,rfl,_,rfl,by omega,_,rfl,by omega,_,rfl,by omega,by omega,?_⟩
     exact ⟨by show 1≤sizeLine;decide,q2 (fun r=>h0 (r.2.2 n hm)) _ (s1.trans (s2.trans s3))⟩
   ·rintro σ H' ⟨x,rfl,s2,hg⟩
    rw [List.length_map,List.take_length] at hg
    exact q1 ⟨by omega,h2,hg⟩ _ (s1.trans s2)
  ·rw [List.length_map,nm_nodup]
   intro hb H1 s1
   exact q2 (fun z=>hb ⟨by have:=z.1;omega,z.2.1⟩) H1 s1
end
end K52
namespace K52
open PySem L2 PyProof.Rows
section
variable {P:Program} {w:World} {K:PySem.W.Frag} {mg:Str→Option Value} {base:Heap} {t:Ad}
structure Wr where
 o:Int
 q:Int
 a:Int
 b:Int
def wrD (w:Wr):PyData:=.tuple [.int w.o,.int w.q,.tuple [.int w.a,.int w.b]]
def WrOk (w:Wr):Prop:=Hse w.o∧(1≤w.q∧w.q≤10)∧(1≤w.a∧w.a≤9000)∧(1≤w.b∧w.b≤9000)
def WrS (w:Wr):Prop:=Sml w.o∧Sml w.q∧Sml w.a∧Sml w.b
theorem WrOk.sml {w:Wr} (h:WrOk w):WrS w:=⟨.of (by have:=h.1.1;omega) (by have:=h.1.2;omega),.of (by have:=h.2.1.1;omega) (by have:=h.2.1.2;omega),.of (by have:=h.2.2.1.1;omega) (by have:=h.2.2.1.2;omega),.of (by have:=h.2.2.2.1;omega) (by have:=h.2.2.2.2;omega)⟩
theorem dInt {K:PySem.W.Frag} {H:Hp} {n:Nat} {v:V} {i:Int} (h:IsDat K H n v (.int i)):v=.int i:=by cases h;rfl
theorem dStr {K:PySem.W.Frag} {H:Hp} {n:Nat} {v:V} {x:Str} (h:IsDat K H n v (.str x)):v=.str x:=by cases h;rfl
theorem dTup {K:PySem.W.Frag} {H:Hp} {n:Nat} {v:V} {ds:List PyData} (h:IsDat K H (n+1) v (.tuple ds)):∃ a xs,v=.ref a∧SqT K H a xs∧xs.length=ds.length∧∀ (i:Nat) (x:V) (d:PyData),xs[i]?=some x→ds[i]?=some d→IsDat K H n x d:=by
 cases h with
 | tup ha hl h=>exact ⟨_,_,rfl,ha,hl,h⟩
def WAt (K:PySem.W.Frag) (H:Hp) (v:V) (w:Wr):Prop:=IsDat K H 2 v (wrD w)
theorem WAt.out {K:PySem.W.Frag} {H:Hp} {v:V} {w:Wr} (h:WAt K H v w):∃ a p,v=.ref a∧SqT K H a [.int w.o,.int w.q,.ref p]∧SqT K H p [.int w.a,.int w.b]:=by
 obtain ⟨a,xs,rfl,h1,h2,h3⟩:=dTup h
 match xs,h2 with
 | [x,y,z],_ =>
  obtain rfl:=dInt (h3 0 x _ rfl rfl)
  obtain rfl:=dInt (h3 1 y _ rfl rfl)
  obtain ⟨p,ys,rfl,g1,g2,g3⟩:=dTup (h3 2 z _ rfl rfl)
  match ys,g2 with
  | [x,y],_ =>
   obtain rfl:=dInt (g3 0 x _ rfl rfl)
   obtain rfl:=dInt (g3 1 y _ rfl rfl)
   exact ⟨a,p,rfl,h1,g1⟩
theorem WAt.mk {K:PySem.W.Frag} {H:Hp} {a p:Addr} {w:Wr} (h1:SqT K H a [.int w.o,.int w.q,.ref p]) (h2:SqT K H p [.int w.a,.int w.b]):WAt K H (.ref a) w:=by
 refine .tup h1 rfl fun i x d e1 e2=>?_
 match i with
 | 0=>cases e1;cases e2;exact .int _
 | 1=>cases e1;cases e2;exact .int _
 | 2 =>
  cases e1;cases e2
  refine .tup h2 rfl fun i x d e1 e2=>?_
  match i with
  | 0=>cases e1;cases e2;exact .int _
  | 1=>cases e1;cases e2;exact .int _
  | i+2=>simp at e1
 | i+3=>simp at e1
def sp_made_wire (K:PySem.W.Frag) (C:Addr):Sp:=fun vs H Q E=>∃ (v:V) (w:Wr),vs=[v]∧WAt K H v w∧WrS w∧(WrOk w→∀ (r:Addr) H',Same H H'→WAt K H' (.ref r) w→Q (.ref r) H')∧(¬ WrOk w→E (.ref C) none H)
theorem sc_made_wire:FnScope ["wire","birth"] ["wire"] (defScope s_made_wire):=⟨rfl,rfl,rfl,by decide +kernel,rfl,by decide +kernel,by decide +kernel⟩
theorem ok_made_wire (F:Site K mg "made_wire" s_made_wire) (T:Txt K mg t) (D_look_house:Def P w K mg base 2 "look_house" ["number"] (sp_look_house t.BadNews)) (D_look_bounds:Def P w K mg base 1 "look_bounds" ["number","least","most"] (sp_look_bounds t.BadNews)):Def P w K mg base 3 "made_wire" ["wire"] (sp_made_wire K t.BadNews):=by
 refine F.def sc_made_wire (fun _ _ _ _ _ _ us hl=>match us,hl with | [_],_=>rfl) (fun vs H Q E h=>?_) (fun f cdv A outer s H vs Q E hr h=>?_)
 ·obtain ⟨v,x,rfl,_⟩:=h
  rfl
 ·obtain ⟨v,x,rfl,hw,hs,q1,q2⟩:=h
  refine ⟨_,pss_cons (ps_expr (pe_def (D_look_house.mono (by decide)) hr (pass1 cx1_body) (pa_cons (pe_ix (ix_tupK K) (pv 0) pe_int (fun _ _=>rfl)) pa_nil)))
   (pss_cons (ps_expr (pe_def (D_look_bounds.mono (by decide)) hr (pass1 cx1_body) (pa_cons (pe_ix (ix_tupK K) (pv 0) pe_int (fun _ _=>rfl)) (pa_cons pe_int (pa_cons (pe_gint T.cMOST_QUIET) pa_nil)))))
   (pss_cons (ps_for (own1 cx1_body) rfl (pi_tupK K (pe_ix (ix_tupK K) (pv 0) pe_int (fun _ _=>rfl))) (pg_name (i:=1) sc_made_wire.nd rfl (Or.inl rfl))
    (pss_one (ps_expr (pe_def (D_look_bounds.mono (by decide)) hr (pass1 cx1_body) (pa_cons (pv 1) (pa_cons pe_int (pa_cons (pe_gint T.cMOST_BIRTH) pa_nil)))))))
   (pss_one (ps_ret (pe_tup (pa_cons (pe_ix (ix_tupK K) (pv 0) pe_int (fun _ _=>rfl)) (pa_cons (pe_ix (ix_tupK K) (pv 0) pe_int (fun _ _=>rfl)) (pa_cons (pe_callTy (call_tupleK K) (by rfl) T.n_tuple boot_tuple (pa_cons (pe_ix (ix_tupK K) (pv 0) pe_int (fun _ _=>rfl)) pa_nil)) pa_nil)))))))),?_⟩
  obtain ⟨a,p,rfl,h1,h2⟩:=hw.out
  refine ⟨_,rfl,a,_,_,_,rfl,rfl,h1,rfl,x.o,rfl,hs.1,fun g1=>?_,fun g1=>q2 fun z=>g1 z.1⟩
  refine ⟨_,rfl,a,_,_,_,rfl,rfl,h1,rfl,x.q,1,10,rfl,hs.2.1,.of (by decide) (by decide),.of (by decide) (by decide),fun g2=>?_,fun g2=>q2 fun z=>g2 z.2.1⟩
  refine ⟨_,rfl,a,_,_,_,rfl,rfl,h1,rfl,p,rfl,⟨_,h2⟩,for_tup (K:=K) (a:=p) (xs:=[.int x.a,.int x.b]) (fun i σ H'=>∃ v:Option V,σ=[some (.ref a),v]∧H'=H∧(1≤i→1≤x.a∧x.a≤9000)∧(2≤i→1≤x.b∧x.b≤9000)) ⟨none,rfl,rfl,fun z=>by omega,fun z=>by omega⟩ (fun i σ H' _ ⟨_,_,e,_⟩=>by rw [e];exact h2) ?_ ?_⟩
  ·rintro i y σ H' hi ⟨v,rfl,rfl,k1,k2⟩
   match i,hi with
   | 0,hi =>
    cases hi
    refine ⟨_,rfl,x.a,1,9000,rfl,hs.2.2.1,.of (by decide) (by decide),.of (by decide) (by decide),fun g=>⟨_,rfl,rfl,fun _=>g,fun z=>by omega⟩,fun g=>q2 fun z=>g z.2.2.1⟩
   | 1,hi =>
    cases hi
    refine ⟨_,rfl,x.b,1,9000,rfl,hs.2.2.2,.of (by decide) (by decide),.of (by decide) (by decide),fun g=>⟨_,rfl,rfl,fun _=>k1 (by omega),fun _=>g⟩,fun g=>q2 fun z=>g z.2.2.2⟩
   | i+2,hi=>simp at hi
  ·rintro σ H' ⟨v,rfl,rfl,k1,k2⟩
   refine ⟨_,rfl,a,_,_,_,rfl,rfl,h1,rfl,_,rfl,a,_,_,_,rfl,rfl,h1,rfl,_,rfl,a,_,_,_,rfl,rfl,h1,rfl,p,_,rfl,.inr ⟨h2,?_⟩⟩
   refine ⟨by show 3≤sizeLine;decide,fun r hr2=>?_⟩
   have s1:=(Same.refl H').new (o:=.tup [.int x.o,.int x.q,.ref p]) hr2
   exact q1 ⟨g1,g2,k1 (by show 1≤2;decide),k2 (by show 2≤2;decide)⟩ r _ s1 (.mk (.inl (.inl upd_same)) (s1.tup h2))
end
end K52
namespace K52
open PySem L2 PyProof.Rows
section
variable {P:Program} {w:World} {K:PySem.W.Frag} {mg:Str→Option Value} {base:Heap} {t:Ad}
theorem lc_seq {K:PySem.W.Frag} {g:TG} {tt:TT} {te:TE} {D:Addr} {σ:L2.St} {H:Hp} {Q:VK} {b:Bool} {a:Addr} {xs:List V} (Pv:Nat→L2.St→Hp→Prop) (h0:Pv 0 σ H) (hl:∀ i σ H,i≤xs.length→Pv i σ H→SqB b K H a xs)
  (hs:∀ (i:Nat) (x:V) (σ:L2.St) (H:Hp) (N:L2.St→Hp→Prop),(∀ σ H,Pv (i+1) σ H→N σ H)→xs[i]?=some x→Pv i σ H→g x σ H fun σ3 H3=>tt σ3 H3 fun b H4 =>
   if b=true then te σ3 H4 fun v H5=>∃ ys,H5 D=some (.lst ys)∧ys.length < sizeLine∧N σ3 (upd H5 D (.lst (ys ++ [v]))) else N σ3 H4)
  (hd:∀ σ H,Pv xs.length σ H→Q (.ref D) H):lcRun (ItS b K a xs) g tt te D σ H Q:=by
 refine ⟨fun i m σ H=>m=xs.length - i∧i≤xs.length∧Pv i σ H,⟨xs.length,by simp,Nat.zero_le _,h0⟩,?_⟩
 rintro i m σ' H' ⟨rfl,hi,p⟩
 by_cases hlt:i < xs.length
 ·refine .inr ⟨⟨hl i σ' H' hi p,hlt⟩,fun x H2 y=>?_⟩
  obtain ⟨e,y⟩:=y
  subst e
  exact hs i x σ' _ (fun σ3 H3=>∃ m',m' < xs.length - i∧m'=xs.length - (i+1)∧i+1≤xs.length∧Pv (i+1) σ3 H3) (fun σ3 H3 z=>⟨xs.length - (i+1),by omega,rfl,hlt,z⟩) y p
 ·have e:i=xs.length:=by omega
  subst e
  exact .inl ⟨⟨hl _ σ' H' hi p,Nat.le_refl _⟩,hd σ' H' p⟩
def insK {α:Type} (lt:α→α→Bool) (x:α):List α→List α
 | []=>[x]
 | y :: r=>if lt y x=true then y :: insK lt x r else x :: y :: r
def srtK {α:Type} (lt:α→α→Bool) (l:List α):List α:=l.foldl (fun acc x=>insK lt x acc) []
theorem insK_perm {α:Type} {lt:α→α→Bool} {x:α}:∀ l:List α,(insK lt x l).Perm (x :: l)
 | []=>.refl _
 | y :: r=>by
  unfold insK
  split
  ·exact ((insK_perm r).cons y).trans (.swap x y r)
  ·exact .refl _
theorem insK_pair {α:Type} {lt:α→α→Bool} {S:α→Prop} (tot:∀ a b,S a→S b→lt a b=true→lt b a=false) (trn:∀ a b c,S a→S b→S c→lt b a=false→lt c b=false→lt c a=false) {x:α} (hx:S x) :
  ∀ l:List α,(∀ y ∈ l,S y)→l.Pairwise (fun a b=>lt b a=false)→(insK lt x l).Pairwise (fun a b=>lt b a=false)
 | [],_,_=>List.pairwise_singleton _ _
 | y :: r,hl,h=>by
  obtain ⟨h1,h2⟩:=List.pairwise_cons.mp h
  have hy:=hl y List.mem_cons_self
  unfold insK
  split
  ·rename_i c
   refine List.pairwise_cons.mpr ⟨fun z hz=>?_,insK_pair tot trn hx r (fun z hz=>hl z (List.mem_cons_of_mem _ hz)) h2⟩
   rcases List.mem_cons.mp ((insK_perm r).mem_iff.mp hz) with rfl | hz
   ·exact tot _ _ hy hx c
   ·exact h1 z hz
  ·rename_i c
   have c:lt y x=false:=by simpa using c
   refine List.pairwise_cons.mpr ⟨fun z hz=>?_,h⟩
   rcases List.mem_cons.mp hz with rfl | hz
   ·exact c
   ·exact trn x y z hx hy (hl z (List.mem_cons_of_mem _ hz)) c (h1 z hz)
theorem srtK_go {α:Type} {lt:α→α→Bool} {S:α→Prop} (tot:∀ a b,S a→S b→lt a b=true→lt b a=false) (trn:∀ a b c,S a→S b→S c→lt b a=false→lt c b=false→lt c a=false) :
  ∀ (l acc:List α),(∀ y ∈ l,S y)→(∀ y ∈ acc,S y)→acc.Pairwise (fun a b=>lt b a=false)→(l.foldl (fun acc x=>insK lt x acc) acc).Perm (acc ++ l)∧(l.foldl (fun acc x=>insK lt x acc) acc).Pairwise (fun a b=>lt b a=false)
 | [],acc,_,_,h=>⟨by rw [List.append_nil];exact .refl _,h⟩
 | x :: l,acc,hl,ha,h=>by
  have hx:=hl x List.mem_cons_self
  have:=srtK_go tot trn l (insK lt x acc) (fun y hy=>hl y (List.mem_cons_of_mem _ hy)) (fun y hy=>(List.mem_cons.mp ((insK_perm acc).mem_iff.mp hy)).elim (fun e=>e ▸ hx) (ha y)) (insK_pair tot trn hx acc ha h)
  refine ⟨this.1.trans (((insK_perm acc).append_right l).trans ?_),this.2⟩
  exact List.perm_middle.symm
def sD (ds:List PyData):List PyData:=srtK lesD ds
theorem ordD_sorted {ds:List PyData} (O:OrdD ds):(sD ds).Perm ds∧(sD ds).Pairwise (fun a b=>lesD b a=false) :=
 srtK_go (lt:=lesD) (S:=(· ∈ ds)) (fun a b ha hb=>O.tot a ha b hb) (fun a b c ha hb hc=>O.trn a ha b hb c hc) ds [] (fun _ h=>h) (fun _ h=>absurd h List.not_mem_nil) .nil
theorem ordD_uniq {ds es:List PyData} (O:OrdD ds) (ant:∀ d ∈ ds,∀ e ∈ ds,lesD d e=false→lesD e d=false→d=e) (hp:es.Perm ds) (hs:es.Pairwise (fun a b=>lesD b a=false)):es=sD ds :=
 List.Perm.eq_of_pairwise (le:=fun a b=>lesD b a=false) (fun a b ha hb h1 h2=>ant a (hp.mem_iff.mp ha) b ((ordD_sorted O).1.mem_iff.mp hb) h2 h1) hs (ordD_sorted O).2 (hp.trans (ordD_sorted O).1.symm)
theorem ord_key {α:Type} {κ:Type} [LT κ] [DecidableLT κ] (asy:∀ a b:κ,a < b→¬ b < a) (trn:∀ a b c:κ,¬ b < a→¬ c < b→¬ c < a) {key:α→κ} {f:α→PyData} (hk:∀ x y,lesD (f x) (f y)=decide (key x < key y)) (ok:∀ x y,okD (f x) (f y)=true) {l:List α} (kd:KindD (l.map f)):OrdD (l.map f) where
 kd:=kd
 ok:=fun d hd e he=>by
  obtain ⟨x,_,rfl⟩:=List.mem_map.mp hd
  obtain ⟨y,_,rfl⟩:=List.mem_map.mp he
  exact ok x y
 tot:=fun d hd e he h=>by
  obtain ⟨x,_,rfl⟩:=List.mem_map.mp hd
  obtain ⟨y,_,rfl⟩:=List.mem_map.mp he
  rw [hk,decide_eq_true_iff] at h
  rw [hk,decide_eq_false_iff_not]
  exact asy _ _ h
 trn:=fun d hd e he g hg h1 h2=>by
  obtain ⟨x,_,rfl⟩:=List.mem_map.mp hd
  obtain ⟨y,_,rfl⟩:=List.mem_map.mp he
  obtain ⟨z,_,rfl⟩:=List.mem_map.mp hg
  rw [hk,decide_eq_false_iff_not] at h1 h2 ⊢
  exact trn _ _ _ h1 h2
def keyW (w:Wr):List Int:=[w.o,w.q,w.a,w.b]
theorem les_wr (v w:Wr):lesD (wrD v) (wrD w)=decide (keyW v < keyW w):=by
 obtain ⟨o,q,a,b⟩:=v
 obtain ⟨o',q',a',b'⟩:=w
 simp only [wrD,keyW,lesD,lesDs,PyData.eqv,PyData.eqvAll,List.cons_lt_cons_iff]
 by_cases h1:o=o' <;> by_cases h2:q=q' <;> by_cases h3:a=a' <;> by_cases h4:b=b' <;> simp [h1,h2,h3,h4]
theorem wr_okD (v w:Wr):okD (wrD v) (wrD w)=true:=by
 simp [wrD,okD,okDs]
theorem ordW (ws:List Wr):OrdD (ws.map wrD):=ord_key (κ:=List Int) (fun a b h=>List.lt_asymm h) (fun a b c h1 h2=>List.not_lt.mpr (List.le_trans (List.not_lt.mp h1) (List.not_lt.mp h2))) les_wr wr_okD (.rows fun d hd=>by
 obtain ⟨w,_,rfl⟩:=List.mem_map.mp hd
 exact ⟨_,_,rfl⟩)
theorem antW (ws:List Wr):∀ d ∈ ws.map wrD,∀ e ∈ ws.map wrD,lesD d e=false→lesD e d=false→d=e:=by
 intro d hd e he h1 h2
 obtain ⟨v,_,rfl⟩:=List.mem_map.mp hd
 obtain ⟨w,_,rfl⟩:=List.mem_map.mp he
 rw [les_wr,decide_eq_false_iff_not] at h1 h2
 have k:keyW v=keyW w:=List.le_antisymm (List.not_lt.mp h2) (List.not_lt.mp h1)
 obtain ⟨o,q,a,b⟩:=v
 obtain ⟨o',q',a',b'⟩:=w
 simp only [keyW,List.cons.injEq,and_true] at k
 obtain ⟨rfl,rfl,rfl,rfl⟩:=k
 rfl
def nmD (cs:List Nat):PyData:=.str (ofCodes cs)
theorem les_nm (m n:List Nat):lesD (nmD m) (nmD n)=decide (m < n):=by
 simp [nmD,lesD,ofCodes]
theorem ordN (ns:List (List Nat)):OrdD (ns.map nmD):=ord_key (κ:=List Nat) (key:=id) (fun a b h=>List.lt_asymm h) (fun a b c h1 h2=>List.not_lt.mpr (List.le_trans (List.not_lt.mp h1) (List.not_lt.mp h2))) les_nm (fun x y=>by simp [nmD,okD]) (.strs fun d hd=>by
 obtain ⟨w,_,rfl⟩:=List.mem_map.mp hd
 exact ⟨_,rfl⟩)
theorem antN (ns:List (List Nat)):∀ d ∈ ns.map nmD,∀ e ∈ ns.map nmD,lesD d e=false→lesD e d=false→d=e:=by
 intro d hd e he h1 h2
 obtain ⟨v,_,rfl⟩:=List.mem_map.mp hd
 obtain ⟨w,_,rfl⟩:=List.mem_map.mp he
 rw [les_nm,decide_eq_false_iff_not] at h1 h2
 rw [show v=w from List.le_antisymm (List.not_lt.mp h2) (List.not_lt.mp h1)]
end
end K52
namespace K52
open PySem L2 PyProof.Rows
section
variable {P:Program} {w:World} {K:PySem.W.Frag} {mg:Str→Option Value} {base:Heap} {t:Ad}
def NearOk (house:Int) (ws:List Wr):Prop:=(∀ w ∈ ws,WrOk w)∧ws.length≤5∧(ws.map (·.o)).Nodup∧house ∉ ws.map (·.o)
theorem nearOk_perm {house:Int} {ws vs:List Wr} (h:vs.Perm ws):NearOk house vs↔NearOk house ws:=by
 unfold NearOk
 rw [h.length_eq,(h.map (·.o)).nodup_iff,(h.map (·.o)).mem_iff]
 exact ⟨fun z=>⟨fun w hw=>z.1 w (h.mem_iff.mpr hw),z.2⟩,fun z=>⟨fun w hw=>z.1 w (h.mem_iff.mp hw),z.2⟩⟩
theorem WAt.same {K:PySem.W.Frag} {H H':Hp} {v:V} {w:Wr} (h:WAt K H v w) (s:Same H H'):WAt K H' v w:=IsDat.same h s
def WsAt (K:PySem.W.Frag) (H:Hp) (zs:List (V × Wr)):Prop:=∀ z ∈ zs,WAt K H z.1 z.2
theorem WsAt.same {K:PySem.W.Frag} {H H':Hp} {zs:List (V × Wr)} (h:WsAt K H zs) (s:Same H H'):WsAt K H' zs:=fun z hz=>(h z hz).same s
theorem WsAt.tup {K:PySem.W.Frag} {H:Hp} {zs:List (V × Wr)} {a:Addr} (h:WsAt K H zs) (ha:SqT K H a (zs.map (·.1))):IsDat K H 3 (.ref a) (.tuple (zs.map fun z=>wrD z.2)):=by
 refine .tup ha (by simp) fun i x d e1 e2=>?_
 rw [List.getElem?_map] at e1 e2
 cases e:zs[i]? with
 | none=>rw [e] at e1;cases e1
 | some z=>rw [e] at e1 e2;cases e1;cases e2;exact h z (List.mem_of_getElem? e)
theorem perm_back {α β:Type} (g:α→β) {l m:List β} (h:l.Perm m):∀ zs:List α,m=zs.map g→∃ us:List α,us.Perm zs∧l=us.map g:=by
 induction h with
 | nil=>intro zs e;cases zs with
  | nil=>exact ⟨[],.refl _,rfl⟩
  | cons z r=>cases e
 | cons x _ ih=>intro zs e;cases zs with
  | nil=>cases e
  | cons z r =>
   obtain ⟨e1,e2⟩:=List.cons.inj e
   obtain ⟨us,h1,h2⟩:=ih r e2
   exact ⟨z :: us,h1.cons z,by rw [List.map_cons,← h2,e1]⟩
 | swap x y l=>intro zs e;cases zs with
  | nil=>cases e
  | cons z r=>cases r with
   | nil=>cases e
   | cons z2 r =>
    obtain ⟨e1,e2⟩:=List.cons.inj e
    obtain ⟨e3,e4⟩:=List.cons.inj e2
    exact ⟨z2 :: z :: r,.swap z z2 r,by rw [List.map_cons,List.map_cons,← e4,e1,e3]⟩
 | trans _ _ ih1 ih2 =>
  intro zs e
  obtain ⟨us,h1,h2⟩:=ih2 zs e
  obtain ⟨vs,h3,h4⟩:=ih1 us h2
  exact ⟨vs,h3.trans h1,h4⟩
theorem kept_upd {H:Hp} {D:Addr} {xs:List V} {o:HO} (h:H D=some (.lst xs)):Kept H (upd H D o):=fun a ys e=>by
 have ne:a≠D:=by
  rintro rfl
  rcases e with e | ⟨u,e⟩ <;> (rw [h] at e;cases e)
 rcases e with e | ⟨u,e⟩
 ·exact .inl (by rw [upd_ne ne];exact e)
 ·exact .inr ⟨u,by rw [upd_ne ne];exact e⟩
theorem noL_wr (w:Wr):noL (wrD w)=true:=by simp [wrD,noL,noLAll]
theorem WAt.kept {K:PySem.W.Frag} {H H':Hp} {v:V} {w:Wr} (h:WAt K H v w) (k:Kept H H'):WAt K H' v w:=IsDat.kept h k (noL_wr w)
theorem WsAt.kept {K:PySem.W.Frag} {H H':Hp} {zs:List (V × Wr)} (h:WsAt K H zs) (k:Kept H H'):WsAt K H' zs:=fun z hz=>(h z hz).kept k
theorem int_keys (ns:List Int):ns.map V.int=(ns.map Sum.inl).map kV:=by rw [List.map_map];rfl
theorem int_nodup {ns:List Int}:(ns.map (Sum.inl:Int→Key)).Nodup↔ns.Nodup:=by
 unfold List.Nodup
 rw [List.pairwise_map]
 exact ⟨fun h=>h.imp fun e z=>e (by rw [z]),fun h=>h.imp fun e z=>e (Sum.inl.inj z)⟩
theorem in_ints' (n:Int) (ns:List Int):inV (.int n) (ns.map V.int)=decide (n ∈ ns):=by
 unfold inV
 rw [Bool.eq_iff_iff,List.any_map,List.any_eq_true,decide_eq_true_iff]
 constructor
 ·rintro ⟨x,hx,h⟩
  have:x=n:=by simpa [eqV] using h
  exact this ▸ hx
 ·intro h
  exact ⟨n,h,by simp [eqV]⟩
theorem flat_ints (ns:List Int):(ns.map V.int).all flatV=true:=by
 rw [List.all_map,List.all_eq_true]
 intro _ _
 rfl
def sp_made_near (K:PySem.W.Frag) (C:Addr):Sp:=fun vs H Q E=>∃ (b:Bool) (l:Addr) (zs:List (V × Wr)) (house:Int),vs=[.int house,.ref l]∧SqB b K H l (zs.map (·.1))∧WsAt K H zs∧zs.length≤50∧(∀ z ∈ zs,WrS z.2) ∧
 (NearOk house (zs.map (·.2))→∀ (r:Addr) (H':Hp),Same H H'→IsDat K H' 3 (.ref r) (.tuple (sD ((zs.map (·.2)).map wrD)))→Q (.ref r) H')∧(¬ NearOk house (zs.map (·.2))→∀ H',Same H H'→E (.ref C) none H')
theorem sc_made_near:FnScope ["house","near","wires","others"] ["house","near"] (defScope s_made_near):=⟨rfl,rfl,rfl,by decide +kernel,rfl,by decide +kernel,by decide +kernel⟩
set_option maxHeartbeats 1000000 in
theorem ok_made_near (F:Site K mg "made_near" s_made_near) (T:Txt K mg t) (D_made_wire:Def P w K mg base 3 "made_wire" ["wire"] (sp_made_wire K t.BadNews)) (D_look_unlike:Def P w K mg base 1 "look_unlike" ["things","most"] (sp_look_unlike K t.BadNews)):Def P w K mg base 4 "made_near" ["house","near"] (sp_made_near K t.BadNews):=by
 refine F.def sc_made_near (fun _ _ _ _ _ _ us hl=>match us,hl with | [_,_],_=>rfl) (fun vs H Q E h=>?_) (fun f cdv A outer s H vs Q E hr h=>?_)
 ·obtain ⟨b,l,zs,house,rfl,_⟩:=h
  rfl
 ·obtain ⟨b,l,zs,house,rfl,hl,hw,hn,hs,q1,q2⟩:=h
  refine ⟨_,pss_cons (ps_set (i:=2) sc_made_near.nd rfl (Or.inl rfl) (pe_callB (call_sorted K (hu16 hr)) (by rfl) T.n_sorted boot_sorted (pa_cons (pe_lcX cx1_body rfl (Nc:=["wire"]) (ix:=[none]) (cscope (defScope s_made_near) ["house","near","wires","others"] rfl rfl (by decide +kernel)) (pi_seqK K (pv 1)) (fun C fp s H=>⟨(pg_name (i:=0) (show (["wire"]:List Str).Nodup by decide +kernel) rfl (Or.inl rfl)),pts_nil,(pe_def (D_made_wire.mono (by decide)) hr passX (pa_cons (pv 0) pa_nil))⟩)) pa_nil)))
   (pss_cons (ps_setLC (i:=3) sc_made_near.nd rfl (Or.inl rfl) rfl (Nc:=["wire"]) (ix:=[none]) (cscope (defScope s_made_near) ["house","near","wires","others"] rfl rfl (by decide +kernel)) (pi_listK K (pv 2)) (fun C fp s H=>⟨(pg_name (i:=0) (show (["wire"]:List Str).Nodup by decide +kernel) rfl (Or.inl rfl)),pts_nil,(pe_ix (ix_tupK K) (pv 0) pe_int (fun _ _=>rfl))⟩))
   (pss_cons (ps_expr (pe_def (D_look_unlike.mono (by decide)) hr (pass1 cx1_body) (pa_cons (pv 3) (pa_cons (pe_gint T.cMOST_NEAR) pa_nil))))
   (pss_cons (ps_if (pt_cmpR op_in_seq (pv 0) (pv 3) (by rfl))
    (pss_one (ps_raise cx1_body rfl rfl T.mBadNews T.xBadNews PySem.F.excBase_ValueError (pa_cons pe_str pa_nil)))
    (pss_nil))
   (pss_one (ps_ret (pe_callTy (call_tupleK K) (by rfl) T.n_tuple boot_tuple (pa_cons (pv 2) pa_nil))))))),?_⟩
  have hsz:(2000:Nat)≤sizeLine:=by decide
  refine ⟨_,rfl,b,l,_,rfl,hl,fun D hD=>?_⟩
  refine lc_seq (b:=b) (K:=K) (a:=l) (xs:=zs.map (·.1)) (fun i σ H'=>∃ (v:Option V) (us:List (V × Wr)),σ=[v]∧Same H H'∧H' D=some (.lst (us.map (·.1)))∧WsAt K H' us∧us.map (·.2)=(zs.take i).map (·.2)∧∀ z ∈ zs.take i,WrOk z.2)
   ⟨none,[],rfl,(Same.refl _).new hD,upd_same,fun z hz=>absurd hz List.not_mem_nil,rfl,fun z hz=>absurd hz List.not_mem_nil⟩ (fun i σ H' _ ⟨_,_,_,s1,_⟩=>hl.same s1) ?_ ?_
  ·rintro i x σ H' N hN hi ⟨v,us,rfl,s1,e1,hu,hu2,hg⟩
   rw [List.getElem?_map] at hi
   cases ez:zs[i]? with
   | none=>rw [ez] at hi;cases hi
   | some z =>
    rw [ez] at hi
    obtain rfl:z.1=x:=Option.some.inj hi
    have hm:z ∈ zs:=List.mem_of_getElem? ez
    have hi2:i < zs.length:=(List.getElem?_eq_some_iff.mp ez).1
    refine turn_do ?_
    refine ⟨_,rfl,z.1,z.2,rfl,(hw z hm).same s1,hs z hm,fun g r H2 s2 wa=>?_,fun g=>?_⟩
    ·have hu1:us.length=i:=by
      have:=congrArg List.length hu2
      rw [List.length_map,List.length_map,List.length_take] at this
      omega
     refine ⟨_,s2 _ _ e1,by rw [List.length_map];omega,hN _ _ ⟨_,us ++ [(.ref r,z.2)],rfl,(s1.trans s2).put hD,by rw [upd_same,List.map_append];rfl,fun y hy=>?_,?_,fun y hy=>?_⟩⟩
     ·have kp:=kept_upd (o:=.lst (us.map (·.1) ++ [V.ref r])) (s2 _ _ e1)
      rcases List.mem_append.mp hy with h | h
      ·exact ((hu y h).same s2).kept kp
      ·rw [List.mem_singleton.mp h];exact wa.kept kp
     ·rw [take_succ ez,List.map_append,List.map_append,hu2];rfl
     ·rw [take_succ ez] at hy
      rcases List.mem_append.mp hy with h | h
      ·exact hg y h
      ·rw [List.mem_singleton.mp h];exact g
    ·exact q2 (fun z'=>g (z'.1 _ (List.mem_map.mpr ⟨z,hm,rfl⟩))) _ s1
  ·rintro σ H' ⟨v,us,rfl,s1,e1,hu,hu2,hg⟩
   rw [List.length_map] at hu2 hg
   rw [List.take_length] at hu2 hg
   have hul:us.length=zs.length:=by
    have:=congrArg List.length hu2
    rwa [List.length_map,List.length_map] at this
   refine ⟨true,D,us.map fun z=>(z.1,wrD z.2),rfl,by rw [List.map_map];exact SqL.of e1,by rw [List.length_map];omega,fun y hy=>?_,?_,fun ys r hp hsr hr2=>?_⟩
   ·obtain ⟨z,hz,rfl⟩:=List.mem_map.mp hy
    exact IsDat.up (hu z hz) (by decide)
   ·have:=ordW (us.map (·.2))
    rw [List.map_map] at this ⊢
    exact this
   obtain ⟨vs,hv1,rfl⟩:=perm_back (fun z:V × Wr=>(z.1,wrD z.2)) hp us rfl
   have hvl:vs.length=zs.length:=hv1.length_eq.trans hul
   have hvp:(vs.map (·.2)).Perm (zs.map (·.2)):=by rw [← hu2];exact hv1.map _
   have es:vs.map (fun z=>wrD z.2)=sD ((zs.map (·.2)).map wrD):=by
    refine ordD_uniq (ordW _) (antW _) ?_ ?_
    ·have:=hvp.map wrD
     rw [List.map_map] at this
     exact this
    ·rw [List.pairwise_map] at hsr ⊢
     exact hsr
   have s2:=s1.new (o:=.lst ((vs.map fun z=>(z.1,wrD z.2)).map (·.1))) hr2
   have e2:(upd H' r (.lst ((vs.map fun z=>(z.1,wrD z.2)).map (·.1)))) r=some (.lst (vs.map (·.1))):=by rw [upd_same,List.map_map];rfl
   have hv2:WsAt K (upd H' r (.lst ((vs.map fun z=>(z.1,wrD z.2)).map (·.1)))) vs:=fun z hz=>(hu z (hv1.mem_iff.mp hz)).same ((Same.refl H').new hr2)
   generalize upd H' r (.lst ((vs.map fun z=>(z.1,wrD z.2)).map (·.1)))=H1 at s2 e2 hv2 ⊢
   refine ⟨_,rfl,r,rfl,⟨_,SqL.of e2⟩,fun D2 hD2=>?_⟩
   refine lc_list (K:=K) (a:=r) (xs:=vs.map (·.1)) (fun i σ H2=>∃ v:Option V,σ=[v]∧Same H1 H2∧H2 D2=some (.lst (((vs.take i).map (·.2.o)).map V.int))) ⟨none,rfl,(Same.refl _).new hD2,upd_same⟩ (fun i σ H2 _ ⟨_,_,s3,_⟩=>SqL.of (s3 _ _ e2)) ?_ ?_
   ·rintro i x σ H2 N hN hi ⟨v,rfl,s3,e3⟩
    rw [List.getElem?_map] at hi
    cases ez:vs[i]? with
    | none=>rw [ez] at hi;cases hi
    | some z =>
     rw [ez] at hi
     obtain rfl:z.1=x:=Option.some.inj hi
     have hm:z ∈ vs:=List.mem_of_getElem? ez
     have hi2:i < vs.length:=(List.getElem?_eq_some_iff.mp ez).1
     obtain ⟨a,p,ea,h1,h2⟩:=((hv2 z hm).same s3).out
     refine turn_do ?_
     refine ⟨_,rfl,a,_,_,_,ea,rfl,h1,rfl,_,e3,by rw [List.length_map,List.length_map,List.length_take];omega,hN _ _ ⟨_,rfl,s3.put hD2,?_⟩⟩
     rw [upd_same,take_succ ez,List.map_append,List.map_append]
     rfl
   ·rintro σ H2 ⟨v,rfl,s3,e3⟩
    rw [List.length_map,List.take_length] at e3
    have eo:vs.map (·.2.o)=(vs.map (·.2)).map (·.o):=by rw [List.map_map];rfl
    rw [eo] at e3
    have hNO:=nearOk_perm (house:=house) hvp
    have all:∀ x ∈ vs.map (·.2),WrOk x:=fun x hx=>by
     have:=hvp.mem_iff.mp hx
     obtain ⟨z,hz,rfl⟩:=List.mem_map.mp this
     exact hg z hz
    have hlen:((vs.map (·.2)).map (·.o)).length=zs.length:=by rw [List.length_map,List.length_map];exact hvl
    refine ⟨_,rfl,true,D2,((vs.map (·.2)).map (·.o)).map Sum.inl,5,rfl,by rw [← int_keys];exact SqL.of e3,by rw [List.length_map];omega,by decide,by decide,?_,?_⟩
    ·rw [List.length_map,int_nodup]
     rintro ⟨k1,k2⟩ H3 s4
     refine ⟨_,rfl,_,rfl,D2,_,rfl,.inl (SqL.of (s4 _ _ e3)),rfl,flat_ints _,_,rfl,?_⟩
     show if (inV (.int house) (((vs.map (·.2)).map (·.o)).map V.int))=true then _ else _
     rw [in_ints']
     by_cases hh:house ∈ (vs.map (·.2)).map (·.o)
     ·refine iteY hh ?_
      exact ⟨by show 1≤sizeLine;decide,q2 (fun z=>(hNO.mpr z).2.2.2 hh) _ (s2.trans (s3.trans s4))⟩
     ·refine iteN hh ?_
      refine ⟨_,rfl,r,_,rfl,.inl ⟨SqL.of (s4 _ _ (s3 _ _ e2)),fun p hp2=>?_⟩⟩
      have s5:=(Same.refl H3).new (o:=.tup (vs.map (·.1))) hp2
      refine q1 (hNO.mp ⟨all,by rw [List.length_map];rw [List.length_map,List.length_map] at k1;omega,k2,hh⟩) p _ ((s2.trans (s3.trans s4)).trans s5) ?_
      rw [← es]
      exact WsAt.tup (hv2.same ((s3.trans s4).trans s5)) (.inl (.inl upd_same))
    ·rw [List.length_map,int_nodup]
     intro hb H3 s4
     exact q2 (fun z=>hb (by
      have:=hNO.mpr z
      exact ⟨by have:=this.2.1;rw [List.length_map] at this ⊢;rw [List.length_map];omega,this.2.2.1⟩)) _ (s2.trans (s3.trans s4))
structure Nw where
 h:Int
 n:Int
 near:List Wr
 names:List (List Nat)
def NwOk (N:Nw):Prop:=Hse N.h∧(0≤N.n∧N.n≤900000)∧NearOk N.h N.near∧NmsOk N.names
def nwD (N:Nw):PyData:=.tuple [.int N.h,.int N.n,.tuple (sD (N.near.map wrD)),.tuple (sD (N.names.map nmD))]
def sp_made_news (K:PySem.W.Frag) (C:Addr):Sp:=fun vs H Q E=>∃ (b c:Bool) (l m:Addr) (zs:List (V × Wr)) (N:Nw),vs=[.int N.h,.int N.n,.ref l,.ref m]∧SqB b K H l (zs.map (·.1))∧WsAt K H zs∧zs.map (·.2)=N.near∧SqB c K H m (N.names.map nmV) ∧
 Sml N.h∧Sml N.n∧zs.length≤50∧(∀ z ∈ zs,WrS z.2)∧N.names.length≤60∧(∀ n ∈ N.names,Asc7 n∧(NmOk n∨(reprText (ofCodes n)).length≤1000)) ∧
 (NwOk N→∀ (r:Addr) (H':Hp),Same H H'→IsDat K H' 4 (.ref r) (nwD N)→Q (.ref r) H')∧(¬ NwOk N→∀ H',Same H H'→E (.ref C) none H')
theorem strOk_nm {n:List Nat} (h:∀ c ∈ n,c < 128):PyData.strOk (ofCodes n)=true:=by
 unfold PyData.strOk ofCodes
 simp only [List.all_toArray,List.all_eq_true,decide_eq_true_eq]
 intro c hc
 have:=h c hc
 omega
theorem sc_made_news:FnScope ["house","number","near","names"] ["house","number","near","names"] (defScope s_made_news):=⟨rfl,rfl,rfl,by decide +kernel,rfl,by decide +kernel,by decide +kernel⟩
set_option maxHeartbeats 1000000 in
theorem ok_made_news (F:Site K mg "made_news" s_made_news) (T:Txt K mg t) (D_look_house:Def P w K mg base 2 "look_house" ["number"] (sp_look_house t.BadNews)) (D_look_bounds:Def P w K mg base 1 "look_bounds" ["number","least","most"] (sp_look_bounds t.BadNews)) (D_look_names:Def P w K mg base 2 "look_names" ["names"] (sp_look_names K t.BadNews)) (D_made_near:Def P w K mg base 4 "made_near" ["house","near"] (sp_made_near K t.BadNews)):Def P w K mg base 5 "made_news" ["house","number","near","names"] (sp_made_news K t.BadNews):=by
 refine F.def sc_made_news (fun _ _ _ _ _ _ us hl=>match us,hl with | [_,_,_,_],_=>rfl) (fun vs H Q E h=>?_) (fun f cdv A outer s H vs Q E hr h=>?_)
 ·obtain ⟨b,c,l,m,zs,N,rfl,_⟩:=h
  rfl
 ·obtain ⟨b,c,l,m,zs,N,rfl,hl,hw,hzn,hm,sh,sn,hz,hs,hnl,hna,q1,q2⟩:=h
  refine ⟨_,pss_cons (ps_expr (pe_def (D_look_house.mono (by decide)) hr (pass1 cx1_body) (pa_cons (pv 0) pa_nil)))
   (pss_cons (ps_expr (pe_def (D_look_bounds.mono (by decide)) hr (pass1 cx1_body) (pa_cons (pv 1) (pa_cons pe_int (pa_cons (pe_gint T.cMOST_NUMBER) pa_nil)))))
   (pss_cons (ps_expr (pe_def (D_look_names.mono (by decide)) hr (pass1 cx1_body) (pa_cons (pv 3) pa_nil)))
   (pss_one (ps_ret (pe_tup (pa_cons (pv 0) (pa_cons (pv 1) (pa_cons (pe_def (D_made_near.mono (by decide)) hr (pass1 cx1_body) (pa_cons (pv 0) (pa_cons (pv 2) pa_nil))) (pa_cons (pe_callTy (call_tupleK K) (by rfl) T.n_tuple boot_tuple (pa_cons (pe_callB (call_sorted K (hu16 hr)) (by rfl) T.n_sorted boot_sorted (pa_cons (pv 3) pa_nil)) pa_nil)) pa_nil))))))))),?_⟩
  have hsz:(2000:Nat)≤sizeLine:=by decide
  refine ⟨_,rfl,N.h,rfl,sh,fun g1=>?_,fun g1=>q2 (fun z=>g1 z.1) H (Same.refl _)⟩
  refine ⟨_,rfl,N.n,0,900000,rfl,sn,.of (by decide) (by decide),.of (by decide) (by decide),fun g2=>?_,fun g2=>q2 (fun z=>g2 z.2.1) H (Same.refl _)⟩
  refine ⟨_,rfl,c,m,N.names,rfl,hm,by omega,hna,fun g3 H1 s1=>?_,fun g3 H1 s1=>q2 (fun z=>g3 z.2.2.2) H1 s1⟩
  refine ⟨_,rfl,_,rfl,_,rfl,_,rfl,b,l,zs,N.h,rfl,hl.same s1,hw.same s1,hz,hs,fun g4 r H2 s2 d2=>?_,fun g4 H2 s2=>q2 (fun z=>g4 (by rw [hzn];exact z.2.2.1)) H2 (s1.trans s2)⟩
  rw [hzn] at g4 d2
  have hm2:=(hm.same s1).same s2
  refine ⟨_,rfl,c,m,N.names.map fun n=>(nmV n,nmD n),rfl,by rw [List.map_map];exact hm2,by rw [List.length_map];omega,fun y hy=>?_,by have:=ordN N.names;rw [List.map_map];exact this,fun ys p hp hsr hp2=>?_⟩
  ·obtain ⟨n,hn,rfl⟩:=List.mem_map.mp hy
   exact .str _ (strOk_nm (hna n hn).1.2)
  obtain ⟨us,hu1,rfl⟩:=perm_back (fun n=>(nmV n,nmD n)) hp N.names rfl
  have es:us.map nmD=sD (N.names.map nmD):=by
   refine ordD_uniq (ordN _) (antN _) (hu1.map _) ?_
   rw [List.pairwise_map] at hsr ⊢
   exact hsr
  have hul:us.length≤60:=by rw [hu1.length_eq];exact hnl
  have s3:=(Same.refl H2).new (o:=.lst ((us.map fun n=>(nmV n,nmD n)).map (·.1))) hp2
  have e3:(upd H2 p (.lst ((us.map fun n=>(nmV n,nmD n)).map (·.1)))) p=some (.lst (us.map nmV)):=by rw [upd_same,List.map_map];rfl
  generalize upd H2 p (.lst ((us.map fun n=>(nmV n,nmD n)).map (·.1)))=H3 at s3 e3 ⊢
  refine ⟨p,_,rfl,.inl ⟨SqL.of e3,fun x hx=>?_⟩⟩
  have s4:=(Same.refl H3).new (o:=.tup (us.map nmV)) hx
  have d4:IsDat K (upd H3 x (.tup (us.map nmV))) 3 (.ref x) (.tuple (sD (N.names.map nmD))):=by
   rw [← es]
   refine .tup (.inl (.inl upd_same)) (by simp) fun i y d e1 e2=>?_
   rw [List.getElem?_map] at e1 e2
   cases e:us[i]? with
   | none=>rw [e] at e1;cases e1
   | some n =>
    rw [e] at e1 e2;cases e1;cases e2
    exact .str _ (strOk_nm (hna n (hu1.mem_iff.mp (List.mem_of_getElem? e))).1.2)
  have d5:=(d2.same s3).same s4
  generalize upd H3 x (.tup (us.map nmV))=H4 at s4 d4 d5 ⊢
  refine ⟨by show 4≤sizeLine;decide,fun y hy=>?_⟩
  have s5:=(Same.refl H4).new (o:=.tup [.int N.h,.int N.n,.ref r,.ref x]) hy
  refine q1 ⟨g1,g2,g4,g3⟩ y _ ((((s1.trans s2).trans s3).trans s4).trans s5) ?_
  refine .tup (.inl (.inl upd_same)) rfl fun i v d e1 e2=>?_
  match i with
  | 0=>cases e1;cases e2;exact .int _
  | 1=>cases e1;cases e2;exact .int _
  | 2=>cases e1;cases e2;exact d5.same s5
  | 3=>cases e1;cases e2;exact d4.same s5
  | i+4=>simp at e1
end
end K52
namespace K52
open PySem L2 PyProof.Rows
section
variable {P:Program} {w:World} {K:PySem.W.Frag} {mg:Str→Option Value} {base:Heap} {t:Ad}
def nwR (N:Nw):PyData:=.tuple [.int N.h,.int N.n,.tuple (N.near.map wrD),.tuple (N.names.map nmD)]
theorem sD_back {α:Type} (f:α→PyData) {l:List α} (O:OrdD (l.map f)):∃ l':List α,l'.Perm l∧sD (l.map f)=l'.map f:=perm_back f (ordD_sorted O).1 l rfl
theorem nwD_raw (N:Nw):∃ ws ns,ws.Perm N.near∧ns.Perm N.names∧nwD N=nwR ⟨N.h,N.n,ws,ns⟩:=by
 obtain ⟨ws,h1,e1⟩:=sD_back wrD (ordW N.near)
 obtain ⟨ns,h2,e2⟩:=sD_back nmD (ordN N.names)
 exact ⟨ws,ns,h1,h2,by unfold nwD nwR;rw [e1,e2]⟩
def NAt (K:PySem.W.Frag) (H:Hp) (v:V) (N:Nw):Prop:=IsDat K H 4 v (nwR N)
theorem noL_all:∀ {ds:List PyData},(∀ d ∈ ds,noL d=true)→noLAll ds=true
 | [],_=>by simp [noLAll]
 | d :: ds,h=>by rw [noLAll,h d List.mem_cons_self,noL_all fun x hx=>h x (List.mem_cons_of_mem _ hx)];rfl
theorem noL_nw (N:Nw):noL (nwR N)=true:=by
 have h1:noLAll (N.near.map wrD)=true:=noL_all fun d hd=>by obtain ⟨w,_,rfl⟩:=List.mem_map.mp hd;exact noL_wr w
 have h2:noLAll (N.names.map nmD)=true:=noL_all fun d hd=>by obtain ⟨w,_,rfl⟩:=List.mem_map.mp hd;simp [nmD,noL]
 simp [nwR,noL,noLAll,h1,h2]
theorem NAt.kept {K:PySem.W.Frag} {H H':Hp} {v:V} {N:Nw} (h:NAt K H v N) (k:Kept H H'):NAt K H' v N:=IsDat.kept h k (noL_nw N)
theorem NAt.same {K:PySem.W.Frag} {H H':Hp} {v:V} {N:Nw} (h:NAt K H v N) (s:Same H H'):NAt K H' v N:=IsDat.same h s
theorem NAt.out {K:PySem.W.Frag} {H:Hp} {v:V} {N:Nw} (h:NAt K H v N):∃ a p q zs,v=.ref a∧SqT K H a [.int N.h,.int N.n,.ref p,.ref q]∧SqT K H p (zs.map (·.1))∧WsAt K H zs∧zs.map (·.2)=N.near∧SqT K H q (N.names.map nmV):=by
 obtain ⟨a,xs,rfl,h1,h2,h3⟩:=dTup h
 match xs,h2 with
 | [x,y,z,w],_ =>
  obtain rfl:=dInt (h3 0 x _ rfl rfl)
  obtain rfl:=dInt (h3 1 y _ rfl rfl)
  obtain ⟨p,ys,rfl,g1,g2,g3⟩:=dTup (h3 2 z _ rfl rfl)
  obtain ⟨q,ks,rfl,k1,k2,k3⟩:=dTup (h3 3 w _ rfl rfl)
  rw [List.length_map] at g2 k2
  have hk:ks=N.names.map nmV:=by
   refine List.ext_getElem (by rw [List.length_map];exact k2) fun i i1 i2=>?_
   rw [List.length_map] at i2
   have:=dStr (k3 i ks[i] (nmD N.names[i]) (by simp) (by simp [i2]))
   rw [this]
   simp [nmV]
  subst hk
  refine ⟨a,p,q,ys.zip N.near,rfl,h1,?_,fun z hz=>?_,?_,k1⟩
  ·rw [List.map_fst_zip (Nat.le_of_eq g2)];exact g1
  ·obtain ⟨i,hi,rfl⟩:=List.getElem_of_mem hz
   rw [List.length_zip] at hi
   rw [List.getElem_zip]
   have j1:=Nat.lt_of_lt_of_le hi (Nat.min_le_right _ _)
   exact g3 i _ _ (by simp) (by simp [j1])
  ·rw [List.map_snd_zip (Nat.le_of_eq g2.symm)]
abbrev Ms:=List (V × Nw)
def kvM (m:V × Nw):Key × V:=(Sum.inl m.2.h,m.1)
def hs (ms:Ms):List Int:=ms.map (·.2.h)
def putM (ms:Ms) (v:V) (N:Nw):Ms:=if N.h ∈ hs ms then ms.map (fun m=>if m.2.h=N.h then (v,N) else m) else ms ++ [(v,N)]
def Newer (ms:Ms) (N:Nw):Prop:=∀ m ∈ ms,m.2.h=N.h→m.2.n < N.n
theorem val_m (ms:Ms) (h:Int):valV (ms.map kvM) (Sum.inl h)=(ms.find? fun m=>decide (m.2.h=h)).map (·.1):=by
 unfold valV
 rw [List.find?_map,Option.map_map]
 have e:((fun kv:Key × V=>decide (kv.1=Sum.inl h)) ∘ kvM)=fun m:V × Nw=>decide (m.2.h=h):=by
  funext m
  simp [kvM]
 rw [e]
 rfl
theorem put_m (ms:Ms) (v:V) (N:Nw):putK (ms.map kvM) (Sum.inl N.h) v=(putM ms v N).map kvM:=by
 unfold putK putM
 have e:((ms.map kvM).any fun kv=>decide (kv.1=Sum.inl N.h))=decide (N.h ∈ hs ms):=by
  rw [List.any_map,Bool.eq_iff_iff,List.any_eq_true,decide_eq_true_iff]
  unfold hs
  rw [List.mem_map]
  constructor
  ·rintro ⟨m,hm,h⟩
   exact ⟨m,hm,by simpa [kvM] using h⟩
  ·rintro ⟨m,hm,h⟩
   exact ⟨m,hm,by simp [kvM,h]⟩
 rw [e]
 by_cases h:N.h ∈ hs ms
 ·rw [if_pos (by simpa using h),if_pos h,List.map_map,List.map_map]
  refine List.map_congr_left fun m _=>?_
  show (if (kvM m).1=Sum.inl N.h then ((kvM m).1,v) else kvM m)=kvM (if m.2.h=N.h then (v,N) else m)
  by_cases c:m.2.h=N.h
  ·rw [if_pos c,if_pos (by simp [kvM,c])];simp [kvM,c]
  ·rw [if_neg c,if_neg (by simp [kvM,c])]
 ·rw [if_neg (by simpa using h),if_neg h,List.map_append]
  rfl
theorem putM_hs (ms:Ms) (v:V) (N:Nw):hs (putM ms v N)=if N.h ∈ hs ms then hs ms else hs ms ++ [N.h]:=by
 unfold putM
 by_cases h:N.h ∈ hs ms
 ·rw [if_pos h,if_pos h]
  unfold hs
  rw [List.map_map]
  refine List.map_congr_left fun m _=>?_
  show (if m.2.h=N.h then (v,N) else m).2.h=m.2.h
  split
  ·rename_i c;exact c.symm
  ·rfl
 ·rw [if_neg h,if_neg h]
  unfold hs
  rw [List.map_append]
  rfl
theorem putM_nodup {ms:Ms} (hn:(hs ms).Nodup) (v:V) (N:Nw):(hs (putM ms v N)).Nodup:=by
 rw [putM_hs]
 split
 ·exact hn
 ·rename_i h
  refine List.nodup_append.mpr ⟨hn,by simp,fun a ha b hb=>?_⟩
  rw [List.mem_singleton.mp hb]
  rintro rfl
  exact h ha
theorem putM_mem {ms:Ms} {v:V} {N:Nw} {m:V × Nw}:m ∈ putM ms v N→m=(v,N)∨m ∈ ms:=by
 unfold putM
 split
 ·intro h
  obtain ⟨x,hx,e⟩:=List.mem_map.mp h
  split at e
  ·exact .inl e.symm
  ·exact .inr (e ▸ hx)
 ·intro h
  rcases List.mem_append.mp h with h | h
  ·exact .inr h
  ·exact .inl (List.mem_singleton.mp h)
structure MpAt (K:PySem.W.Frag) (C:Addr) (H:Hp) (x d:Addr) (ms:Ms):Prop where
 o:∃ dx,H x=some (.ins C dx [("latest",.ref d)])
 d:H d=some (.dK (ms.map kvM))
 nd:(hs ms).Nodup
 all:∀ m ∈ ms,NAt K H m.1 m.2
theorem MpAt.ne {K:PySem.W.Frag} {C:Addr} {H:Hp} {x d:Addr} {ms:Ms} (h:MpAt K C H x d ms):x≠d:=by
 obtain ⟨dx,h1⟩:=h.o
 exact ne_of h1 h.d (by intro z;cases z)
theorem MpAt.same {K:PySem.W.Frag} {C:Addr} {H H':Hp} {x d:Addr} {ms:Ms} (h:MpAt K C H x d ms) (s:Same H H'):MpAt K C H' x d ms :=
 ⟨let ⟨dx,h1⟩:=h.o;⟨dx,s _ _ h1⟩,s _ _ h.d,h.nd,fun m hm=>(h.all m hm).same s⟩
def NTu (H:Hp) (a:Addr):Prop:=∀ xs,¬ Rd H a (.tup xs)
theorem Mods.kept {S:List Addr} {H H':Hp} (m:Mods S H H') (n:∀ a ∈ S,NTu H a):Kept H H':=fun a xs e=>by
 have hn:a ∉ S:=fun z=>n a z xs e
 rcases e with e | ⟨u,e⟩
 ·exact .inl (m _ _ hn e)
 ·exact .inr ⟨u,m _ _ hn e⟩
theorem NTu.dk {H:Hp} {a:Addr} {xs:List (Key × V)} (h:H a=some (.dK xs)):NTu H a:=fun ys e=>by rcases e with e | ⟨u,e⟩ <;> (rw [h] at e;cases e)
def sp_init (K:PySem.W.Frag) (C:Addr):Sp:=fun vs H Q _=>∃ x dx,vs=[.ref x]∧H x=some (.ins C dx [])∧∀ (l:Addr) (H':Hp),H l=none→Mods [x] H H'→MpAt K C H' x l []→Q .non H'
theorem sc_init:FnScope ["self"] ["self"] (defScope s_init):=⟨rfl,rfl,rfl,by decide +kernel,rfl,by decide +kernel,by decide +kernel⟩
theorem ok_init {fd:FuncData} (T:Txt K mg t) (F:Fun K "__init__" "Map.__init__" s_init t.init fd):FnOk P w K mg base (CX1 P w) 1 t.init fd ["self"] (sp_init K t.Map)∧Binds K fd ["self"] []:=by
 refine ⟨F.ok1q sc_init (fun vs H Q E h=>?_) (fun f cdv A outer s H vs Q E hr h=>?_),F.binds fun _ _ _ _ _ _ us hl=>match us,hl with | [_],_=>rfl⟩
 ·obtain ⟨x,dx,rfl,_⟩:=h
  rfl
 ·obtain ⟨x,dx,rfl,hx,q⟩:=h
  refine ⟨_,pss_one (ps_fldK K (pv 0) pe_dnewK (by rfl)),?_⟩
  refine fun l hl=>?_
  have n:x≠l:=ne_of_none hx hl
  refine ⟨_,rfl,x,t.Map,dx,_,rfl,by rw [upd_ne n];exact hx,T.cMap,T.na_latest,by show 0 < 1000;decide,?_⟩
  exact q l _ hl ((Mods.refl.upd (.inr hl)).upd (.inl List.mem_cons_self)) ⟨⟨dx,upd_same⟩,by rw [upd_ne (Ne.symm n)];exact upd_same,.nil,fun m hm=>absurd hm List.not_mem_nil⟩
def sp_hear (K:PySem.W.Frag) (C:Addr):Sp:=fun vs H Q _=>∃ (x d:Addr) (ms:Ms) (v:V) (N:Nw),vs=[.ref x,v]∧MpAt K C H x d ms∧NAt K H v N∧ms.length≤100∧(Newer ms N→∀ H',Mods [d] H H'→MpAt K C H' x d (putM ms v N)→Q (.bl true) H')∧(¬ Newer ms N→Q (.bl false) H)
theorem sc_hear:FnScope ["self","news","house","newer"] ["self","news"] (defScope s_hear):=⟨rfl,rfl,rfl,by decide +kernel,rfl,by decide +kernel,by decide +kernel⟩
theorem ok_hear {fd:FuncData} (T:Txt K mg t) (F:Fun K "hear" "Map.hear" s_hear t.m_hear fd):FnOk P w K mg base (CX1 P w) 1 t.m_hear fd ["self","news"] (sp_hear K t.Map)∧Binds K fd ["self","news"] []:=by
 refine ⟨F.ok1q sc_hear (fun vs H Q E h=>?_) (fun f cdv A outer s H vs Q E hr h=>?_),F.binds fun _ _ _ _ _ _ us hl=>match us,hl with | [_,_],_=>rfl⟩
 ·obtain ⟨x,d,ms,v,N,rfl,_⟩:=h
  rfl
 ·obtain ⟨x,d,ms,v,N,rfl,hM,hN,hl,q1,q2⟩:=h
  refine ⟨_,pss_cons (ps_set (i:=2) sc_hear.nd rfl (Or.inl rfl) (pe_ix (ix_tupK K) (pv 1) pe_int (fun _ _=>rfl)))
   (pss_cons (ps_set (i:=3) sc_hear.nd rfl (Or.inl rfl) (pe_or (pe_cmp (pc_dnotin (hu_of hr) (pv 2) (pe_fldK K (pv 0) (by rfl))) (by rfl)) (pe_one (pe_cmpR op_gt (pe_ix (ix_tupK K) (pv 1) pe_int (fun _ _=>rfl)) (pe_ix (ix_tupK K) (pe_dget (hu_of hr) (pe_fldK K (pv 0) (by rfl)) (pv 2) (fun _ _=>rfl)) pe_int (fun _ _=>rfl)) (nomark _)))))
   (pss_cons (ps_if (pt_val (pv 3))
    (pss_one (ps_dput (hu_of hr) (pe_fldK K (pv 0) (by rfl)) (pv 2) (pv 1) (by rfl)))
    (pss_nil))
   (pss_one (ps_ret (pv 3))))),?_⟩
  have hsz:(2000:Nat)≤sizeLine:=by decide
  obtain ⟨dx,hx⟩:=hM.o
  obtain ⟨a,p,r,zs,rfl,h1,_⟩:=hN.out
  have put:Newer ms N→∃ H',Mods [d] H H'∧H'=upd H d (.dK (putK (ms.map kvM) (Sum.inl N.h) (.ref a)))∧MpAt K t.Map H' x d (putM ms (.ref a) N):=fun _=>by
   have m:Mods [d] H (upd H d (.dK (putK (ms.map kvM) (Sum.inl N.h) (.ref a)))):=Mods.refl.upd (.inl List.mem_cons_self)
   have kp:=m.kept fun b hb=>by rw [List.mem_singleton.mp hb];exact NTu.dk hM.d
   refine ⟨_,m,rfl,⟨dx,by rw [upd_ne hM.ne];exact hx⟩,by rw [upd_same,put_m],putM_nodup hM.nd _ _,fun y hy=>?_⟩
   rcases putM_mem hy with rfl | h
   ·exact hN.kept kp
   ·exact (hM.all y h).kept kp
  refine ⟨_,rfl,a,_,_,_,rfl,rfl,h1,rfl,?_⟩
  refine ⟨_,rfl,_,rfl,x,t.Map,dx,_,_,rfl,hx,T.cMap,T.na_latest,rfl,d,_,rfl,DGet.k (k:=Sum.inl N.h) hM.d,?_⟩
  rw [val_m]
  cases ef:ms.find? (fun m=>decide (m.2.h=N.h)) with
  | none =>
   have hnew:Newer ms N:=fun m hm e=>absurd (List.find?_eq_none.mp ef m hm) (by simp [e])
   obtain ⟨H',m,eH,hM'⟩:=put hnew
   refine ⟨true,rfl,iteT ?_⟩
   refine ⟨_,rfl,_,rfl,iteT ?_⟩
   refine ⟨_,rfl,_,rfl,x,t.Map,dx,_,_,rfl,hx,T.cMap,T.na_latest,rfl,_,rfl,d,_,rfl,.inl ⟨_,Sum.inl N.h,hM.d,rfl,by rw [List.length_map];omega,rfl⟩,?_⟩
   refine ⟨_,rfl,?_⟩
   rw [← eH]
   exact q1 hnew H' m hM'
  | some y =>
   have hy:y ∈ ms:=List.mem_of_find?_eq_some ef
   have hyh:y.2.h=N.h:=by simpa using List.find?_some ef
   obtain ⟨ya,yp,yq,yz,ey,y1,_⟩:=(hM.all y hy).out
   have gv:DGet H d (.int N.h) (some y.1):=by
    have:=DGet.k (k:=Sum.inl N.h) hM.d
    rw [val_m,ef] at this
    exact this
   have hnew:Newer ms N↔y.2.n < N.n:=by
    constructor
    ·exact fun z=>z y hy hyh
    ·intro z m hm e
     have:m=y:=by
      obtain ⟨i,hi,rfl⟩:=List.getElem_of_mem hm
      obtain ⟨j,hj,rfl⟩:=List.getElem_of_mem hy
      have:i=j:=by
       have nd:=hM.nd
       unfold hs at nd
       have:=(List.getElem_inj (xs:=ms.map (·.2.h)) (h₀:=by simpa using hi) (h₁:=by simpa using hj) nd).mp (by simp [e,hyh])
       exact this
      subst this
      rfl
     rw [this];exact z
   refine ⟨false,rfl,iteF ?_⟩
   refine ⟨_,rfl,a,_,_,_,rfl,rfl,h1,rfl,_,rfl,x,t.Map,dx,_,_,rfl,hx,T.cMap,T.na_latest,rfl,_,rfl,d,y.1,rfl,gv,ya,_,_,_,ey,rfl,y1,rfl,_,_,rfl,rfl,?_⟩
   refine ⟨_,rfl,_,rfl,?_⟩
   by_cases hlt:y.2.n < N.n
   ·obtain ⟨H',m,eH,hM'⟩:=put (hnew.mpr hlt)
    refine iteY hlt ?_
    refine ⟨_,rfl,_,rfl,x,t.Map,dx,_,_,rfl,hx,T.cMap,T.na_latest,rfl,_,rfl,d,_,rfl,.inl ⟨_,Sum.inl N.h,hM.d,rfl,by rw [List.length_map];omega,rfl⟩,?_⟩
    refine ⟨_,rfl,?_⟩
    rw [← eH]
    show Q (.bl (decide (y.2.n < N.n))) H'
    rw [decide_eq_true hlt]
    exact q1 (hnew.mpr hlt) H' m hM'
   ·refine iteN hlt ?_
    refine ⟨_,rfl,?_⟩
    show Q (.bl (decide (y.2.n < N.n))) H
    rw [decide_eq_false hlt]
    exact q2 fun z=>hlt (hnew.mp z)
end
end K52
namespace K52
open PySem L2 PyProof.Rows
section
variable {P:Program} {w:World} {K:PySem.W.Frag} {mg:Str→Option Value} {base:Heap} {t:Ad}
def pk (ms:Ms) (h:Int):V × Nw:=(ms.find? fun m=>decide (m.2.h=h)).getD (.non,⟨0,0,[],[]⟩)
theorem pk_mem {ms:Ms} {h:Int} (hh:h ∈ hs ms):∃ y,ms.find? (fun m=>decide (m.2.h=h))=some y∧y ∈ ms∧y.2.h=h∧pk ms h=y:=by
 obtain ⟨m,hm,e⟩:=List.mem_map.mp hh
 cases ef:ms.find? (fun m=>decide (m.2.h=h)) with
 | none=>exact absurd (List.find?_eq_none.mp ef m hm) (by simp [e])
 | some y=>exact ⟨y,rfl,List.mem_of_find?_eq_some ef,by simpa using List.find?_some ef,by unfold pk;rw [ef];rfl⟩
theorem ms_uniq {ms:Ms} (nd:(hs ms).Nodup) {m n:V × Nw} (hm:m ∈ ms) (hn:n ∈ ms) (e:m.2.h=n.2.h):m=n:=by
 obtain ⟨i,hi,rfl⟩:=List.getElem_of_mem hm
 obtain ⟨j,hj,rfl⟩:=List.getElem_of_mem hn
 unfold hs at nd
 have:=(List.getElem_inj (xs:=ms.map (·.2.h)) (h₀:=by simpa using hi) (h₁:=by simpa using hj) nd).mp (by simp [e])
 subst this
 rfl
theorem pk_all {ms:Ms} (nd:(hs ms).Nodup):(hs ms).map (pk ms)=ms:=by
 unfold hs
 rw [List.map_map]
 have:ms.map (pk ms ∘ fun m=>m.2.h)=ms.map id:=List.map_congr_left fun m hm=>by
  obtain ⟨y,_,h2,h3,h4⟩:=pk_mem (ms:=ms) (h:=m.2.h) (List.mem_map.mpr ⟨m,hm,rfl⟩)
  show pk ms m.2.h=m
  rw [h4]
  exact ms_uniq nd h2 hm h3
 rw [this,List.map_id]
def sp_news (K:PySem.W.Frag) (C:Addr):Sp:=fun vs H Q _=>∃ (x d:Addr) (ms:Ms),vs=[.ref x]∧MpAt K C H x d ms∧ms.length≤50∧∀ (r:Addr) (H':Hp) (us:Ms),Same H H'→H r=none→H' r=some (.lst (us.map (·.1)))→us.Perm ms→(hs us).Pairwise (· < ·)→Q (.ref r) H'
theorem sc_news:FnScope ["self"] ["self"] (defScope s_news):=⟨rfl,rfl,rfl,by decide +kernel,rfl,by decide +kernel,by decide +kernel⟩
theorem ok_news {fd:FuncData} (T:Txt K mg t) (F:Fun K "news" "Map.news" s_news t.m_news fd):FnOk P w K mg base (CX1 P w) 1 t.m_news fd ["self"] (sp_news K t.Map)∧Binds K fd ["self"] []:=by
 refine ⟨F.ok1q sc_news (fun vs H Q E h=>?_) (fun f cdv A outer s H vs Q E hr h=>?_),F.binds fun _ _ _ _ _ _ us hl=>match us,hl with | [_],_=>rfl⟩
 ·obtain ⟨x,d,ms,rfl,_⟩:=h
  rfl
 ·obtain ⟨x,d,ms,rfl,hM,hl,q⟩:=h
  refine ⟨_,pss_one (ps_ret (pe_lc rfl (Nc:=["house","self"]) (ix:=[none,some 0]) (cscope (defScope s_news) ["self"] rfl rfl (by decide +kernel)) (pi_listK K (pe_callB (call_sortedD (hu16 hr)) (by rfl) T.n_sorted boot_sorted (pa_cons (pe_fldK K (pv 0) (by rfl)) pa_nil))) (fun C fp s H=>⟨(pg_name (i:=0) (show (["house","self"]:List Str).Nodup by decide +kernel) rfl (Or.inl rfl)),pts_nil,(pe_dget (hu_of hr) (pe_fldK K (pv 1) (by rfl)) (pv 0) (fun _ _=>rfl))⟩))),?_⟩
  have hsz:(2000:Nat)≤sizeLine:=by decide
  obtain ⟨dx,hx⟩:=hM.o
  refine ⟨_,rfl,x,t.Map,dx,_,_,rfl,hx,T.cMap,T.na_latest,rfl,d,_,hs ms,rfl,hM.d,by rw [List.map_map];unfold hs;rw [List.map_map];rfl,by unfold hs;rw [List.length_map];omega,fun ys sl hp hsr hsl=>?_⟩
  have s1:=(Same.refl H).new (o:=.lst (ys.map V.int)) hsl
  have e1:(upd H sl (.lst (ys.map V.int))) sl=some (.lst (ys.map V.int)):=upd_same
  generalize upd H sl (.lst (ys.map V.int))=H1 at s1 e1 ⊢
  have hyl:ys.length≤50:=by rw [hp.length_eq];unfold hs;rw [List.length_map];exact hl
  refine ⟨sl,rfl,⟨_,SqL.of e1⟩,fun D hD=>?_⟩
  refine lc_list (K:=K) (a:=sl) (xs:=ys.map V.int) (fun i σ H'=>∃ v:Option V,σ=[v,some (.ref x)]∧Same H1 H'∧H' D=some (.lst (((ys.take i).map (pk ms)).map (·.1)))) ⟨none,rfl,(Same.refl _).new hD,upd_same⟩ (fun i σ H' _ ⟨_,_,s2,_⟩=>SqL.of (s2 _ _ e1)) ?_ ?_
  ·rintro i y σ H' N hN hi ⟨v,rfl,s2,e2⟩
   obtain ⟨h,ho,rfl⟩:=item_of hi
   have hi2:i < ys.length:=(List.getElem?_eq_some_iff.mp ho).1
   obtain ⟨y,ef,hy,hyh,ep⟩:=pk_mem (hp.mem_iff.mp (List.mem_of_getElem? ho))
   have gv:DGet H' d (.int h) (some y.1):=by
    have:=DGet.k (k:=Sum.inl h) ((s1.trans s2) _ _ hM.d)
    rw [val_m,ef] at this
    exact this
   refine turn_do ?_
   refine ⟨_,rfl,x,t.Map,dx,_,_,rfl,(s1.trans s2) _ _ hx,T.cMap,T.na_latest,rfl,_,rfl,d,y.1,rfl,gv,_,e2,by rw [List.length_map,List.length_map,List.length_take];omega,hN _ _ ⟨_,rfl,s2.put hD,?_⟩⟩
   rw [upd_same,take_succ ho,List.map_append,List.map_append,← ep]
   rfl
  ·rintro σ H' ⟨v,rfl,s2,e2⟩
   rw [List.length_map,List.take_length] at e2
   have pm:(ys.map (pk ms)).Perm ms:=by
    have:=hp.map (pk ms)
    rwa [pk_all hM.nd] at this
   refine q D H' (ys.map (pk ms)) (s1.trans s2) (s1.free hD) e2 pm ?_
   have eh:hs (ys.map (pk ms))=ys:=by
    unfold hs
    rw [List.map_map]
    have:ys.map ((fun m=>m.2.h) ∘ pk ms)=ys.map id:=List.map_congr_left fun h hh=>by
     obtain ⟨y,_,_,h3,h4⟩:=pk_mem (hp.mem_iff.mp hh)
     show (pk ms h).2.h=h
     rw [h4];exact h3
    rw [this,List.map_id]
   rw [eh]
   have nd:ys.Nodup:=hp.nodup_iff.mpr hM.nd
   exact (hsr.and nd).imp fun ⟨a,b⟩=>by omega
end
end K52
namespace K52
open PySem L2 PyProof.Rows
section
variable {P:Program} {w:World} {K:PySem.W.Frag} {mg:Str→Option Value} {base:Heap} {t:Ad}
abbrev T3:=Int × Int × Int
def w3D (t:T3):PyData:=.tuple [.int t.1,.int t.2.1,.int t.2.2]
def flatM (us:Ms):List (Tk × Int):=us.flatMap fun m=>m.2.near.map fun w=>([m.2.h,w.o,w.a,w.b],w.q)
def lookT (L:List (Tk × Int)) (k:Tk):Option Int:=(L.find? fun e=>decide (e.1=k)).map (·.2)
def stdOne (L:List (Tk × Int)) (e:Tk × Int):Option T3 :=
 match e.1 with
 | [h,o,a,b]=>if h < o then (lookT L [o,h,a,b]).map fun q=>(h,o,if q > e.2 then q else e.2) else none
 | _=>none
def stdM (L:List (Tk × Int)):List T3:=L.filterMap (stdOne L)
def Stands (ms:Ms) (t:T3):Prop:=t.1 < t.2.1∧∃ m1 ∈ ms,∃ m2 ∈ ms,∃ w1 ∈ m1.2.near,∃ w2 ∈ m2.2.near,m1.2.h=t.1∧m2.2.h=t.2.1∧w1.o=t.2.1∧w2.o=t.1∧w1.a=w2.a∧w1.b=w2.b∧t.2.2=max w1.q w2.q
def MsOk (ms:Ms):Prop:=∀ m ∈ ms,(m.2.near.map (·.o)).Nodup∧m.2.near.length≤5
theorem flat_mem {us:Ms} {e:Tk × Int}:e ∈ flatM us↔∃ m ∈ us,∃ w ∈ m.2.near,e=([m.2.h,w.o,w.a,w.b],w.q):=by
 unfold flatM
 rw [List.mem_flatMap]
 constructor
 ·rintro ⟨m,hm,h⟩
  obtain ⟨w,hw,e⟩:=List.mem_map.mp h
  exact ⟨m,hm,w,hw,e.symm⟩
 ·rintro ⟨m,hm,w,hw,e⟩
  exact ⟨m,hm,List.mem_map.mpr ⟨w,hw,e.symm⟩⟩
theorem flat_pair {us:Ms} (nd:(hs us).Nodup) (ok:MsOk us):(flatM us).Pairwise fun e f=>(e.1.take 2)≠(f.1.take 2):=by
 unfold flatM
 rw [List.pairwise_flatMap]
 constructor
 ·intro m hm
  have:=(ok m hm).1
  unfold List.Nodup at this
  rw [List.pairwise_map] at this ⊢
  refine this.imp fun h e=>h ?_
  simp only [List.take_succ_cons,List.take_zero,List.cons.injEq,and_true] at e
  exact e.2
 ·unfold hs List.Nodup at nd
  rw [List.pairwise_map] at nd
  refine nd.imp fun h x hx y hy e=>?_
  obtain ⟨w,_,rfl⟩:=List.mem_map.mp hx
  obtain ⟨v,_,rfl⟩:=List.mem_map.mp hy
  simp only [List.take_succ_cons,List.take_zero,List.cons.injEq,and_true] at e
  exact h e.1
theorem flat_keys {us:Ms} (nd:(hs us).Nodup) (ok:MsOk us):((flatM us).map (·.1)).Nodup:=by
 unfold List.Nodup
 rw [List.pairwise_map]
 exact (flat_pair nd ok).imp fun h e=>h (by rw [e])
theorem look_iff {L:List (Tk × Int)} (nd:(L.map (·.1)).Nodup) {k:Tk} {q:Int}:lookT L k=some q↔(k,q) ∈ L:=by
 unfold lookT
 rw [Option.map_eq_some_iff]
 constructor
 ·rintro ⟨e,h1,rfl⟩
  have:=List.mem_of_find?_eq_some h1
  have h2:e.1=k:=by simpa using List.find?_some h1
  rw [← h2]
  exact this
 ·intro h
  cases ef:L.find? (fun e=>decide (e.1=k)) with
  | none=>exact absurd (List.find?_eq_none.mp ef _ h) (by simp)
  | some e =>
   refine ⟨e,rfl,?_⟩
   have h1:=List.mem_of_find?_eq_some ef
   have h2:e.1=k:=by simpa using List.find?_some ef
   obtain ⟨i,hi,ei⟩:=List.getElem_of_mem h1
   obtain ⟨j,hj,ej⟩:=List.getElem_of_mem h
   have:=(List.getElem_inj (xs:=L.map (·.1)) (h₀:=by simpa using hi) (h₁:=by simpa using hj) nd).mp (by simp [ei,ej,h2])
   subst this
   rw [ei] at ej
   rw [ej]
theorem std_mem {us:Ms} (nd:(hs us).Nodup) (ok:MsOk us) {t:T3}:t ∈ stdM (flatM us)↔Stands us t:=by
 unfold stdM
 rw [List.mem_filterMap]
 have kn:=flat_keys nd ok
 constructor
 ·rintro ⟨e,he,h⟩
  obtain ⟨m,hm,w,hw,rfl⟩:=flat_mem.mp he
  unfold stdOne at h
  simp only at h
  split at h
  ·rename_i hlt
   obtain ⟨q,hq,rfl⟩:=Option.map_eq_some_iff.mp h
   obtain ⟨m2,hm2,w2,hw2,e2⟩:=flat_mem.mp ((look_iff kn).mp hq)
   simp only [Prod.mk.injEq,List.cons.injEq,and_true] at e2
   obtain ⟨⟨e3,e4,e5,e6⟩,e7⟩:=e2
   refine ⟨hlt,m,hm,m2,hm2,w,hw,w2,hw2,rfl,e3.symm,rfl,e4.symm,e5,e6,?_⟩
   show (if q > w.q then q else w.q)=max w.q w2.q
   rw [e7]
   split <;> omega
  ·cases h
 ·rintro ⟨hlt,m,hm,m2,hm2,w,hw,w2,hw2,e1,e2,e3,e4,e5,e6,e7⟩
  refine ⟨([m.2.h,w.o,w.a,w.b],w.q),flat_mem.mpr ⟨m,hm,w,hw,rfl⟩,?_⟩
  unfold stdOne
  simp only
  rw [if_pos (by rw [e1,e3];exact hlt)]
  have:lookT (flatM us) [w.o,m.2.h,w.a,w.b]=some w2.q:=(look_iff kn).mpr (flat_mem.mpr ⟨m2,hm2,w2,hw2,by rw [e2,e3,e4,e1,e5,e6]⟩)
  rw [this]
  show some (m.2.h,w.o,if w2.q > w.q then w2.q else w.q)=some t
  obtain ⟨a,b,l⟩:=t
  simp only at e1 e3 e7
  rw [e1,e3,e7]
  congr 3
  split <;> omega
theorem std_pair {us:Ms} (nd:(hs us).Nodup) (ok:MsOk us):(stdM (flatM us)).Pairwise fun s t=>(s.1,s.2.1)≠(t.1,t.2.1):=by
 unfold stdM
 rw [List.pairwise_filterMap]
 refine (flat_pair nd ok).imp_of_mem fun {e f} he hf h b hb b' hb' z=>h ?_
 obtain ⟨m,_,w,_,rfl⟩:=flat_mem.mp he
 obtain ⟨m',_,w',_,rfl⟩:=flat_mem.mp hf
 unfold stdOne at hb hb'
 simp only at hb hb'
 split at hb
 ·split at hb'
  ·obtain ⟨q,_,rfl⟩:=Option.map_eq_some_iff.mp hb
   obtain ⟨q',_,rfl⟩:=Option.map_eq_some_iff.mp hb'
   simp only [Prod.mk.injEq] at z
   simp [z.1,z.2]
  ·cases hb'
 ·cases hb
theorem flat_len {us:Ms} (ok:MsOk us):(flatM us).length≤5 * us.length:=by
 induction us with
 | nil=>exact Nat.le_refl _
 | cons m us ih =>
  have h1:=(ok m List.mem_cons_self).2
  have h2:=ih fun x hx=>ok x (List.mem_cons_of_mem _ hx)
  unfold flatM at h2 ⊢
  rw [List.flatMap_cons,List.length_append,List.length_map,List.length_cons]
  omega
def keyT (t:T3):List Int:=[t.1,t.2.1,t.2.2]
theorem les_t (s t:T3):lesD (w3D s) (w3D t)=decide (keyT s < keyT t):=by
 obtain ⟨o,q,a⟩:=s
 obtain ⟨o',q',a'⟩:=t
 simp only [w3D,keyT,lesD,lesDs,PyData.eqv,PyData.eqvAll,List.cons_lt_cons_iff]
 by_cases h1:o=o' <;> by_cases h2:q=q' <;> by_cases h3:a=a' <;> simp [h1,h2,h3]
theorem ordT (ts:List T3):OrdD (ts.map w3D):=ord_key (κ:=List Int) (fun a b h=>List.lt_asymm h) (fun a b c h1 h2=>List.not_lt.mpr (List.le_trans (List.not_lt.mp h1) (List.not_lt.mp h2))) les_t (fun s t=>by simp [w3D,okD,okDs]) (.rows fun d hd=>by
 obtain ⟨w,_,rfl⟩:=List.mem_map.mp hd
 exact ⟨_,_,rfl⟩)
theorem keyT_inj {s t:T3} (h:keyT s=keyT t):s=t:=by
 obtain ⟨a,b,c⟩:=s
 obtain ⟨a',b',c'⟩:=t
 simp only [keyT,List.cons.injEq,and_true] at h
 rw [h.1,h.2.1,h.2.2]
end
end K52
namespace K52
open PySem L2 PyProof.Rows
section
variable {P:Program} {w:World} {K:PySem.W.Frag} {mg:Str→Option Value} {base:Heap} {t:Ad}
def TsAt (K:PySem.W.Frag) (H:Hp) (zs:List (V × T3)):Prop:=∀ z ∈ zs,IsDat K H 2 z.1 (w3D z.2)
theorem noL_t (t:T3):noL (w3D t)=true:=by simp [w3D,noL,noLAll]
theorem TsAt.same {K:PySem.W.Frag} {H H':Hp} {zs:List (V × T3)} (h:TsAt K H zs) (s:Same H H'):TsAt K H' zs:=fun z hz=>(h z hz).same s
def WlAt (K:PySem.W.Frag) (H:Hp) (r:Addr) (ts:List T3):Prop:=∃ zs:List (V × T3),H r=some (.lst (zs.map (·.1)))∧TsAt K H zs∧zs.map (·.2)=ts
theorem WlAt.same {K:PySem.W.Frag} {H H':Hp} {r:Addr} {ts:List T3} (h:WlAt K H r ts) (s:Same H H'):WlAt K H' r ts:=by
 obtain ⟨zs,h1,h2,h3⟩:=h
 exact ⟨zs,s _ _ h1,h2.same s,h3⟩
theorem kept_of {H:Hp} {D:Addr} {o:HO} (h:NTu H D):Kept H (upd H D o):=(Mods.refl (S:=[D]) (H:=H)).upd (.inl List.mem_cons_self) |>.kept fun b hb=>by rw [List.mem_singleton.mp hb];exact h
theorem NTu.dkt {H:Hp} {a:Addr} {xs:TX} (h:H a=some (DKt a xs)):NTu H a:=fun ys e=>by rcases e with e | ⟨u,e⟩ <;> (rw [h] at e;cases e)
theorem NTu.lst {H:Hp} {a:Addr} {xs:List V} (h:H a=some (.lst xs)):NTu H a:=fun ys e=>by rcases e with e | ⟨u,e⟩ <;> (rw [h] at e;cases e)
theorem val_tx {xs:TX} {L:List (Tk × Int)} (h:xs.map (fun p=>(p.1,p.2.2))=L.map fun e=>(e.1,V.int e.2)) (k:Tk):valT xs k=(lookT L k).map V.int:=by
 induction xs generalizing L with
 | nil =>
  cases L with
  | nil=>rfl
  | cons _ _=>cases h
 | cons p xs ih =>
  cases L with
  | nil=>cases h
  | cons e L =>
   rw [List.map_cons,List.map_cons] at h
   obtain ⟨h1,h2⟩:=List.cons.inj h
   obtain ⟨h3,h4⟩:=Prod.mk.inj h1
   have:=ih h2
   unfold valT lookT at this ⊢
   rw [List.find?_cons,List.find?_cons,← h3]
   by_cases c:p.1=k
   ·simp [c,h4]
   ·simp only [c,decide_false]
    exact this
theorem tx_keys {xs:TX} {L:List (Tk × Int)} (h:xs.map (fun p=>(p.1,p.2.2))=L.map fun e=>(e.1,V.int e.2)):xs.map (·.1)=L.map (·.1):=by
 have:=congrArg (List.map (·.1)) h
 rw [List.map_map,List.map_map] at this
 exact this
theorem flat_app (a b:Ms):flatM (a ++ b)=flatM a ++ flatM b:=by unfold flatM;rw [List.flatMap_append]
def fW (m:V × Nw) (w:Wr):Tk × Int:=([m.2.h,w.o,w.a,w.b],w.q)
theorem flat_one (m:V × Nw):flatM [m]=m.2.near.map (fW m):=by unfold flatM fW;simp
theorem flat_split {us:Ms} {i j:Nat} {m:V × Nw} {x:Wr} (hi:us[i]?=some m) (hj:m.2.near[j]?=some x):∃ R,flatM us=(flatM (us.take i) ++ (m.2.near.take j).map (fW m)) ++ fW m x :: R:=by
 refine ⟨(m.2.near.drop (j+1)).map (fW m) ++ flatM (us.drop (i+1)),?_⟩
 obtain ⟨i1,i2⟩:=List.getElem?_eq_some_iff.mp hi
 obtain ⟨j1,j2⟩:=List.getElem?_eq_some_iff.mp hj
 have e1:us=us.take i ++ m :: us.drop (i+1):=by rw [← i2,List.getElem_cons_drop,List.take_append_drop]
 have e2:m.2.near=m.2.near.take j ++ x :: m.2.near.drop (j+1):=by rw [← j2,List.getElem_cons_drop,List.take_append_drop]
 have e3:m.2.near.map (fW m)=(m.2.near.take j).map (fW m) ++ fW m x :: (m.2.near.drop (j+1)).map (fW m):=by
  rw [← List.map_cons,← List.map_append,← e2]
 have e4:flatM us=flatM (us.take i) ++ (m.2.near.map (fW m) ++ flatM (us.drop (i+1))):=by
  rw [← flat_one,← flat_app,← flat_app]
  exact congrArg flatM (by rw [List.singleton_append];exact e1)
 rw [e4,e3]
 simp only [List.append_assoc,List.cons_append]
def sp_wires (K:PySem.W.Frag) (C:Addr):Sp:=fun vs H Q _=>∃ (x d:Addr) (ms:Ms),vs=[.ref x]∧MpAt K C H x d ms∧ms.length≤12∧MsOk ms∧∀ (r:Addr) (H':Hp) (ts:List T3),Same H H'→H r=none→WlAt K H' r ts→(∀ t,t ∈ ts↔Stands ms t)→(ts.Pairwise fun s t=>keyT s < keyT t)→ts.length≤60→Q (.ref r) H'
theorem sc_wires:FnScope ["self","told","house","number","near","names","other","quiet","pair","standing","back"] ["self"] (defScope s_wires):=⟨rfl,rfl,rfl,by decide +kernel,rfl,by decide +kernel,by decide +kernel⟩
set_option maxHeartbeats 2000000 in
theorem ok_wires {fd fn:FuncData} (T:Txt K mg t) (F:Fun K "wires" "Map.wires" s_wires t.m_wires fd) (F_news:FnOk P w K mg base (CX1 P w) 1 t.m_news fn ["self"] (sp_news K t.Map)) (B_news:Binds K fn ["self"] []):FnOk P w K mg base (CX1 P w) 2 t.m_wires fd ["self"] (sp_wires K t.Map)∧Binds K fd ["self"] []:=by
 refine ⟨F.ok1q sc_wires (fun vs H Q E h=>?_) (fun f cdv A outer s H vs Q E hr h=>?_),F.binds fun _ _ _ _ _ _ us hl=>match us,hl with | [_],_=>rfl⟩
 ·obtain ⟨x,d,ms,rfl,_⟩:=h
  rfl
 ·obtain ⟨x,d,ms,rfl,hM,hl,hok,q⟩:=h
  refine ⟨_,pss_cons (ps_set (i:=1) sc_wires.nd rfl (Or.inl rfl) pe_tnew)
   (pss_cons (PS.nox (ps_for PassesOwn.never rfl (pi_listK K (pe_meth0 (pv 0) T.cMap T.me_news (F_news.mono (by decide)) hr B_news .nil passN)) (pg_tup rfl (pgs_cons (pg_name (i:=2) sc_wires.nd rfl (Or.inl rfl)) (pgs_cons (pg_name (i:=3) sc_wires.nd rfl (Or.inl rfl)) (pgs_cons (pg_name (i:=4) sc_wires.nd rfl (Or.inl rfl)) (pgs_cons (pg_name (i:=5) sc_wires.nd rfl (Or.inl rfl)) pgs_nil)))))
    (pss_one (ps_for PassesOwn.never rfl (pi_tupK K (pv 4)) (pg_tup rfl (pgs_cons (pg_name (i:=6) sc_wires.nd rfl (Or.inl rfl)) (pgs_cons (pg_name (i:=7) sc_wires.nd rfl (Or.inl rfl)) (pgs_cons (pg_name (i:=8) sc_wires.nd rfl (Or.inl rfl)) pgs_nil))))
     (pss_one (ps_tput K (hu16 hr) (pv 1) (pe_tup (pa_cons (pv 2) (pa_cons (pv 6) (pa_cons (pv 8) pa_nil)))) (pv 7) (by rfl)))))))
   (pss_cons (ps_set (i:=9) sc_wires.nd rfl (Or.inl rfl) (pe_lst pa_nil))
   (pss_cons (PS.nox (ps_for PassesOwn.never rfl (pi_dictTk (pv 1)) (pg_tup rfl (pgs_cons (pg_name (i:=2) sc_wires.nd rfl (Or.inl rfl)) (pgs_cons (pg_name (i:=6) sc_wires.nd rfl (Or.inl rfl)) (pgs_cons (pg_name (i:=8) sc_wires.nd rfl (Or.inl rfl)) pgs_nil))))
    (pss_cons (ps_set (i:=10) sc_wires.nd rfl (Or.inl rfl) (pe_tup (pa_cons (pv 6) (pa_cons (pv 2) (pa_cons (pv 8) pa_nil)))))
    (pss_one (ps_if (PW.pt (pw_and (pt_cmpR op_lt (pv 2) (pv 6) (nomark _)) (pw_and1 (pt_cmpR (op_inTk K (hu16 hr)) (pv 10) (pv 1) (by rfl)))))
     (pss_one (ps_expr (pe_bmK K PySem.F.plainAttrs_list PySem.F.slot_list_append PySem.F.type_list_append mt_append (pv 9) (pa_cons (pe_tup (pa_cons (pv 2) (pa_cons (pv 6) (pa_cons (pe_callB (call_max2 rfl) (by rfl) T.n_max boot_max (pa_cons (pe_tget K (hu16 hr) (pv 1) (pe_tup (pa_cons (pv 2) (pa_cons (pv 6) (pa_cons (pv 8) pa_nil)))) (fun _ _=>rfl)) (pa_cons (pe_tget K (hu16 hr) (pv 1) (pv 10) (fun _ _=>rfl)) pa_nil))) pa_nil)))) pa_nil))))
     (pss_nil))))))
   (pss_one (ps_ret (pe_callB (call_sorted K (hu16 hr)) (by rfl) T.n_sorted boot_sorted (pa_cons (pv 9) pa_nil))))))),?_⟩
  have hsz:(2000:Nat)≤sizeLine:=by decide
  refine fun td htd=>?_
  have s1:=(Same.refl H).new (o:=DKt td []) htd
  have e1:(upd H td (DKt td [])) td=some (DKt td []):=upd_same
  generalize upd H td (DKt td [])=H1 at s1 e1 ⊢
  obtain ⟨dx,hx⟩:=hM.o
  refine ⟨_,rfl,x,dx,_,rfl,s1 _ _ hx,rfl,x,d,ms,rfl,hM.same s1,by omega,fun r H2 us s2a _ e2 pm srt=>?_⟩
  have s2:=s1.trans s2a
  have ndu:(hs us).Nodup:=(show (hs us).Perm (hs ms) from pm.map _).nodup_iff.mpr hM.nd
  have oku:MsOk us:=fun m hm=>hok m (pm.mem_iff.mp hm)
  have kn:=flat_keys ndu oku
  have fl:=flat_len oku
  have ul:us.length≤12:=by rw [pm.length_eq];exact hl
  have nat:∀ m ∈ us,NAt K H m.1 m.2:=fun m hm=>hM.all m (pm.mem_iff.mp hm)
  have etd:H2 td=some (DKt td []):=s2a _ _ e1
  let I1:Nat→_→_→Prop:=fun i σ H'=>∃ (xs:TX) (v2 v3 v4 v5 v6 v7 v8:Option V),σ=[some (.ref x),some (.ref td),v2,v3,v4,v5,v6,v7,v8,none,none]∧Same H H'∧H' r=some (.lst (us.map (·.1)))∧H' td=some (DKt td xs)∧(∀ p ∈ xs,IsTk K H' p.2.1 p.1)∧xs.map (fun p=>(p.1,p.2.2))=(flatM (us.take i)).map fun e=>(e.1,V.int e.2)
  refine ⟨r,rfl,⟨_,SqL.of e2⟩,for_list (K:=K) (a:=r) (xs:=us.map (·.1)) I1 ⟨[],none,none,none,none,none,none,none,rfl,s2,e2,etd,fun p hp=>absurd hp List.not_mem_nil,rfl⟩ (fun i σ H' _ ⟨_,_,_,_,_,_,_,_,_,_,e,_⟩=>SqL.of e) ?_ ?_⟩
  ·rintro i y σ H3 hi ⟨xs,v2,v3,v4,v5,v6,v7,v8,rfl,s3,e3,d3,k3,m3⟩
   rw [List.getElem?_map] at hi
   cases ez:us[i]? with
   | none=>rw [ez] at hi;cases hi
   | some m =>
    rw [ez] at hi
    obtain rfl:m.1=y:=Option.some.inj hi
    have hmu:m ∈ us:=List.mem_of_getElem? ez
    obtain ⟨a,p,r2,zs,ea,h1,h2,h3,h4,h5⟩:=((nat m hmu).same s3).out
    refine ⟨a,_,ea,h1,rfl,_,_,rfl,_,_,rfl,_,_,rfl,_,_,rfl,rfl,?_⟩
    let I2:Nat→_→_→Prop:=fun j σ H'=>∃ (xs:TX) (v6 v7 v8:Option V),σ=[some (.ref x),some (.ref td),some (.int m.2.h),some (.int m.2.n),some (.ref p),some (.ref r2),v6,v7,v8,none,none]∧Same H H'∧H' r=some (.lst (us.map (·.1)))∧H' td=some (DKt td xs)∧SqT K H' p (zs.map (·.1))∧WsAt K H' zs∧(∀ q ∈ xs,IsTk K H' q.2.1 q.1)∧xs.map (fun p=>(p.1,p.2.2))=(flatM (us.take i) ++ (m.2.near.take j).map (fW m)).map fun e=>(e.1,V.int e.2)
    refine ⟨_,rfl,p,rfl,⟨_,h2⟩,for_tup (K:=K) (a:=p) (xs:=zs.map (·.1)) I2 ⟨xs,v6,v7,v8,rfl,s3,e3,d3,h2,h3,k3,by rw [List.take_zero,List.map_nil,List.append_nil];exact m3⟩ (fun j σ H' _ ⟨_,_,_,_,_,_,_,_,e,_⟩=>e) ?_ ?_⟩
    ·rintro j y σ H4 hj ⟨xs,v6,v7,v8,rfl,s4,e4,d4,p4,w4,k4,m4⟩
     rw [List.getElem?_map] at hj
     cases ej:zs[j]? with
     | none=>rw [ej] at hj;cases hj
     | some z =>
      rw [ej] at hj
      obtain rfl:z.1=y:=Option.some.inj hj
      have hmz:z ∈ zs:=List.mem_of_getElem? ej
      have ejn:m.2.near[j]?=some z.2:=by rw [← h4,List.getElem?_map,ej];rfl
      obtain ⟨wa,wp,ewa,g1,g2⟩:=(w4 z hmz).out
      refine ⟨wa,_,ewa,g1,rfl,_,_,rfl,_,_,rfl,_,_,rfl,rfl,?_⟩
      obtain ⟨R,hR⟩:=flat_split ez ejn
      have newk:[m.2.h,z.2.o,z.2.a,z.2.b] ∉ xs.map (·.1):=by
       rw [tx_keys m4]
       have:=kn
       rw [hR,List.map_append] at this
       intro hmem
       exact (List.nodup_append.mp this).2.2 _ hmem _ (List.mem_map.mpr ⟨fW m z.2,List.mem_cons_self,rfl⟩) rfl
      have xl:xs.length≤60:=by
       have:=congrArg List.length m4
       rw [List.length_map,List.length_map] at this
       have h6:=congrArg List.length hR
       rw [List.length_append,List.length_cons] at h6
       omega
      refine ⟨_,rfl,_,rfl,_,rfl,_,rfl,_,rfl,by show 3≤sizeLine;decide,fun tp htp=>?_⟩
      have s5:=(Same.refl H4).new (o:=.tup [.int m.2.h,.int z.2.o,.ref wp]) htp
      have t5:IsTk K (upd H4 tp (.tup [.int m.2.h,.int z.2.o,.ref wp])) tp [m.2.h,z.2.o,z.2.a,z.2.b]:=⟨.inr ⟨_,_,_,_,wp,rfl,SqT.of upd_same,s5.tup g2⟩⟩
      generalize upd H4 tp (.tup [.int m.2.h,.int z.2.o,.ref wp])=H5 at s5 t5
      have d5:=s5 _ _ d4
      have k5:∀ q ∈ xs,IsTk K H5 q.2.1 q.1:=fun q hq=>(k4 q hq).same s5
      refine ⟨td,tp,xs,_,rfl,rfl,⟨.inl d5,k5⟩,d5,t5,by omega,?_⟩
      rw [putT_new newk]
      have kp:=kept_of (o:=DKt td (xs ++ [([m.2.h,z.2.o,z.2.a,z.2.b],tp,V.int z.2.q)])) (NTu.dkt d5)
      have ner:r≠td:=ne_of (s5 _ _ e4) d5 (by intro z;cases z)
      refine ⟨xs ++ [([m.2.h,z.2.o,z.2.a,z.2.b],tp,V.int z.2.q)],_,_,_,rfl,(s4.trans s5).put htd,by rw [upd_ne ner];exact s5 _ _ e4,upd_same,kp.tup (s5.tup p4),(w4.same s5).kept kp,fun q hq=>?_,?_⟩
      ·rcases List.mem_append.mp hq with h | h
       ·exact (k5 q h).kept kp
       ·rw [List.mem_singleton.mp h];exact t5.kept kp
      ·rw [take_succ ejn,List.map_append,m4,List.map_append (l₁:=m.2.near.take j),← List.append_assoc,List.map_append (l₂:=List.map (fW m) [z.2])]
       rfl
    ·rintro σ H4 ⟨xs,v6,v7,v8,rfl,s4,e4,d4,p4,w4,k4,m4⟩
     have hzl:(zs.map (·.1)).length=m.2.near.length:=by rw [← h4,List.length_map,List.length_map]
     rw [hzl,List.take_length] at m4
     refine ⟨xs,_,_,_,_,_,_,_,rfl,s4,e4,d4,k4,?_⟩
     rw [m4,take_succ ez,flat_app,flat_one]
  ·rintro σ H3 ⟨xs,v2,v3,v4,v5,v6,v7,v8,rfl,s3,e3,d3,k3,m3⟩
   rw [List.length_map,List.take_length] at m3
   refine ⟨by show 0≤sizeLine;decide,fun st hst=>?_⟩
   have s4:=(Same.refl H3).new (o:=.lst []) hst
   have e4:(upd H3 st (.lst [])) st=some (.lst []):=upd_same
   have hst0:H st=none:=s3.free hst
   generalize upd H3 st (.lst [])=H4 at s4 e4 ⊢
   have xl:xs.length≤60:=by
    have:=congrArg List.length m3
    rw [List.length_map,List.length_map] at this
    omega
   have d4:=s4 _ _ d3
   refine ⟨_,rfl,td,xs,rfl,d4,fun u ou=>?_⟩
   have kz:=kept_of (o:=u) (NTu.dkt d4)
   have s5:Same H (upd H4 td u):=(s3.trans s4).put htd
   have nst:st≠td:=ne_of e4 d4 (by intro z;cases z)
   have e5:(upd H4 td u) st=some (.lst []):=by rw [upd_ne nst];exact e4
   have k5:∀ p ∈ xs,IsTk K (upd H4 td u) p.2.1 p.1:=fun p hp=>((k3 p hp).same s4).kept kz
   have d5:(upd H4 td u) td=some u:=upd_same
   generalize upd H4 td u=H5 at s5 e5 k5 d5 ⊢
   let I3:Nat→_→_→Prop:=fun i σ H'=>∃ (zs:List (V × T3)) (v2 v3 v4 v5 v6 v7 v8 v10:Option V),σ=[some (.ref x),some (.ref td),v2,v3,v4,v5,v6,v7,v8,some (.ref st),v10]∧Same H H'∧H' td=some u∧(∀ p ∈ xs,IsTk K H' p.2.1 p.1)∧H' st=some (.lst (zs.map (·.1)))∧TsAt K H' zs∧zs.map (·.2)=((flatM us).take i).filterMap (stdOne (flatM us))
   refine for_dictTk (d:=td) (u:=u) (xs:=xs) I3 ⟨[],v2,v3,v4,v5,v6,v7,v8,none,rfl,s5,d5,k5,e5,fun z hz=>absurd hz List.not_mem_nil,rfl⟩ (fun i σ H' _ ⟨_,_,_,_,_,_,_,_,_,_,_,e,_⟩=>e) ?_ ?_
   ·rintro i p σ H6 hi ⟨zs,v2,v3,v4,v5,v6,v7,v8,v10,rfl,s6,d6,k6,e6,t6,m6⟩
    have eL:∃ e,(flatM us)[i]?=some e∧p.1=e.1∧p.2.2=.int e.2:=by
     have:(xs.map fun p=>(p.1,p.2.2))[i]?=some (p.1,p.2.2):=by rw [List.getElem?_map,hi];rfl
     rw [m3,List.getElem?_map] at this
     cases ee:(flatM us)[i]? with
     | none=>rw [ee] at this;cases this
     | some e =>
      rw [ee] at this
      obtain ⟨z1,z2⟩:=Prod.mk.inj (Option.some.inj this)
      exact ⟨e,rfl,z1.symm,z2.symm⟩
    obtain ⟨e,ee,ep1,ep2⟩:=eL
    obtain ⟨m,hm,ww,hww,rfl⟩:=flat_mem.mp (List.mem_of_getElem? ee)
    have pm6:=k6 p (List.mem_of_getElem? hi)
    rw [ep1] at pm6
    rcases pm6.ex with ⟨_,_,z,_⟩ | ⟨h,o,a,b,pb,z,g1,g2⟩
    ·simp at z
    simp only [List.cons.injEq,and_true] at z
    obtain ⟨rfl,rfl,rfl,rfl⟩:=z
    have hzl:zs.length≤60:=by
     have:=congrArg List.length m6
     rw [List.length_map] at this
     have h2:=List.length_filterMap_le (stdOne (flatM us)) ((flatM us).take i)
     rw [List.length_take] at h2
     omega
    refine ⟨p.2.1,_,rfl,g1,rfl,_,_,rfl,_,_,rfl,_,_,rfl,rfl,?_⟩
    refine ⟨_,rfl,_,rfl,_,rfl,by show 3≤sizeLine;decide,fun bk hbk=>?_⟩
    have s7:=(Same.refl H6).new (o:=.tup [.int ww.o,.int m.2.h,.ref pb]) hbk
    have tb:IsTk K (upd H6 bk (.tup [.int ww.o,.int m.2.h,.ref pb])) bk [ww.o,m.2.h,ww.a,ww.b]:=⟨.inr ⟨_,_,_,_,pb,rfl,SqT.of upd_same,s7.tup g2⟩⟩
    generalize upd H6 bk (.tup [.int ww.o,.int m.2.h,.ref pb])=H7 at s7 tb ⊢
    have d7:=s7 _ _ d6
    have k7:∀ p ∈ xs,IsTk K H7 p.2.1 p.1:=fun p hp=>(k6 p hp).same s7
    have stay:stdOne (flatM us) ([m.2.h,ww.o,ww.a,ww.b],ww.q)=none→I3 (i+1) [some (.ref x),some (.ref td),some (.int m.2.h),v3,v4,v5,some (.int ww.o),v7,some (.ref pb),some (.ref st),some (.ref bk)] H7:=fun hno=>by
     refine ⟨zs,_,_,_,_,_,_,_,_,rfl,s6.trans s7,d7,k7,s7 _ _ e6,t6.same s7,?_⟩
     rw [take_succ ee,List.filterMap_append,m6,List.filterMap_cons,hno]
     simp
    refine ⟨_,rfl,_,rfl,_,_,rfl,rfl,_,rfl,?_⟩
    by_cases hlt:m.2.h < ww.o
    ·refine iteY hlt ?_
     refine ⟨_,rfl,_,rfl,td,bk,xs,_,rfl,rfl,⟨.inr ⟨u,d7,ou⟩,k7⟩,tb,_,rfl,?_⟩
     show if decide ([ww.o,m.2.h,ww.a,ww.b] ∈ xs.map (·.1))=true then _ else _
     have vb:=val_tx m3 [ww.o,m.2.h,ww.a,ww.b]
     by_cases hin:[ww.o,m.2.h,ww.a,ww.b] ∈ xs.map (·.1)
     ·refine iteY hin ?_
      have hs1:(valT xs [ww.o,m.2.h,ww.a,ww.b]).isSome=true:=by rw [valT_isSome,decide_eq_true hin]
      rw [vb,Option.isSome_map] at hs1
      obtain ⟨q2,hq2⟩:=Option.isSome_iff_exists.mp hs1
      rw [hq2] at vb
      have va:valT xs [m.2.h,ww.o,ww.a,ww.b]=some (.int ww.q):=by
       rw [val_tx m3,(look_iff kn).mpr (List.mem_of_getElem? ee)]
       rfl
      refine ⟨_,rfl,.inl ⟨rfl,_,SqL.of (s7 _ _ e6)⟩,_,rfl,_,rfl,_,rfl,_,rfl,_,rfl,_,rfl,by show 3≤sizeLine;decide,fun kt hkt=>?_⟩
      have s8:=(Same.refl H7).new (o:=.tup [.int m.2.h,.int ww.o,.ref pb]) hkt
      have tk:IsTk K (upd H7 kt (.tup [.int m.2.h,.int ww.o,.ref pb])) kt [m.2.h,ww.o,ww.a,ww.b]:=⟨.inr ⟨_,_,_,_,pb,rfl,SqT.of upd_same,s8.tup (s7.tup g2)⟩⟩
      generalize upd H7 kt (.tup [.int m.2.h,.int ww.o,.ref pb])=H8 at s8 tk
      have td8:TD K H8 td xs:=⟨.inr ⟨u,s8 _ _ d7,ou⟩,fun p hp=>(k7 p hp).same s8⟩
      refine ⟨td,kt,xs,_,_,rfl,rfl,td8,tk,va,_,rfl,_,rfl,td,bk,xs,_,_,rfl,rfl,td8,tb.same s8,vb,ww.q,q2,rfl,by show 3≤sizeLine;decide,fun tp htp=>?_⟩
      have s9:=(Same.refl H8).new (o:=.tup [.int m.2.h,.int ww.o,.int (if q2 > ww.q then q2 else ww.q)]) htp
      have dn:IsDat K (upd H8 tp (.tup [.int m.2.h,.int ww.o,.int (if q2 > ww.q then q2 else ww.q)])) 2 (.ref tp) (w3D (m.2.h,ww.o,if q2 > ww.q then q2 else ww.q)):=by
       refine .tup (SqT.of upd_same) rfl fun i v d e1 e2=>?_
       match i with
       | 0=>cases e1;cases e2;exact .int _
       | 1=>cases e1;cases e2;exact .int _
       | 2=>cases e1;cases e2;exact .int _
       | i+3=>simp at e1
      generalize upd H8 tp (.tup [.int m.2.h,.int ww.o,.int (if q2 > ww.q then q2 else ww.q)])=H9 at s9 dn
      have s79:=s7.trans (s8.trans s9)
      refine ⟨st,_,_,rfl,rfl,s79 _ _ e6,by rw [List.length_map];omega,?_⟩
      have kp:=kept_of (o:=.lst (zs.map (·.1) ++ [V.ref tp])) (NTu.lst (s79 _ _ e6))
      refine ⟨zs ++ [(.ref tp,(m.2.h,ww.o,if q2 > ww.q then q2 else ww.q))],_,_,_,_,_,_,_,_,rfl,(s6.trans s79).put hst0,by rw [upd_ne (Ne.symm nst)];exact s79 _ _ d6,fun p hp=>((k6 p hp).same s79).kept kp,by rw [upd_same,List.map_append];rfl,fun z hz=>?_,?_⟩
      ·rcases List.mem_append.mp hz with h | h
       ·exact ((t6 z h).same s79).kept kp (noL_t _)
       ·rw [List.mem_singleton.mp h];exact dn.kept kp (noL_t _)
      ·rw [take_succ ee,List.filterMap_append,List.map_append,m6,List.filterMap_cons]
       have:stdOne (flatM us) ([m.2.h,ww.o,ww.a,ww.b],ww.q)=some (m.2.h,ww.o,if q2 > ww.q then q2 else ww.q):=by
        unfold stdOne
        simp only
        rw [if_pos hlt,hq2]
        rfl
       rw [this]
       rfl
     ·refine iteN hin ?_
      refine stay ?_
      unfold stdOne
      simp only
      rw [if_pos hlt]
      have hs1:(valT xs [ww.o,m.2.h,ww.a,ww.b]).isSome=false:=by rw [valT_isSome,decide_eq_false hin]
      rw [vb,Option.isSome_map] at hs1
      have:lookT (flatM us) [ww.o,m.2.h,ww.a,ww.b]=none:=by simpa using hs1
      rw [this]
      rfl
    ·refine iteN hlt ?_
     refine stay ?_
     unfold stdOne
     simp only
     rw [if_neg hlt]
   ·rintro σ H6 ⟨zs,v2,v3,v4,v5,v6,v7,v8,v10,rfl,s6,d6,k6,e6,t6,m6⟩
    have xle:xs.length=(flatM us).length:=by
     have:=congrArg List.length m3
     rwa [List.length_map,List.length_map] at this
    rw [xle,List.take_length] at m6
    have hzl:zs.length≤60:=by
     have:=congrArg List.length m6
     rw [List.length_map] at this
     have h2:=List.length_filterMap_le (stdOne (flatM us)) (flatM us)
     omega
    refine ⟨_,rfl,true,st,zs.map fun z=>(z.1,w3D z.2),rfl,by rw [List.map_map];exact SqL.of e6,by rw [List.length_map];omega,fun y hy=>?_,by have:=ordT (zs.map (·.2));rw [List.map_map] at this ⊢;exact this,fun ys r2 hp hsr hr2=>?_⟩
    ·obtain ⟨z,hz,rfl⟩:=List.mem_map.mp hy
     exact IsDat.up (t6 z hz) (by decide)
    obtain ⟨vs,hv1,rfl⟩:=perm_back (fun z:V × T3=>(z.1,w3D z.2)) hp zs rfl
    have s7:=(Same.refl H6).new (o:=.lst ((vs.map fun z=>(z.1,w3D z.2)).map (·.1))) hr2
    have pmv:(vs.map (·.2)).Perm (stdM (flatM us)):=by
     have:=hv1.map (·.2)
     rw [m6] at this
     exact this
    refine q r2 _ (vs.map (·.2)) (s6.trans s7) (s6.free hr2) ⟨vs,by rw [upd_same,List.map_map];rfl,fun z hz=>(t6 z (hv1.mem_iff.mp hz)).same s7,rfl⟩ (fun tt=>?_) ?_ (by rw [List.length_map,hv1.length_eq];exact hzl)
    ·rw [pmv.mem_iff,std_mem ndu oku]
     unfold Stands
     refine and_congr_right fun _=>?_
     constructor
     ·rintro ⟨m1,h1,m2,h2,z⟩
      exact ⟨m1,pm.mem_iff.mp h1,m2,pm.mem_iff.mp h2,z⟩
     ·rintro ⟨m1,h1,m2,h2,z⟩
      exact ⟨m1,pm.mem_iff.mpr h1,m2,pm.mem_iff.mpr h2,z⟩
    ·have pw:(vs.map (·.2)).Pairwise fun s t=>(s.1,s.2.1)≠(t.1,t.2.1):=(pmv.pairwise_iff fun {a b} h=>h.symm).mpr (std_pair ndu oku)
     have so:(vs.map (·.2)).Pairwise fun s t=>lesD (w3D t) (w3D s)=false:=by
      rw [List.pairwise_map] at hsr ⊢
      exact hsr
     refine (so.and pw).imp fun {s t} ⟨h1,h2⟩=>?_
     rw [les_t,decide_eq_false_iff_not] at h1
     by_cases h:keyT s < keyT t
     ·exact h
     ·exact absurd (by rw [keyT_inj (List.le_antisymm (List.not_lt.mp h1) (List.not_lt.mp h))]) h2
end
end K52
namespace K52
open PySem L2 PyProof.Rows
section
variable {P:Program} {w:World} {K:PySem.W.Frag} {mg:Str→Option Value} {base:Heap} {t:Ad}
def oV:Option Int→V
 | none=>.non
 | some n=>.int n
structure PrsAt (K:PySem.W.Frag) (H:Hp) (l:Addr) (ps:List (Int × Int)):Prop where
 ex:∃ zs:List (Addr × Int × Int),H l=some (.lst (zs.map fun z=>V.ref z.1))∧(∀ z ∈ zs,SqT K H z.1 [.int z.2.1,.int z.2.2])∧zs.map (·.2)=ps
theorem PrsAt.same {K:PySem.W.Frag} {H H':Hp} {l:Addr} {ps:List (Int × Int)} (h:PrsAt K H l ps) (s:Same H H'):PrsAt K H' l ps:=by
 obtain ⟨zs,h1,h2,h3⟩:=h.ex
 exact ⟨zs,s _ _ h1,fun z hz=>s.tup (h2 z hz),h3⟩
end
end K52
namespace K52
open PySem L2 PyProof.Rows
section
variable {P:Program} {w:World} {K:PySem.W.Frag} {mg:Str→Option Value} {base:Heap} {t:Ad}
theorem o_uniq:∀ {l:List Wr},(l.map (·.o)).Nodup→∀ {a b:Wr},a ∈ l→b ∈ l→a.o=b.o→a=b
 | [],_,_,_,h,_,_=>absurd h List.not_mem_nil
 | x :: l,nd,a,b,ha,hb,e=>by
  rw [List.map_cons] at nd
  obtain ⟨h1,h2⟩:=List.nodup_cons.mp nd
  rcases List.mem_cons.mp ha with rfl | ha
  ·rcases List.mem_cons.mp hb with rfl | hb
   ·rfl
   ·exact absurd (List.mem_map.mpr ⟨b,hb,e.symm⟩) h1
  ·rename_i ha'
   rcases List.mem_cons.mp hb with hb | hb
   ·exact absurd (List.mem_map.mpr ⟨a,ha,by rw [e,hb]⟩) h1
   ·exact o_uniq h2 ha hb e
theorem stands_uniq {ms:Ms} (nd:(hs ms).Nodup) (ok:MsOk ms) {s t:T3} (hs':Stands ms s) (ht:Stands ms t) (e1:s.1=t.1) (e2:s.2.1=t.2.1):s=t:=by
 obtain ⟨_,m1,h1,m2,h2,w1,g1,w2,g2,a1,a2,a3,a4,_,_,a5⟩:=hs'
 obtain ⟨_,n1,k1,n2,k2,v1,f1,v2,f2,b1,b2,b3,b4,_,_,b5⟩:=ht
 obtain rfl:=ms_uniq nd h1 k1 (by omega)
 obtain rfl:=ms_uniq nd h2 k2 (by omega)
 obtain rfl:=o_uniq (ok m1 h1).1 g1 f1 (by omega)
 obtain rfl:=o_uniq (ok m2 h2).1 g2 f2 (by omega)
 exact Prod.ext e1 (Prod.ext e2 (by rw [a5,b5]))
theorem t3_out {K:PySem.W.Frag} {H:Hp} {n:Nat} {v:V} {t:T3} (h:IsDat K H n v (w3D t)):∃ a,v=.ref a∧SqT K H a [.int t.1,.int t.2.1,.int t.2.2]:=by
 cases n with
 | zero=>cases h
 | succ n =>
  obtain ⟨a,xs,rfl,h1,h2,h3⟩:=dTup h
  match xs,h2 with
  | [x,y,z],_ =>
   obtain rfl:=dInt (h3 0 x _ rfl rfl)
   obtain rfl:=dInt (h3 1 y _ rfl rfl)
   obtain rfl:=dInt (h3 2 z _ rfl rfl)
   exact ⟨a,rfl,h1⟩
def edT (t:T3):List (Tk × Int):=[([t.1,t.2.1],t.2.2),([t.2.1,t.1],t.2.2)]
def eds (ts:List T3):List (Tk × Int):=ts.flatMap edT
structure Tsd (ts:List T3):Prop where
 lt:∀ t ∈ ts,t.1 < t.2.1
 pw:ts.Pairwise fun s t=>¬ (s.1=t.1∧s.2.1=t.2.1)
theorem eds_mem {ts:List T3} {e:Tk × Int}:e ∈ eds ts↔∃ t ∈ ts,e=([t.1,t.2.1],t.2.2)∨e=([t.2.1,t.1],t.2.2):=by
 unfold eds edT
 rw [List.mem_flatMap]
 simp only [List.mem_cons,List.not_mem_nil,or_false]
theorem eds_keys:∀ {ts:List T3},Tsd ts→((eds ts).map (·.1)).Nodup
 | [],_=>List.nodup_nil
 | t :: ts,h=>by
  obtain ⟨p1,p2⟩:=List.pairwise_cons.mp h.pw
  have ih:=eds_keys (ts:=ts) ⟨fun s hs=>h.lt s (List.mem_cons_of_mem _ hs),p2⟩
  have t0:=h.lt t List.mem_cons_self
  have no:∀ k,k=[t.1,t.2.1]∨k=[t.2.1,t.1]→k ∉ (eds ts).map (·.1):=fun k hk hm=>by
   obtain ⟨e,he,rfl⟩:=List.mem_map.mp hm
   obtain ⟨s,hs,z⟩:=eds_mem.mp he
   have s0:=h.lt s (List.mem_cons_of_mem _ hs)
   have:=p1 s hs
   rcases z with rfl | rfl <;> rcases hk with hk | hk <;> simp only [List.cons.injEq,and_true] at hk <;> omega
  show (([t.1,t.2.1] :: [t.2.1,t.1] :: (eds ts).map (·.1))).Nodup
  refine List.nodup_cons.mpr ⟨fun z=>?_,List.nodup_cons.mpr ⟨no _ (.inr rfl),ih⟩⟩
  rcases List.mem_cons.mp z with z | z
  ·simp only [List.cons.injEq,and_true] at z;omega
  ·exact no _ (.inl rfl) z
theorem eds_app (a b:List T3):eds (a ++ b)=eds a ++ eds b:=by unfold eds;rw [List.flatMap_append]
theorem eds_len (ts:List T3):(eds ts).length=2 * ts.length:=by
 induction ts with
 | nil=>rfl
 | cons t ts ih =>
  show (edT t ++ eds ts).length=_
  rw [List.length_append,ih,List.length_cons]
  show 2+_=_
  omega
structure LnAt (K:PySem.W.Frag) (H:Hp) (td:Addr) (L:List (Tk × Int)) (xs:TX):Prop where
 d:H td=some (DKt td xs)
 k:∀ p ∈ xs,IsTk K H p.2.1 p.1
 m:xs.map (fun p=>(p.1,p.2.2))=L.map fun e=>(e.1,V.int e.2)
theorem LnAt.same {K:PySem.W.Frag} {H H':Hp} {td:Addr} {L:List (Tk × Int)} {xs:TX} (h:LnAt K H td L xs) (s:Same H H'):LnAt K H' td L xs:=⟨s _ _ h.d,fun p hp=>(h.k p hp).same s,h.m⟩
def sp_lengths_of (K:PySem.W.Frag) (C:Addr):Sp:=fun vs H Q _=>∃ (x d:Addr) (ms:Ms),vs=[.ref x]∧MpAt K C H x d ms∧ms.length≤12∧MsOk ms∧∀ (td:Addr) (H':Hp) (ts:List T3) (xs:TX),Same H H'→H td=none→LnAt K H' td (eds ts) xs→(∀ t,t ∈ ts↔Stands ms t)→Tsd ts→ts.length≤60→Q (.ref td) H'
theorem sc_lengths_of:FnScope ["chart","lengths","one","other","length"] ["chart"] (defScope s_lengths_of):=⟨rfl,rfl,rfl,by decide +kernel,rfl,by decide +kernel,by decide +kernel⟩
set_option maxHeartbeats 2000000 in
theorem ok_lengths_of {fw:FuncData} (F:Site K mg "lengths_of" s_lengths_of) (T:Txt K mg t) (F_wires:FnOk P w K mg base (CX1 P w) 2 t.m_wires fw ["self"] (sp_wires K t.Map)) (B_wires:Binds K fw ["self"] []):Def P w K mg base 3 "lengths_of" ["chart"] (sp_lengths_of K t.Map):=by
 refine F.def sc_lengths_of (fun _ _ _ _ _ _ us hl=>match us,hl with | [_],_=>rfl) (fun vs H Q E h=>?_) (fun f cdv A outer s H vs Q E hr h=>?_)
 ·obtain ⟨x,d,ms,rfl,_⟩:=h
  rfl
 ·obtain ⟨x,d,ms,rfl,hM,hl,hok,q⟩:=h
  refine ⟨_,pss_cons (ps_set (i:=1) sc_lengths_of.nd rfl (Or.inl rfl) pe_tnew)
   (pss_cons (PS.nox (ps_for PassesOwn.never rfl (pi_listK K (pe_meth0 (pv 0) T.cMap T.me_wires (F_wires.mono (by decide)) hr B_wires .nil passN)) (pg_tup rfl (pgs_cons (pg_name (i:=2) sc_lengths_of.nd rfl (Or.inl rfl)) (pgs_cons (pg_name (i:=3) sc_lengths_of.nd rfl (Or.inl rfl)) (pgs_cons (pg_name (i:=4) sc_lengths_of.nd rfl (Or.inl rfl)) pgs_nil))))
    (pss_cons (ps_tput K (hu16 hr) (pv 1) (pe_tup (pa_cons (pv 2) (pa_cons (pv 3) pa_nil))) (pv 4) (by rfl))
    (pss_one (ps_tput K (hu16 hr) (pv 1) (pe_tup (pa_cons (pv 3) (pa_cons (pv 2) pa_nil))) (pv 4) (by rfl))))))
   (pss_one (ps_ret (pv 1)))),?_⟩
  have hsz:(2000:Nat)≤sizeLine:=by decide
  refine fun td htd=>?_
  have s1:=(Same.refl H).new (o:=DKt td []) htd
  have e1:(upd H td (DKt td [])) td=some (DKt td []):=upd_same
  generalize upd H td (DKt td [])=H1 at s1 e1 ⊢
  obtain ⟨dx,hx⟩:=hM.o
  refine ⟨_,rfl,x,dx,_,rfl,s1 _ _ hx,rfl,x,d,ms,rfl,hM.same s1,hl,hok,fun r H2 ts s2 nr w2 m2 p2 tl=>?_⟩
  have lt2:∀ t ∈ ts,t.1 < t.2.1:=fun t ht=>((m2 t).mp ht).1
  have tsd:Tsd ts:=⟨lt2,p2.imp_of_mem fun {s t} hs ht h e=>by
   have:=stands_uniq hM.nd hok ((m2 s).mp hs) ((m2 t).mp ht) e.1 e.2
   rw [this] at h
   exact List.lt_irrefl _ h⟩
  have kn:=eds_keys tsd
  obtain ⟨zs,z1,z2,z3⟩:=w2
  have S2:=s1.trans s2
  have nrt:r≠td:=fun z=>by rw [z,e1] at nr;cases nr
  let I:Nat→_→_→Prop:=fun i σ H'=>∃ (xs:TX) (v2 v3 v4:Option V),σ=[some (.ref x),some (.ref td),v2,v3,v4]∧Same H H'∧H' r=some (.lst (zs.map (·.1)))∧TsAt K H' zs∧LnAt K H' td (eds (ts.take i)) xs
  refine ⟨r,rfl,⟨_,SqL.of z1⟩,for_list (K:=K) (a:=r) (xs:=zs.map (·.1)) I ⟨[],none,none,none,rfl,S2,z1,z2,s2 _ _ e1,fun p hp=>absurd hp List.not_mem_nil,rfl⟩ (fun i σ H' _ ⟨_,_,_,_,_,_,e,_⟩=>SqL.of e) ?_ ?_⟩
  ·rintro i y σ H3 hi ⟨xs,v2,v3,v4,rfl,s3,e3,t3,l3⟩
   rw [List.getElem?_map] at hi
   cases ez:zs[i]? with
   | none=>rw [ez] at hi;cases hi
   | some z =>
    rw [ez] at hi
    obtain rfl:z.1=y:=Option.some.inj hi
    have et:ts[i]?=some z.2:=by rw [← z3,List.getElem?_map,ez];rfl
    obtain ⟨za,ea,g1⟩:=t3_out (t3 z (List.mem_of_getElem? ez))
    refine ⟨za,_,ea,g1,rfl,_,_,rfl,_,_,rfl,_,_,rfl,rfl,?_⟩
    have i1:i < ts.length:=(List.getElem?_eq_some_iff.mp et).1
    have xl:xs.length≤200:=by
     have:=congrArg List.length l3.m
     rw [List.length_map,List.length_map,eds_len,List.length_take] at this
     omega
    have one:∀ {H4:Hp} {xs:TX} {L R:List (Tk × Int)} {a b l:Int} {k:Addr},H4 k=none→eds ts=L ++ ([a,b],l) :: R→Same H H4→H4 r=some (.lst (zs.map (·.1)))→TsAt K H4 zs→LnAt K H4 td L xs→xs.length≤300→IsTk K (upd H4 k (.tup [.int a,.int b])) k [a,b]∧TD K (upd H4 k (.tup [.int a,.int b])) td xs∧(upd H4 k (.tup [.int a,.int b])) td=some (DKt td xs)∧Same H (upd (upd H4 k (.tup [.int a,.int b])) td (DKt td (putT xs [a,b] k (.int l))))∧(upd (upd H4 k (.tup [.int a,.int b])) td (DKt td (putT xs [a,b] k (.int l)))) r=some (.lst (zs.map (·.1)))∧TsAt K (upd (upd H4 k (.tup [.int a,.int b])) td (DKt td (putT xs [a,b] k (.int l)))) zs∧LnAt K (upd (upd H4 k (.tup [.int a,.int b])) td (DKt td (putT xs [a,b] k (.int l)))) td (L ++ [([a,b],l)]) (putT xs [a,b] k (.int l))∧(putT xs [a,b] k (.int l)).length≤xs.length+1:=by
     intro H4 xs L R a b l k hk hL s4 r4 t4 l4 xl
     have s5:=(Same.refl H4).new (o:=.tup [.int a,.int b]) hk
     have t5:IsTk K (upd H4 k (.tup [.int a,.int b])) k [a,b]:=⟨.inl ⟨_,_,rfl,SqT.of upd_same⟩⟩
     generalize upd H4 k (.tup [.int a,.int b])=H5 at s5 t5 ⊢
     have newk:[a,b] ∉ xs.map (·.1):=by
      rw [tx_keys l4.m]
      have:=kn
      rw [hL,List.map_append] at this
      intro hmem
      exact (List.nodup_append.mp this).2.2 _ hmem _ (List.mem_map.mpr ⟨([a,b],l),List.mem_cons_self,rfl⟩) rfl
     have d5:=s5 _ _ l4.d
     rw [putT_new newk]
     have kp:=kept_of (o:=DKt td (xs ++ [([a,b],k,V.int l)])) (NTu.dkt d5)
     have k5:∀ q ∈ xs,IsTk K H5 q.2.1 q.1:=fun q hq=>(l4.k q hq).same s5
     refine ⟨t5,⟨.inl d5,k5⟩,d5,(s4.trans s5).put htd,by rw [upd_ne nrt];exact s5 _ _ r4,fun z hz=>((t4 z hz).same s5).kept kp (noL_t _),⟨upd_same,fun q hq=>?_,?_⟩,by rw [List.length_append];exact Nat.le_refl _⟩
     ·rcases List.mem_append.mp hq with h | h
      ·exact (k5 q h).kept kp
      ·rw [List.mem_singleton.mp h];exact t5.kept kp
     ·rw [List.map_append,l4.m,List.map_append]
      rfl
    obtain ⟨R,hR⟩:∃ R,eds ts=eds (ts.take i) ++ (edT z.2 ++ R):=by
     obtain ⟨j1,j2⟩:=List.getElem?_eq_some_iff.mp et
     refine ⟨eds (ts.drop (i+1)),?_⟩
     have e1:ts=ts.take i ++ z.2 :: ts.drop (i+1):=by rw [← j2,List.getElem_cons_drop,List.take_append_drop]
     have:eds (ts.take i ++ z.2 :: ts.drop (i+1))=eds (ts.take i) ++ (edT z.2 ++ eds (ts.drop (i+1))):=by rw [eds_app];rfl
     rw [← this,← e1]
    refine ⟨_,rfl,_,rfl,_,rfl,_,rfl,by show 2≤sizeLine;decide,fun k1 hk1=>?_⟩
    obtain ⟨a1,a2,a3,a4,a5,a6,a7,a8⟩:=one hk1 hR s3 e3 t3 l3 (by omega)
    refine ⟨td,k1,xs,_,rfl,rfl,a2,a3,a1,by omega,?_⟩
    generalize upd (upd H3 k1 (.tup [.int z.2.1,.int z.2.2.1])) td (DKt td (putT xs [z.2.1,z.2.2.1] k1 (.int z.2.2.2)))=H4 at a4 a5 a6 a7
    generalize putT xs [z.2.1,z.2.2.1] k1 (.int z.2.2.2)=xs1 at a7 a8
    refine ⟨_,rfl,_,rfl,_,rfl,_,rfl,by show 2≤sizeLine;decide,fun k2 hk2=>?_⟩
    obtain ⟨b1,b2,b3,b4,b5,b6,b7,b8⟩:=one hk2 (L:=eds (ts.take i) ++ [([z.2.1,z.2.2.1],z.2.2.2)]) (R:=R) (a:=z.2.2.1) (b:=z.2.1) (l:=z.2.2.2) (by rw [hR];unfold edT;simp) a4 a5 a6 a7 (by omega)
    refine ⟨td,k2,xs1,_,rfl,rfl,b2,b3,b1,by omega,?_⟩
    rw [List.append_assoc] at b7
    exact ⟨_,_,_,_,rfl,b4,b5,b6,by rw [take_succ et,eds_app];exact b7⟩
  ·rintro σ H3 ⟨xs,v2,v3,v4,rfl,s3,e3,t3,l3⟩
   have:(zs.map (·.1)).length=ts.length:=by rw [← z3,List.length_map,List.length_map]
   rw [this,List.take_length] at l3
   exact ⟨_,rfl,q td H3 ts xs s3 htd l3 m2 tsd tl⟩
end
end K52
namespace K52
open PySem L2 PyProof.Rows
section
variable {P:Program} {w:World} {K:PySem.W.Frag} {mg:Str→Option Value} {base:Heap} {t:Ad}
abbrev Hv:=List (Int × Int)
def kvI (p:Int × Int):Key × V:=(Sum.inl p.1,.int p.2)
def lk (hv:Hv) (h:Int):Option Int:=(hv.find? fun p=>decide (p.1=h)).map (·.2)
def putI (hv:Hv) (h n:Int):Hv:=if h ∈ hv.map (·.1) then hv.map (fun p=>if p.1=h then (h,n) else p) else hv ++ [(h,n)]
theorem val_i (hv:Hv) (h:Int):valV (hv.map kvI) (Sum.inl h)=(lk hv h).map V.int:=by
 unfold valV lk
 rw [List.find?_map,Option.map_map,Option.map_map]
 have e:((fun kv:Key × V=>decide (kv.1=Sum.inl h)) ∘ kvI)=fun p:Int × Int=>decide (p.1=h):=by
  funext m
  simp [kvI]
 rw [e]
 rfl
theorem put_i (hv:Hv) (h n:Int):putK (hv.map kvI) (Sum.inl h) (.int n)=(putI hv h n).map kvI:=by
 unfold putK putI
 have e:((hv.map kvI).any fun kv=>decide (kv.1=Sum.inl h))=decide (h ∈ hv.map (·.1)):=by
  rw [List.any_map,Bool.eq_iff_iff,List.any_eq_true,decide_eq_true_iff,List.mem_map]
  constructor
  ·rintro ⟨m,hm,h⟩
   exact ⟨m,hm,by simpa [kvI] using h⟩
  ·rintro ⟨m,hm,h⟩
   exact ⟨m,hm,by simp [kvI,h]⟩
 rw [e]
 by_cases c:h ∈ hv.map (·.1)
 ·rw [if_pos (by simpa using c),if_pos c,List.map_map,List.map_map]
  refine List.map_congr_left fun m _=>?_
  show (if (kvI m).1=Sum.inl h then ((kvI m).1,V.int n) else kvI m)=kvI (if m.1=h then (h,n) else m)
  by_cases c:m.1=h
  ·rw [if_pos c,if_pos (by simp [kvI,c])];simp [kvI,c]
  ·rw [if_neg c,if_neg (by simp [kvI,c])]
 ·rw [if_neg (by simpa using c),if_neg c,List.map_append]
  rfl
theorem lk_none {hv:Hv} {h:Int}:lk hv h=none↔h ∉ hv.map (·.1):=by
 unfold lk
 rw [Option.map_eq_none_iff,List.find?_eq_none]
 constructor
 ·intro a b
  obtain ⟨p,hp,e⟩:=List.mem_map.mp b
  exact a p hp (by simpa using e)
 ·intro a p hp e
  exact a (List.mem_map.mpr ⟨p,hp,by simpa using e⟩)
theorem lk_put (hv:Hv) (h n x:Int):lk (putI hv h n) x=if x=h then some n else lk hv x:=by
 unfold putI
 by_cases c:h ∈ hv.map (·.1)
 ·rw [if_pos c]
  by_cases e:x=h
  ·subst e
   rw [if_pos rfl]
   have key:∀ l:Hv,x ∈ l.map (·.1)→lk (l.map fun p=>if p.1=x then (x,n) else p) x=some n:=by
    intro l
    induction l with
    | nil=>intro z;cases z
    | cons p l ih =>
     intro z
     unfold lk
     rw [List.map_cons,List.find?_cons]
     by_cases d:p.1=x
     ·simp [d]
     ·simp only [d,if_false,decide_false]
      have:=ih ((List.mem_cons.mp z).resolve_left fun e=>d e.symm)
      unfold lk at this
      exact this
   exact key hv c
  ·rw [if_neg e]
   unfold lk
   congr 1
   clear c
   induction hv with
   | nil=>rfl
   | cons p l ih =>
    rw [List.map_cons,List.find?_cons,List.find?_cons,ih]
    by_cases d:p.1=h
    ·have h1:¬ h=x:=fun z=>e z.symm
     simp [d,h1]
    ·simp [d]
 ·rw [if_neg c]
  unfold lk
  rw [List.find?_append]
  by_cases e:x=h
  ·subst e
   have:hv.find? (fun p=>decide (p.1=x))=none:=by
    have:=lk_none.mpr c
    unfold lk at this
    simpa using this
   rw [this]
   simp
  ·have:¬ h=x:=fun z=>e z.symm
   simp [e,this]
theorem put_keys (hv:Hv) (h n:Int):(putI hv h n).map (·.1)=if h ∈ hv.map (·.1) then hv.map (·.1) else hv.map (·.1) ++ [h]:=by
 unfold putI
 by_cases c:h ∈ hv.map (·.1)
 ·rw [if_pos c,if_pos c,List.map_map]
  refine List.map_congr_left fun m _=>?_
  show (if m.1=h then (h,n) else m).1=m.1
  split
  ·rename_i c;exact c.symm
  ·rfl
 ·rw [if_neg c,if_neg c,List.map_append]
  rfl
theorem put_nodup {hv:Hv} (nd:(hv.map (·.1)).Nodup) (h n:Int):((putI hv h n).map (·.1)).Nodup:=by
 rw [put_keys]
 split
 ·exact nd
 ·rename_i c
  refine List.nodup_append.mpr ⟨nd,by simp,fun a ha b hb=>?_⟩
  rw [List.mem_singleton.mp hb]
  rintro rfl
  exact c ha
theorem put_len (hv:Hv) (h n:Int):(putI hv h n).length=if h ∈ hv.map (·.1) then hv.length else hv.length+1:=by
 have:=congrArg List.length (put_keys hv h n)
 rw [List.length_map] at this
 rw [this]
 split
 ·rw [List.length_map]
 ·rw [List.length_append,List.length_map];rfl
structure Ht (L:List (Tk × Int)) (goal:Int) (hv:Hv):Prop where
 nd:(hv.map (·.1)).Nodup
 g:lk hv goal=some 0
 pos:∀ x n,lk hv x=some n→0≤n
 par:∀ x n,lk hv x=some n→x≠goal→∃ e l m,([x,e],l) ∈ L∧lk hv e=some m∧m+l≤n
 bd:∀ x n,lk hv x=some n→n≤1000 * ((hv.length:Int) - 1)
theorem Ht.start (L:List (Tk × Int)) (goal:Int):Ht L goal [(goal,0)]:=by
 have one:∀ x n,lk [(goal,0)] x=some n→x=goal∧n=0:=fun x n h=>by
  unfold lk at h
  by_cases c:goal=x
  ·subst c;simp at h;exact ⟨rfl,h.symm⟩
  ·simp [c] at h
 refine ⟨by simp,by simp [lk],fun x n h=>?_,fun x n h ne=>absurd (one x n h).1 ne,fun x n h=>?_⟩
 ·rw [(one x n h).2];exact Int.le_refl _
 ·rw [(one x n h).2];show (0:Int)≤1000 * (((1:Nat):Int) - 1);decide
def Falls (hv:Hv) (b k:Int):Prop:=lk hv b=none∨∃ n,lk hv b=some n∧k < n
theorem Ht.put {L:List (Tk × Int)} {goal:Int} {hv:Hv} (h:Ht L goal hv) {b e l m:Int} (he:([b,e],l) ∈ L) (l1:1≤l) (l2:l≤1000) (hm:lk hv e=some m) (f:Falls hv b (m+l)):Ht L goal (putI hv b (m+l)):=by
 have m0:=h.pos _ _ hm
 have bg:goal≠b:=fun z=>by
  rcases f with f | ⟨n,f,f2⟩
  ·rw [← z,h.g] at f;cases f
  ·rw [← z,h.g] at f;cases f;omega
 have be:e≠b:=fun z=>by
  rcases f with f | ⟨n,f,f2⟩
  ·rw [← z,hm] at f;cases f
  ·rw [← z,hm] at f;cases f;omega
 have len:(hv.length:Int)≤(putI hv b (m+l)).length∧(lk hv b=none→((putI hv b (m+l)).length:Int)=hv.length+1):=by
  rw [put_len]
  constructor
  ·split <;> omega
  ·intro z
   rw [if_neg (lk_none.mp z)]
   omega
 refine ⟨put_nodup h.nd _ _,by rw [lk_put,if_neg bg];exact h.g,fun x n hx=>?_,fun x n hx ne=>?_,fun x n hx=>?_⟩
 ·rw [lk_put] at hx
  split at hx
  ·cases hx;omega
  ·exact h.pos _ _ hx
 ·rw [lk_put] at hx
  split at hx
  ·rename_i z
   cases hx
   rw [z]
   exact ⟨e,l,m,he,by rw [lk_put,if_neg be];exact hm,Int.le_refl _⟩
  ·obtain ⟨e',l',m',h1,h2,h3⟩:=h.par x n hx ne
   by_cases c:e'=b
   ·rcases f with f | ⟨n',f,f2⟩
    ·rw [c,f] at h2;cases h2
    ·rw [c,f] at h2
     cases h2
     exact ⟨e',l',m+l,h1,by rw [lk_put,if_pos c],by omega⟩
   ·exact ⟨e',l',m',h1,by rw [lk_put,if_neg c];exact h2,h3⟩
 ·rw [lk_put] at hx
  split at hx
  ·cases hx
   rcases f with f | ⟨n',f,f2⟩
   ·have:=h.bd _ _ hm
    have:=len.2 f
    omega
   ·have:=h.bd _ _ f
    omega
  ·have:=h.bd _ _ hx
   omega
theorem pigeonW:∀ (r fs:List Int),fs.Nodup→(∀ x ∈ fs,x ∈ r)→fs.length≤r.length
 | [],fs,_,h=>by
  cases fs with
  | nil=>exact Nat.le_refl _
  | cons a b=>exact absurd (h a List.mem_cons_self) List.not_mem_nil
 | a :: r,fs,nd,h=>by
  have ih:=pigeonW r (fs.erase a) (nd.erase a) fun x hx=>by
   have hx':=(nd.mem_erase_iff).mp hx
   exact (List.mem_cons.mp (h x hx'.2)).resolve_left hx'.1
  rw [List.length_cons]
  by_cases ha:a ∈ fs
  ·rw [List.length_erase_of_mem ha] at ih;omega
  ·rw [List.erase_of_not_mem ha] at ih;omega
theorem Ht.size {L:List (Tk × Int)} {goal:Int} {hv:Hv} (h:Ht L goal hv):hv.length≤L.length+1:=by
 have:=pigeonW (goal :: L.map fun e=>e.1.headD 0) (hv.map (·.1)) h.nd fun x hx=>by
  cases e:lk hv x with
  | none=>exact absurd hx (lk_none.mp e)
  | some n =>
   by_cases c:x=goal
   ·rw [c];exact List.mem_cons_self
   ·obtain ⟨e',l',m',h1,_⟩:=h.par x n e c
    exact List.mem_cons_of_mem _ (List.mem_map.mpr ⟨_,h1,rfl⟩)
 rw [List.length_map,List.length_cons,List.length_map] at this
 exact this
theorem sum_le {α:Type} (f g:α→Nat):∀ l:List α,(∀ x ∈ l,f x≤g x)→(l.map f).sum≤(l.map g).sum
 | [],_=>Nat.le_refl _
 | x :: l,h=>by
  have:=sum_le f g l fun y hy=>h y (List.mem_cons_of_mem _ hy)
  have:=h x List.mem_cons_self
  simp only [List.map_cons,List.sum_cons]
  omega
theorem sum_lt {α:Type} (f g:α→Nat):∀ l:List α,(∀ x ∈ l,f x≤g x)→(∃ x ∈ l,f x < g x)→(l.map f).sum < (l.map g).sum
 | [],_,⟨_,h,_⟩=>absurd h List.not_mem_nil
 | x :: l,h,⟨y,hy,hl⟩=>by
  have h0:=h x List.mem_cons_self
  have h1:∀ x ∈ l,f x≤g x:=fun y hy=>h y (List.mem_cons_of_mem _ hy)
  simp only [List.map_cons,List.sum_cons]
  rcases List.mem_cons.mp hy with rfl | hy
  ·have:=sum_le f g l h1
   omega
  ·have:=sum_lt f g l h1 ⟨y,hy,hl⟩
   omega
def mu (L:List (Tk × Int)) (hv:Hv):Nat:=(L.map fun e=>((lk hv (e.1.headD 0)).getD (1000 * L.length+1)).toNat).sum
theorem Ht.falls {L:List (Tk × Int)} {goal:Int} {hv:Hv} (h:Ht L goal hv) {b e l m:Int} (he:([b,e],l) ∈ L) (l1:1≤l) (l2:l≤1000) (hm:lk hv e=some m) (f:Falls hv b (m+l)):mu L (putI hv b (m+l)) < mu L hv:=by
 have h':=h.put he l1 l2 hm f
 have m0:=h.pos _ _ hm
 have key:(m+l).toNat < ((lk hv b).getD (1000 * L.length+1)).toNat:=by
  rcases f with f | ⟨n,f,f2⟩
  ·have:=h'.bd b (m+l) (by rw [lk_put,if_pos rfl])
   have:=h'.size
   rw [f]
   show (m+l).toNat < (1000 * (L.length:Int)+1).toNat
   omega
  ·rw [f]
   show (m+l).toNat < n.toNat
   omega
 unfold mu
 refine sum_lt _ _ L (fun x _=>?_) ⟨_,he,?_⟩
 ·rw [lk_put]
  split
  ·rename_i z
   rw [z]
   exact Nat.le_of_lt key
  ·exact Nat.le_refl _
 ·rw [lk_put]
  show ((if b=b then some (m+l) else lk hv b).getD _).toNat < ((lk hv b).getD _).toNat
  rw [if_pos rfl]
  exact key
def ClsE (hv:Hv) (e:Tk × Int):Prop:=∀ b x,e.1=[b,x]→∀ m,lk hv x=some m→∃ n,lk hv b=some n∧n≤m+e.2
end
end K52
namespace K52
open PySem L2 PyProof.Rows
section
variable {P:Program} {w:World} {K:PySem.W.Frag} {mg:Str→Option Value} {base:Heap} {t:Ad}
theorem pe_disp1 {X:Cx} {pos:Pos} {k1 v1:Expr} {t1 u1:TE} (h1:PE X k1 t1) (g1:PE X v1 u1):PE X (.Dict [some k1] [v1] pos) (tDisp [(t1,u1)]) :=
 pe_disp (pps_cons h1 g1 pps_nil) rfl rfl (List.cons_ne_nil _ _) (show 1≤15 by decide)
def Sx (td:Addr) (H H':Hp):Prop:=∀ b o,b≠td→H b=some o→H' b=some o
def EdsOk (L:List (Tk × Int)):Prop:=(L.map (·.1)).Nodup∧∀ e ∈ L,∃ a b,e.1=[a,b]∧1≤e.2∧e.2≤1000
def sp_heights_to (K:PySem.W.Frag):Sp:=fun vs H Q _=>∃ (td:Addr) (goal:Int) (L:List (Tk × Int)) (xs:TX),vs=[.ref td,.int goal]∧LnAt K H td L xs∧EdsOk L∧L.length≤1000∧∀ (hd:Addr) (H':Hp) (hv:Hv),Same H H'→H hd=none→H' hd=some (.dK (hv.map kvI))→Ht L goal hv→(∀ e ∈ L,ClsE hv e)→Q (.ref hd) H'
theorem sc_heights_to:FnScope ["lengths","goal","heights","falling","begin","end","height"] ["lengths","goal"] (defScope s_heights_to):=⟨rfl,rfl,rfl,by decide +kernel,rfl,by decide +kernel,by decide +kernel⟩
set_option maxHeartbeats 2000000 in
theorem ok_heights_to (F:Site K mg "heights_to" s_heights_to) (T:Txt K mg t):Def P w K mg base 1 "heights_to" ["lengths","goal"] (sp_heights_to K):=by
 refine F.def sc_heights_to (fun _ _ _ _ _ _ us hl=>match us,hl with | [_,_],_=>rfl) (fun vs H Q E h=>?_) (fun f cdv A outer s H vs Q E hr h=>?_)
 ·obtain ⟨td,goal,L,xs,rfl,_⟩:=h
  rfl
 ·obtain ⟨td,goal,L,xs,rfl,hL,okL,ll,q⟩:=h
  refine ⟨_,pss_cons (ps_set (i:=2) sc_heights_to.nd rfl (Or.inl rfl) (pe_disp1 (pv 1) pe_int))
   (pss_cons (ps_set (i:=3) sc_heights_to.nd rfl (Or.inl rfl) pe_bl)
   (pss_cons (PS.nox (ps_while PassesOwn.never (pt_val (pv 3))
    (pss_cons (ps_set (i:=3) sc_heights_to.nd rfl (Or.inl rfl) pe_bl)
    (pss_one (ps_thawTk (ps_for PassesOwn.never rfl (pi_dictTk (pv 0)) (pg_twoK K (i:=4) (j:=5) rfl sc_heights_to.nd rfl rfl (Or.inl rfl) (Or.inl rfl))
     (pss_one (ps_if (pt_cmp (pc_din (hu_of hr) (pv 5) (pv 2)) (by rfl))
      (pss_cons (ps_set (i:=6) sc_heights_to.nd rfl (Or.inl rfl) (pe_op op_add (pe_dget (hu_of hr) (pv 2) (pv 5) (fun _ _=>rfl)) (pe_tget K (hu16 hr) (pv 0) (pe_tup (pa_cons (pv 4) (pa_cons (pv 5) pa_nil))) (fun _ _=>rfl))))
      (pss_one (ps_if (PW.pt (pw_or (pt_cmp (pc_dnotin (hu_of hr) (pv 4) (pv 2)) (by rfl)) (pw_or1 (pt_cmpR op_lt (pv 6) (pe_dget (hu_of hr) (pv 2) (pv 4) (fun _ _=>rfl)) (nomark _)))))
       (pss_cons (ps_dput (hu_of hr) (pv 2) (pv 4) (pv 6) (by rfl))
       (pss_one (ps_set (i:=3) sc_heights_to.nd rfl (Or.inl rfl) pe_bl)))
       (pss_nil))))
      (pss_nil)))))))))
   (pss_one (ps_ret (pv 2))))),?_⟩
  have hsz:(20000:Nat)≤sizeLine:=by decide
  have ndt:∀ {hd:Addr},H hd=none→hd≠td:=fun z e=>by rw [e,hL.d] at z;cases z
  have xll:xs.length=L.length:=by
   have:=congrArg List.length hL.m
   rwa [List.length_map,List.length_map] at this
  refine fun hd hhd=>⟨_,rfl,upd_same,[(Sum.inl goal,.int 0)],rfl,by show 1≤15;decide,?_⟩
  have s1:Same H (upd (upd H hd (.dK [])) hd (.dK (mergeK [] [(Sum.inl goal,V.int 0)]))):=((Same.refl H).new hhd).put hhd
  have e1:(upd (upd H hd (.dK [])) hd (.dK (mergeK [] [(Sum.inl goal,V.int 0)]))) hd=some (.dK ([(goal,(0:Int))].map kvI)):=upd_same
  generalize upd (upd H hd (.dK [])) hd (.dK (mergeK [] [(Sum.inl goal,V.int 0)]))=H1 at s1 e1 ⊢
  have nht:=ndt hhd
  let W:Nat→_→_→Prop:=fun m σ H'=>∃ (hv:Hv) (f:Bool) (v4 v5 v6:Option V),σ=[some (.ref td),some (.int goal),some (.ref hd),some (.bl f),v4,v5,v6]∧Same H H'∧H' hd=some (.dK (hv.map kvI))∧Ht L goal hv∧((f=true∧m=mu L hv+1)∨(f=false∧m=0∧∀ e ∈ L,ClsE hv e))
  refine ⟨W,⟨_,[(goal,0)],true,none,none,none,rfl,s1,e1,Ht.start L goal,.inl ⟨rfl,rfl⟩⟩,?_⟩
  rintro m σ H2 ⟨hv,f,v4,v5,v6,rfl,s2,e2,h2,hf⟩
  refine ⟨_,rfl,f,rfl,?_⟩
  rcases hf.symm with ⟨rfl,rfl,cl⟩ | ⟨rfl,rfl⟩
  ·refine iteF ?_
   exact ⟨_,rfl,q hd H2 hv s2 hhd e2 h2 cl⟩
  refine iteT ⟨fun σ' H'=>∃ m',m' < mu L hv+1∧W m' σ' H',fun σ' H' z=>z,?_⟩
  have l2':=hL.same s2
  refine ⟨_,rfl,td,xs,rfl,l2'.d,fun u ou=>?_⟩
  have kz:=kept_of (o:=u) (NTu.dkt l2'.d)
  have e3:(upd H2 td u) hd=some (.dK (hv.map kvI)):=by rw [upd_ne nht];exact e2
  have d3:(upd H2 td u) td=some u:=upd_same
  have k3:∀ p ∈ xs,IsTk K (upd H2 td u) p.2.1 p.1:=fun p hp=>(l2'.k p hp).kept kz
  have x3:Sx td H (upd H2 td u):=fun b o nb e=>by rw [upd_ne nb];exact s2 b o e
  generalize upd H2 td u=H3 at e3 d3 k3 x3 ⊢
  let J:Nat→_→_→Prop:=fun i σ H'=>∃ (hv':Hv) (f:Bool) (v4 v5 v6:Option V),σ=[some (.ref td),some (.int goal),some (.ref hd),some (.bl f),v4,v5,v6]∧Sx td H H'∧H' td=some u∧H' hd=some (.dK (hv'.map kvI))∧(∀ p ∈ xs,IsTk K H' p.2.1 p.1)∧Ht L goal hv'∧((f=true∧mu L hv' < mu L hv)∨(f=false∧hv'=hv∧∀ e ∈ L.take i,ClsE hv e))
  refine for_dictTk (d:=td) (u:=u) (xs:=xs) J ⟨hv,false,_,_,_,rfl,x3,d3,e3,k3,h2,.inr ⟨rfl,rfl,fun e he=>absurd he (by simp)⟩⟩ (fun i σ H' _ ⟨_,_,_,_,_,_,_,e,_⟩=>e) ?_ ?_
  ·rintro i p σ H4 hi ⟨hv',f,v4,v5,v6,rfl,x4,d4,e4,k4,h4,hf⟩
   obtain ⟨ed,ee,ep1,ep2⟩:∃ e,L[i]?=some e∧p.1=e.1∧p.2.2=.int e.2:=by
    have:(xs.map fun p=>(p.1,p.2.2))[i]?=some (p.1,p.2.2):=by rw [List.getElem?_map,hi];rfl
    rw [hL.m,List.getElem?_map] at this
    cases ee:L[i]? with
    | none=>rw [ee] at this;cases this
    | some e =>
     rw [ee] at this
     obtain ⟨z1,z2⟩:=Prod.mk.inj (Option.some.inj this)
     exact ⟨e,rfl,z1.symm,z2.symm⟩
   have hed:=List.mem_of_getElem? ee
   obtain ⟨b,x,hk,l1,l2⟩:=okL.2 ed hed
   obtain ⟨kk,l⟩:=ed
   obtain rfl:kk=[b,x]:=hk
   have pk:=k4 p (List.mem_of_getElem? hi)
   rw [ep1] at pk
   rcases pk.ex.symm with ⟨_,_,_,_,_,z,_⟩ | ⟨_,_,z,g1⟩
   ·simp at z
   simp only [List.cons.injEq,and_true] at z
   obtain ⟨rfl,rfl⟩:=z
   refine ⟨p.2.1,_,rfl,g1,rfl,_,_,rfl,_,_,rfl,rfl,?_⟩
   have hvl:=h4.size
   have stay:∀ {v6:Option V} {H5:Hp},Sx td H H5→H5 td=some u→H5 hd=some (.dK (hv'.map kvI))→(∀ p ∈ xs,IsTk K H5 p.2.1 p.1)→ClsE hv' ([b,x],l)→J (i+1) [some (.ref td),some (.int goal),some (.ref hd),some (.bl f),some (.int b),some (.int x),v6] H5:=fun x5 d5 e5 k5 cl=>by
    refine ⟨hv',f,_,_,_,rfl,x5,d5,e5,k5,h4,?_⟩
    rcases hf with hf | ⟨f1,f2,f3⟩
    ·exact .inl hf
    ·refine .inr ⟨f1,f2,fun e he=>?_⟩
     rw [take_succ ee] at he
     rcases List.mem_append.mp he with he | he
     ·exact f3 e he
     ·rw [List.mem_singleton.mp he,← f2];exact cl
   refine ⟨_,rfl,_,rfl,hd,_,rfl,DGet.k (k:=Sum.inl x) e4,?_⟩
   rw [val_i]
   cases em:lk hv' x with
   | none =>
    refine ⟨false,rfl,iteF ?_⟩
    refine stay x4 d4 e4 k4 fun b' x' z m' hm'=>?_
    simp only [List.cons.injEq,and_true] at z
    obtain ⟨rfl,rfl⟩:=z
    rw [em] at hm'
    cases hm'
   | some m =>
    refine ⟨true,rfl,iteT ?_⟩
    have gv:DGet H4 hd (.int x) (some (.int m)):=by
     have:=DGet.k (k:=Sum.inl x) e4
     rw [val_i,em] at this
     exact this
    refine ⟨_,rfl,_,rfl,hd,.int m,rfl,gv,_,rfl,_,rfl,_,rfl,by show 2≤sizeLine;decide,fun kt hkt=>?_⟩
    have s5:=(Same.refl H4).new (o:=.tup [.int b,.int x]) hkt
    have tk:IsTk K (upd H4 kt (.tup [.int b,.int x])) kt [b,x]:=⟨.inl ⟨_,_,rfl,SqT.of upd_same⟩⟩
    generalize upd H4 kt (.tup [.int b,.int x])=H5 at s5 tk ⊢
    have k5:∀ p ∈ xs,IsTk K H5 p.2.1 p.1:=fun p hp=>(k4 p hp).same s5
    have e5:=s5 _ _ e4
    have d5:=s5 _ _ d4
    have x5:Sx td H H5:=fun b o nb e=>s5 b o (x4 b o nb e)
    have va:valT xs [b,x]=some (.int l):=by
     rw [val_tx hL.m,(look_iff okL.1).mpr hed]
     rfl
    refine ⟨td,kt,xs,_,_,rfl,rfl,⟨.inr ⟨u,d5,ou⟩,k5⟩,tk,va,_,_,rfl,rfl,?_⟩
    have fall:Falls hv' b (m+l)→J (i+1) [some (.ref td),some (.int goal),some (.ref hd),some (.bl true),some (.int b),some (.int x),some (.int (m+l))] (upd H5 hd (.dK (putK (hv'.map kvI) (Sum.inl b) (.int (m+l))))):=fun fl=>by
     have kp:=kept_of (o:=.dK (putK (hv'.map kvI) (Sum.inl b) (.int (m+l)))) (NTu.dk e5)
     refine ⟨putI hv' b (m+l),true,_,_,_,rfl,fun b o nb e=>?_,by rw [upd_ne (Ne.symm nht)];exact d5,by rw [upd_same,put_i],fun p hp=>(k5 p hp).kept kp,h4.put hed l1 l2 em fl,.inl ⟨rfl,?_⟩⟩
     ·have:b≠hd:=fun z=>by rw [z,hhd] at e;cases e
      rw [upd_ne this]
      exact x5 b o nb e
     ·have:=h4.falls hed l1 l2 em fl
      rcases hf with ⟨_,hf⟩ | ⟨_,rfl,_⟩
      ·omega
      ·exact this
    refine ⟨_,rfl,_,rfl,hd,_,rfl,DGet.k (k:=Sum.inl b) e5,?_⟩
    rw [val_i]
    cases eb:lk hv' b with
    | none =>
     refine ⟨true,rfl,iteT (iteT ?_)⟩
     refine ⟨_,rfl,_,rfl,_,rfl,hd,_,rfl,.inl ⟨_,Sum.inl b,e5,rfl,by rw [List.length_map];omega,rfl⟩,?_⟩
     exact fall (.inl eb)
    | some n =>
     have gv2:DGet H5 hd (.int b) (some (.int n)):=by
      have:=DGet.k (k:=Sum.inl b) e5
      rw [val_i,eb] at this
      exact this
     refine ⟨false,rfl,iteF ?_⟩
     refine ⟨_,rfl,_,rfl,_,rfl,hd,.int n,rfl,gv2,_,_,rfl,rfl,_,rfl,?_⟩
     by_cases c:m+l < n
     ·refine iteY c ?_
      refine ⟨_,rfl,_,rfl,_,rfl,hd,_,rfl,.inl ⟨_,Sum.inl b,e5,rfl,by rw [List.length_map];omega,rfl⟩,?_⟩
      exact fall (.inr ⟨n,eb,c⟩)
     ·refine iteN c ?_
      refine stay x5 d5 e5 k5 fun b' x' z m' hm'=>?_
      simp only [List.cons.injEq,and_true] at z
      obtain ⟨rfl,rfl⟩:=z
      rw [em] at hm'
      cases hm'
      exact ⟨n,eb,by show n≤m+l;omega⟩
  ·rintro σ H4 ⟨hv',f,v4,v5,v6,rfl,x4,d4,e4,k4,h4,hf⟩
   refine ⟨td,xs,u,ou,d4,?_⟩
   have s5:Same H (upd H4 td (DKt td xs)):=fun b o e=>by
    by_cases nb:b=td
    ·rw [nb,upd_same,← hL.d,← nb,e]
    ·rw [upd_ne nb];exact x4 b o nb e
   have e5:(upd H4 td (DKt td xs)) hd=some (.dK (hv'.map kvI)):=by rw [upd_ne nht];exact e4
   rcases hf with ⟨rfl,hf⟩ | ⟨rfl,rfl,cl⟩
   ·exact ⟨mu L hv'+1,by omega,hv',true,_,_,_,rfl,s5,e5,h4,.inl ⟨rfl,rfl⟩⟩
   ·rw [xll,List.take_length] at cl
    exact ⟨0,by omega,hv',false,_,_,_,rfl,s5,e5,h4,.inr ⟨rfl,rfl,cl⟩⟩
end
end K52
namespace K52
open PySem L2 PyProof.Rows
section
variable {P:Program} {w:World} {K:PySem.W.Frag} {mg:Str→Option Value} {base:Heap} {t:Ad}
def cand (hv:Hv) (x:Int) (e:Tk × Int):Option Int:=if e.1.headD 0=x∧(lk hv (e.1.getD 1 0)).map (·+e.2)=lk hv x then some (e.1.getD 1 0) else none
structure Fin (L:List (Tk × Int)) (goal:Int) (hv:Hv):Prop where
 h:Ht L goal hv
 c:∀ e ∈ L,ClsE hv e
 ok:EdsOk L
 sy:∀ a b l,([a,b],l) ∈ L→([b,a],l) ∈ L
theorem Fin.step {L:List (Tk × Int)} {goal:Int} {hv:Hv} (f:Fin L goal hv) {x n:Int} (hx:lk hv x=some n) (ne:x≠goal):∃ e l m,([x,e],l) ∈ L∧lk hv e=some m∧m+l=n:=by
 obtain ⟨e,l,m,h1,h2,h3⟩:=f.h.par x n hx ne
 obtain ⟨n',h4,h5⟩:=f.c _ h1 x e rfl m h2
 rw [hx] at h4
 cases h4
 exact ⟨e,l,m,h1,h2,by show m+l=n;have:n≤m+l:=h5;omega⟩
theorem Fin.near {L:List (Tk × Int)} {goal:Int} {hv:Hv} (f:Fin L goal hv) {x n e l:Int} (hx:lk hv x=some n) (he:([x,e],l) ∈ L):∃ m,lk hv e=some m:=by
 obtain ⟨m,h4,h5⟩:=f.c _ (f.sy _ _ _ he) e x rfl n hx
 exact ⟨m,h4⟩
def IsNxt (L:List (Tk × Int)) (hv:Hv) (x e:Int):Prop:=(∃ l m,([x,e],l) ∈ L∧lk hv e=some m∧lk hv x=some (m+l))∧∀ e' l' m',([x,e'],l') ∈ L→lk hv e'=some m'→lk hv x=some (m'+l')→e≤e'
def sp_next_house (K:PySem.W.Frag):Sp:=fun vs H Q _=>∃ (td hd:Addr) (x n goal:Int) (L:List (Tk × Int)) (xs:TX) (hv:Hv),vs=[.ref td,.ref hd,.int x]∧LnAt K H td L xs∧H hd=some (.dK (hv.map kvI))∧Fin L goal hv∧L.length≤1000∧lk hv x=some n∧x≠goal∧∀ (e:Int) (H':Hp),Same H H'→IsNxt L hv x e→Q (.int e) H'
theorem sc_next_house:FnScope ["lengths","heights","house"] ["lengths","heights","house"] (defScope s_next_house):=⟨rfl,rfl,rfl,by decide +kernel,rfl,by decide +kernel,by decide +kernel⟩
set_option maxHeartbeats 2000000 in
theorem ok_next_house (F:Site K mg "next_house" s_next_house) (T:Txt K mg t):Def P w K mg base 1 "next_house" ["lengths","heights","house"] (sp_next_house K):=by
 refine F.def sc_next_house (fun _ _ _ _ _ _ us hl=>match us,hl with | [_,_,_],_=>rfl) (fun vs H Q E h=>?_) (fun f cdv A outer s H vs Q E hr h=>?_)
 ·obtain ⟨td,hd,x,n,goal,L,xs,hv,rfl,_⟩:=h
  rfl
 ·obtain ⟨td,hd,x,n,goal,L,xs,hv,rfl,hL,hH,fin,ll,hx,ne,q⟩:=h
  refine ⟨_,pss_one (ps_ret (pe_callB (call_minK K) (by rfl) T.n_min boot_min (pa_cons (pe_thawTk (pe_lc rfl (Nc:=["begin","end","house","heights","lengths"]) (ix:=[none,none,some 2,some 1,some 0]) (cscope (defScope s_next_house) ["lengths","heights","house"] rfl rfl (by decide +kernel)) (pi_dictTk (pv 0)) (fun C fp s H=>⟨(pg_twoK K (i:=0) (j:=1) rfl (show (["begin","end","house","heights","lengths"]:List Str).Nodup by decide +kernel) rfl rfl (Or.inl rfl) (Or.inl rfl)),(pts_one (PW.pt (pw_and (pt_cmpR op_eq (pv 0) (pv 2) (nomark _)) (pw_and1 (pt_cmpR op_eq (pe_op op_add (pe_dget (hu_of hr) (pv 3) (pv 1) (fun _ _=>rfl)) (pe_tget K (hu16 hr) (pv 4) (pe_tup (pa_cons (pv 0) (pa_cons (pv 1) pa_nil))) (fun _ _=>rfl))) (pe_dget (hu_of hr) (pv 3) (pv 2) (fun _ _=>rfl)) (nomark _)))))),(pv 1)⟩))) pa_nil))),?_⟩
  have hsz:(20000:Nat)≤sizeLine:=by decide
  have xll:xs.length=L.length:=by
   have:=congrArg List.length hL.m
   rwa [List.length_map,List.length_map] at this
  have nht:hd≠td:=ne_of hH hL.d (by intro z;cases z)
  refine ⟨_,rfl,td,xs,rfl,hL.d,fun u ou D hD=>?_⟩
  have kz:=kept_of (o:=u) (NTu.dkt hL.d)
  have d1:(upd H td u) td=some u:=upd_same
  have e1:(upd H td u) hd=some (.dK (hv.map kvI)):=by rw [upd_ne nht];exact hH
  have k1:∀ p ∈ xs,IsTk K (upd H td u) p.2.1 p.1:=fun p hp=>(hL.k p hp).kept kz
  have x1:∀ b o,b≠td→H b=some o→(upd H td u) b=some o:=fun b o nb e=>by rw [upd_ne nb];exact e
  generalize upd H td u=H1 at d1 e1 k1 x1 hD ⊢
  refine lc_dictTk (d:=td) (u:=u) (xs:=xs) (fun i σ H'=>∃ v0 v1:Option V,σ=[v0,v1,some (.int x),some (.ref hd),some (.ref td)]∧Same H1 H'∧H' D=some (.lst (((L.take i).filterMap (cand hv x)).map V.int))) ⟨none,none,rfl,(Same.refl _).new hD,upd_same⟩ (fun i σ H' _ ⟨_,_,_,s,_⟩=>s _ _ d1) ?_ ?_
  ·rintro i p σ H4 N hN hi ⟨v0,v1,rfl,s4,e4⟩
   obtain ⟨ed,ee,ep1,ep2⟩:∃ e,L[i]?=some e∧p.1=e.1∧p.2.2=.int e.2:=by
    have:(xs.map fun p=>(p.1,p.2.2))[i]?=some (p.1,p.2.2):=by rw [List.getElem?_map,hi];rfl
    rw [hL.m,List.getElem?_map] at this
    cases ee:L[i]? with
    | none=>rw [ee] at this;cases this
    | some e =>
     rw [ee] at this
     obtain ⟨z1,z2⟩:=Prod.mk.inj (Option.some.inj this)
     exact ⟨e,rfl,z1.symm,z2.symm⟩
   have hed:=List.mem_of_getElem? ee
   have il:i < L.length:=(List.getElem?_eq_some_iff.mp ee).1
   obtain ⟨b,y,hk,l1,l2⟩:=fin.ok.2 ed hed
   obtain ⟨kk,l⟩:=ed
   obtain rfl:kk=[b,y]:=hk
   have pk:=(k1 p (List.mem_of_getElem? hi)).same s4
   rw [ep1] at pk
   rcases pk.ex.symm with ⟨_,_,_,_,_,z,_⟩ | ⟨_,_,z,g1⟩
   ·simp at z
   simp only [List.cons.injEq,and_true] at z
   obtain ⟨rfl,rfl⟩:=z
   have tk1:(L.take (i+1)).filterMap (cand hv x)=(L.take i).filterMap (cand hv x) ++ (cand hv x ([b,y],l)).toList:=by
    rw [take_succ ee,List.filterMap_append]
    congr 1
   have cl:((L.take i).filterMap (cand hv x)).length≤1000:=by
    have:=List.length_filterMap_le (cand hv x) (L.take i)
    rw [List.length_take] at this
    omega
   have skip:∀ {H5:Hp},Same H4 H5→cand hv x ([b,y],l)=none→N [some (.int b),some (.int y),some (.int x),some (.ref hd),some (.ref td)] H5:=fun s5 c=>hN _ _ ⟨_,_,rfl,s4.trans s5,by rw [tk1,c];simpa using s5 _ _ e4⟩
   refine ⟨p.2.1,_,rfl,g1,rfl,_,_,rfl,_,_,rfl,rfl,?_⟩
   refine ⟨_,rfl,_,rfl,rfl,_,rfl,?_⟩
   by_cases c:b=x
   ·refine iteY (congrArg V.int c) ?_
    obtain ⟨m,hm⟩:=fin.near hx (show ([x,y],l) ∈ L by rw [← c];exact hed)
    have gv:DGet H4 hd (.int y) (some (.int m)):=by
     have:=DGet.k (k:=Sum.inl y) (s4 _ _ e1)
     rw [val_i,hm] at this
     exact this
    refine ⟨_,rfl,_,rfl,hd,.int m,rfl,gv,_,rfl,_,rfl,_,rfl,by show 2≤sizeLine;decide,fun kt hkt=>?_⟩
    have s5:=(Same.refl H4).new (o:=.tup [.int b,.int y]) hkt
    have tk:IsTk K (upd H4 kt (.tup [.int b,.int y])) kt [b,y]:=⟨.inl ⟨_,_,rfl,SqT.of upd_same⟩⟩
    generalize upd H4 kt (.tup [.int b,.int y])=H5 at s5 tk ⊢
    have S5:=s4.trans s5
    have va:valT xs [b,y]=some (.int l):=by
     rw [val_tx hL.m,(look_iff fin.ok.1).mpr hed]
     rfl
    have gv2:DGet H5 hd (.int x) (some (.int n)):=by
     have:=DGet.k (k:=Sum.inl x) (S5 _ _ e1)
     rw [val_i,hx] at this
     exact this
    refine ⟨td,kt,xs,_,_,rfl,rfl,⟨.inr ⟨u,S5 _ _ d1,ou⟩,fun p hp=>(k1 p hp).same S5⟩,tk,va,_,_,rfl,rfl,_,rfl,_,rfl,hd,.int n,rfl,gv2,rfl,_,rfl,?_⟩
    by_cases c2:m+l=n
    ·refine iteY (congrArg V.int c2) ?_
     have cd:cand hv x ([b,y],l)=some y:=by
      unfold cand
      exact if_pos ⟨c,by show (lk hv y).map (·+l)=lk hv x;rw [hm,hx];show some (m+l)=some n;rw [c2]⟩
     refine ⟨_,rfl,_,s5 _ _ e4,by rw [List.length_map];omega,hN _ _ ⟨_,_,rfl,S5.put hD,?_⟩⟩
     rw [upd_same,tk1,cd,List.map_append]
     rfl
    ·refine iteN (fun z=>c2 (V.int.inj z)) ?_
     refine skip s5 ?_
     unfold cand
     refine if_neg fun z=>c2 ?_
     have z2:(lk hv y).map (·+l)=lk hv x:=z.2
     rw [hm,hx] at z2
     exact Option.some.inj z2
   ·refine iteN (fun z=>c (V.int.inj z)) ?_
    refine skip (.refl _) ?_
    unfold cand
    exact if_neg fun z=>c z.1
  ·rintro σ H4 ⟨v0,v1,rfl,s4,e4⟩
   rw [xll,List.take_length] at e4
   refine ⟨td,xs,u,ou,s4 _ _ d1,?_⟩
   have s5:Same H (upd H4 td (DKt td xs)):=fun b o e=>by
    by_cases nb:b=td
    ·rw [nb,upd_same,← hL.d,← nb,e]
    ·rw [upd_ne nb];exact s4 b o (x1 b o nb e)
   have nD:D≠td:=fun z=>by rw [z,d1] at hD;cases hD
   have e5:(upd H4 td (DKt td xs)) D=some (.lst ((L.filterMap (cand hv x)).map V.int)):=by rw [upd_ne nD];exact e4
   have mem:∀ e,e ∈ L.filterMap (cand hv x)↔∃ l m,([x,e],l) ∈ L∧lk hv e=some m∧lk hv x=some (m+l):=fun e=>by
    rw [List.mem_filterMap]
    constructor
    ·rintro ⟨⟨kk,l⟩,h1,h2⟩
     obtain ⟨b,y,hk,_⟩:=fin.ok.2 _ h1
     obtain rfl:kk=[b,y]:=hk
     unfold cand at h2
     split at h2
     ·rename_i z
      cases h2
      obtain ⟨z1,z2⟩:=z
      have z1':b=x:=z1
      have z2':(lk hv y).map (·+l)=lk hv x:=z2
      rw [z1'] at h1
      cases hm:lk hv y with
      | none=>rw [hm,hx] at z2';cases z2'
      | some m=>rw [hm] at z2';exact ⟨l,m,h1,hm,z2'.symm⟩
     ·cases h2
    ·rintro ⟨l,m,h1,h2,h3⟩
     refine ⟨_,h1,?_⟩
     unfold cand
     exact if_pos ⟨rfl,by show (lk hv e).map (·+l)=lk hv x;rw [h2,h3];rfl⟩
   refine ⟨D,_,rfl,SqL.of e5,fun z=>?_,fun M hM hle=>q M _ s5 ⟨(mem M).mp hM,fun e' l' m' h1 h2 h3=>hle e' ((mem e').mpr ⟨l',m',h1,h2,h3⟩)⟩⟩
   obtain ⟨e,l,m,h1,h2,h3⟩:=fin.step hx ne
   have:=(mem e).mpr ⟨l,m,h1,h2,by rw [hx,h3]⟩
   rw [z] at this
   cases this
end
end K52
namespace K52
open PySem L2 PyProof.Rows
section
variable {P:Program} {w:World} {K:PySem.W.Frag} {mg:Str→Option Value} {base:Heap} {t:Ad}
inductive Gr (L:List (Tk × Int)) (hv:Hv) (goal:Int):Int→List Int→Prop
 | done:Gr L hv goal goal [goal]
 | step {x e:Int} {ws:List Int}:x≠goal→IsNxt L hv x e→Gr L hv goal e ws→Gr L hv goal x (x :: ws)
def sp_least_way (K:PySem.W.Frag):Sp:=fun vs H Q _=>∃ (td hd:Addr) (one n goal:Int) (L:List (Tk × Int)) (xs:TX) (hv:Hv),vs=[.ref td,.ref hd,.int one,.int goal]∧LnAt K H td L xs∧H hd=some (.dK (hv.map kvI))∧Fin L goal hv∧L.length≤200∧lk hv one=some n∧∀ (r:Addr) (ws:List Int) (H':Hp),Same H H'→SqT K H' r (ws.map V.int)→Gr L hv goal one ws→Q (.ref r) H'
theorem sc_least_way:FnScope ["lengths","heights","one","goal","way"] ["lengths","heights","one","goal"] (defScope s_least_way):=⟨rfl,rfl,rfl,by decide +kernel,rfl,by decide +kernel,by decide +kernel⟩
set_option maxHeartbeats 2000000 in
theorem ok_least_way (F:Site K mg "least_way" s_least_way) (T:Txt K mg t) (D_next_house:Def P w K mg base 1 "next_house" ["lengths","heights","house"] (sp_next_house K)):Def P w K mg base 2 "least_way" ["lengths","heights","one","goal"] (sp_least_way K):=by
 refine F.def sc_least_way (fun _ _ _ _ _ _ us hl=>match us,hl with | [_,_,_,_],_=>rfl) (fun vs H Q E h=>?_) (fun f cdv A outer s H vs Q E hr h=>?_)
 ·obtain ⟨td,hd,one,n,goal,L,xs,hv,rfl,_⟩:=h
  rfl
 ·obtain ⟨td,hd,one,n,goal,L,xs,hv,rfl,hL,hH,fin,ll,hx,q⟩:=h
  refine ⟨_,pss_cons (ps_set (i:=4) sc_least_way.nd rfl (Or.inl rfl) (pe_lst (pa_cons (pv 2) pa_nil)))
   (pss_cons (PS.nox (ps_while PassesOwn.never (pt_cmpR op_ne (pe_ix (ix_listK K) (pv 4) (pe_un un_neg pe_int) (fun _ _=>rfl)) (pv 3) (nomark _))
    (pss_one (ps_expr (pe_bmK K PySem.F.plainAttrs_list PySem.F.slot_list_append PySem.F.type_list_append mt_append (pv 4) (pa_cons (pe_def (D_next_house.mono (by decide)) hr passN (pa_cons (pv 0) (pa_cons (pv 1) (pa_cons (pe_ix (ix_listK K) (pv 4) (pe_un un_neg pe_int) (fun _ _=>rfl)) pa_nil)))) pa_nil))))))
   (pss_one (ps_ret (pe_callTy (call_tupleK K) (by rfl) T.n_tuple boot_tuple (pa_cons (pv 4) pa_nil))))),?_⟩
  have hsz:(300000:Nat)≤sizeLine:=by decide
  refine ⟨_,rfl,by show 1≤sizeLine;decide,fun wl hwl=>?_⟩
  have s1:=(Same.refl H).new (o:=.lst [.int one]) hwl
  have e1:(upd H wl (.lst [.int one])) wl=some (.lst [.int one]):=upd_same
  generalize upd H wl (.lst [.int one])=H1 at s1 e1 ⊢
  have n0:n≤200000:=by
   have:=fin.h.bd _ _ hx
   have:=fin.h.size
   omega
  let W:Nat→L2.St→Hp→Prop:=fun k σ H'=>∃ (pre:List Int) (x m:Int),σ=[some (.ref td),some (.ref hd),some (.int one),some (.int goal),some (.ref wl)]∧Same H H'∧H' wl=some (.lst ((pre ++ [x]).map V.int))∧lk hv x=some m∧k=m.toNat∧(pre.length:Int)+m≤n∧∀ t,Gr L hv goal x (x :: t)→Gr L hv goal one (pre ++ x :: t)
  refine ⟨W,⟨n.toNat,[],one,n,rfl,s1,e1,hx,rfl,by show ((0:Nat):Int)+n≤n;omega,fun t h=>h⟩,?_⟩
  rintro k σ H2 ⟨pre,x,m,rfl,s2,e2,hm,rfl,pl,gr⟩
  have m0:=fin.h.pos _ _ hm
  have la:atI ((pre ++ [x]).map V.int) (-1)=some (V.int x):=by rw [List.map_append];exact atI_last _ _
  refine ⟨_,rfl,1,rfl,wl,_,_,.int x,rfl,rfl,SqL.of e2,la,_,rfl,rfl,_,rfl,?_⟩
  by_cases c:x=goal
  ·refine iteNN (congrArg V.int c) ?_
   subst c
   refine ⟨_,rfl,wl,_,rfl,.inl ⟨SqL.of e2,fun r hr=>?_⟩⟩
   exact q r (pre ++ [x]) _ (s2.new hr) (SqT.of upd_same) (gr [] .done)
  ·refine iteNY (fun z=>c (V.int.inj z)) ?_
   refine ⟨fun σ' H'=>∃ m',m' < m.toNat∧W m' σ' H',fun σ' H' z=>z,?_⟩
   refine ⟨_,rfl,.inl ⟨rfl,_,SqL.of e2⟩,_,rfl,_,rfl,_,rfl,1,rfl,wl,_,_,.int x,rfl,rfl,SqL.of e2,la,td,hd,x,m,goal,L,xs,hv,rfl,hL.same s2,s2 _ _ hH,fin,by omega,hm,c,fun e H3 s3 nx=>?_⟩
   have e3:=s3 _ _ e2
   refine ⟨wl,_,_,rfl,rfl,e3,by rw [List.length_map,List.length_append];show pre.length+1 < _;omega,?_⟩
   obtain ⟨⟨l,m',h1,h2,h3⟩,_⟩:=id nx
   rw [hm] at h3
   cases h3
   obtain ⟨_,_,_,l1,_⟩:=fin.ok.2 _ h1
   have l1':1≤l:=l1
   have m1:=fin.h.pos _ _ h2
   refine ⟨m'.toNat,by omega,pre ++ [x],e,m',rfl,(s2.trans s3).put hwl,by rw [upd_same,List.map_append (l₁:=pre ++ [x])];rfl,h2,rfl,by rw [List.length_append];show ((pre.length+1:Nat):Int)+m'≤n;omega,fun t h=>?_⟩
   rw [List.append_assoc]
   exact gr (e :: t) (.step c nx h)
end
end K52
namespace K52
open PySem L2 PyProof.Rows
section
variable {P:Program} {w:World} {K:PySem.W.Frag} {mg:Str→Option Value} {base:Heap} {t:Ad}
def adr:V→Addr
 | .ref a=>a
 | _=>0
def WqOk (ms:Ms):Prop:=∀ m ∈ ms,∀ w ∈ m.2.near,1≤w.q∧w.q≤10
theorem eds_ok {ms:Ms} {ts:List T3} (hq:WqOk ms) (hm:∀ t,t ∈ ts↔Stands ms t) (td:Tsd ts):EdsOk (eds ts)∧∀ a b l,([a,b],l) ∈ eds ts→([b,a],l) ∈ eds ts:=by
 refine ⟨⟨eds_keys td,fun e he=>?_⟩,fun a b l h=>?_⟩
 ·obtain ⟨t,ht,z⟩:=eds_mem.mp he
  obtain ⟨_,m1,h1,m2,h2,w1,g1,w2,g2,_,_,_,_,_,_,a5⟩:=(hm t).mp ht
  have q1:=hq m1 h1 w1 g1
  have q2:=hq m2 h2 w2 g2
  have:1≤t.2.2∧t.2.2≤1000:=by omega
  rcases z with rfl | rfl
  ·exact ⟨_,_,rfl,this⟩
  ·exact ⟨_,_,rfl,this⟩
 ·obtain ⟨t,ht,z⟩:=eds_mem.mp h
  refine eds_mem.mpr ⟨t,ht,?_⟩
  rcases z with z | z
  ·cases z;exact .inr rfl
  ·cases z;exact .inl rfl
theorem Fin.of {ms:Ms} {ts:List T3} {goal:Int} {hv:Hv} (hq:WqOk ms) (hm:∀ t,t ∈ ts↔Stands ms t) (td:Tsd ts) (h:Ht (eds ts) goal hv) (c:∀ e ∈ eds ts,ClsE hv e):Fin (eds ts) goal hv:=⟨h,c,(eds_ok hq hm td).1,(eds_ok hq hm td).2⟩
theorem Ht.few {ms:Ms} {ts:List T3} {goal:Int} {hv:Hv} (h:Ht (eds ts) goal hv) (hm:∀ t,t ∈ ts↔Stands ms t):hv.length≤ms.length+1:=by
 have:=pigeonW (goal :: hs ms) (hv.map (·.1)) h.nd fun x hx=>by
  cases e:lk hv x with
  | none=>exact absurd hx (lk_none.mp e)
  | some n =>
   by_cases c:x=goal
   ·rw [c];exact List.mem_cons_self
   ·obtain ⟨e',l',m',h1,_⟩:=h.par x n e c
    obtain ⟨t,ht,z⟩:=eds_mem.mp h1
    obtain ⟨_,m1,g1,m2,g2,_,_,_,_,a1,a2,_⟩:=(hm t).mp ht
    refine List.mem_cons_of_mem _ ?_
    rcases z with z | z
    ·cases z;exact List.mem_map.mpr ⟨m1,g1,a1⟩
    ·cases z;exact List.mem_map.mpr ⟨m2,g2,a2⟩
 unfold hs at this
 rw [List.length_map,List.length_cons,List.length_map] at this
 exact this
theorem noL_p (h n:Int):noL (.tuple [.int h,.int n])=true:=by simp [noL,noLAll]
theorem p2_out {K:PySem.W.Frag} {H:Hp} {n:Nat} {v:V} {a b:Int} (h:IsDat K H (n+1) v (.tuple [.int a,.int b])):∃ p,v=.ref p∧SqT K H p [.int a,.int b]:=by
 obtain ⟨p,xs,rfl,h1,h2,h3⟩:=dTup h
 match xs,h2 with
 | [x,y],_ =>
  obtain rfl:=dInt (h3 0 x _ rfl rfl)
  obtain rfl:=dInt (h3 1 y _ rfl rfl)
  exact ⟨p,rfl,h1⟩
def pairsH (hv:Hv) (ns:List Int):Hv:=ns.map fun h=>(h,(lk hv h).getD 0)
def sp_way_of (K:PySem.W.Frag) (C:Addr):Sp:=fun vs H Q _=>∃ (x d:Addr) (one other:Int) (ms:Ms),vs=[.ref x,.int one,.int other]∧MpAt K C H x d ms∧ms.length≤12∧MsOk ms∧WqOk ms ∧
 (∀ (ts:List T3) (hv hv2:Hv) (ns:List Int) (r p:Addr) (H':Hp),Same H H'→(∀ t,t ∈ ts↔Stands ms t)→Tsd ts→Fin (eds ts) other hv→lk hv one=none→Fin (eds ts) one hv2→ns.Perm (hv2.map (·.1))→ns.Pairwise (·≤·)→SqT K H' r [.str "side",.ref p]→SqT K H' p (ns.map V.int)→Q (.ref r) H') ∧
 (∀ (ts:List T3) (hv:Hv) (n:Int) (ns ws:List Int) (r p hl:Addr) (H':Hp),Same H H'→(∀ t,t ∈ ts↔Stands ms t)→Tsd ts→Fin (eds ts) other hv→lk hv one=some n→Gr (eds ts) hv other one ws→ns.Perm (hv.map (·.1))→ns.Pairwise (·≤·)→SqT K H' r [.str "way",.ref p,.ref hl]→SqT K H' p (ws.map V.int)→H hl=none→PrsAt K H' hl (pairsH hv ns)→Q (.ref r) H')
theorem sc_way_of:FnScope ["chart","one","other","lengths","heights","way"] ["chart","one","other"] (defScope s_way_of):=⟨rfl,rfl,rfl,by decide +kernel,rfl,by decide +kernel,by decide +kernel⟩
set_option maxHeartbeats 2000000 in
theorem ok_way_of (F:Site K mg "way_of" s_way_of) (T:Txt K mg t) (D_lengths_of:Def P w K mg base 3 "lengths_of" ["chart"] (sp_lengths_of K t.Map)) (D_heights_to:Def P w K mg base 1 "heights_to" ["lengths","goal"] (sp_heights_to K)) (D_least_way:Def P w K mg base 2 "least_way" ["lengths","heights","one","goal"] (sp_least_way K)):Def P w K mg base 4 "way_of" ["chart","one","other"] (sp_way_of K t.Map):=by
 refine F.def sc_way_of (fun _ _ _ _ _ _ us hl=>match us,hl with | [_,_,_],_=>rfl) (fun vs H Q E h=>?_) (fun f cdv A outer s H vs Q E hr h=>?_)
 ·obtain ⟨x,d,one,other,ms,rfl,_⟩:=h
  rfl
 ·obtain ⟨x,d,one,other,ms,rfl,hM,ml,okm,hq,qs,qw⟩:=h
  refine ⟨_,pss_cons (ps_set (i:=3) sc_way_of.nd rfl (Or.inl rfl) (pe_def (D_lengths_of.mono (by decide)) hr passN (pa_cons (pv 0) pa_nil)))
   (pss_cons (ps_set (i:=4) sc_way_of.nd rfl (Or.inr rfl) (pe_def (D_heights_to.mono (by decide)) hr passN (pa_cons (pv 3) (pa_cons (pv 2) pa_nil))))
   (pss_cons (ps_if (pt_cmp (pc_dnotin (hu_of hr) (pv 1) (pv 4)) (by rfl))
    (pss_one (ps_ret (pe_tup (pa_cons pe_str (pa_cons (pe_callTy (call_tupleK K) (by rfl) T.n_tuple boot_tuple (pa_cons (pe_callB (call_sortedD (hu16 hr)) (by rfl) T.n_sorted boot_sorted (pa_cons (pe_def (D_heights_to.mono (by decide)) hr passN (pa_cons (pv 3) (pa_cons (pv 1) pa_nil))) pa_nil)) pa_nil)) pa_nil)))))
    (pss_nil))
   (pss_cons (ps_set (i:=5) sc_way_of.nd rfl (Or.inl rfl) (pe_def (D_least_way.mono (by decide)) hr passN (pa_cons (pv 3) (pa_cons (pv 4) (pa_cons (pv 1) (pa_cons (pv 2) pa_nil))))))
   (pss_one (ps_ret (pe_tup (pa_cons pe_str (pa_cons (pv 5) (pa_cons (pe_lc rfl (Nc:=["house","heights"]) (ix:=[none,some 4]) (cscope (defScope s_way_of) ["chart","one","other","lengths","heights","way"] rfl rfl (by decide +kernel)) (pi_listK K (pe_callB (call_sortedD (hu16 hr)) (by rfl) T.n_sorted boot_sorted (pa_cons (pv 4) pa_nil))) (fun C fp s H=>⟨(pg_name (i:=0) (show (["house","heights"]:List Str).Nodup by decide +kernel) rfl (Or.inl rfl)),pts_nil,(pe_tup (pa_cons (pv 0) (pa_cons (pe_dget (hu_of hr) (pv 1) (pv 0) (fun _ _=>rfl)) pa_nil)))⟩)) pa_nil))))))))),?_⟩
  have hsz:(20000:Nat)≤sizeLine:=by decide
  refine ⟨_,rfl,x,d,ms,rfl,hM,ml,okm,fun td H1 ts xs s1 ntd hL hm tsd tl=>?_⟩
  have el:(eds ts).length≤200:=by rw [eds_len];omega
  refine ⟨_,rfl,_,rfl,td,other,eds ts,xs,rfl,hL,(eds_ok hq hm tsd).1,by omega,fun hd H2 hv s2 nhd e2 ht cl=>?_⟩
  have fin:=Fin.of hq hm tsd ht cl
  have S2:=s1.trans s2
  refine ⟨_,rfl,_,rfl,hd,_,rfl,DGet.k (k:=Sum.inl one) e2,?_⟩
  rw [val_i]
  cases en:lk hv one with
  | none =>
   refine ⟨true,rfl,iteT ?_⟩
   refine ⟨_,rfl,_,rfl,td,one,eds ts,xs,rfl,hL.same s2,(eds_ok hq hm tsd).1,by omega,fun hd2 H3 hv2 s3 n3 e3 ht2 cl2=>?_⟩
   have f2:=ht2.few hm
   refine ⟨hd2,_,hv2.map (·.1),rfl,e3,by rw [List.map_map,List.map_map];rfl,by rw [List.length_map];omega,fun ys sl hp hsr hsl=>?_⟩
   have s4:=(Same.refl H3).new (o:=.lst (ys.map V.int)) hsl
   refine ⟨sl,_,rfl,.inl ⟨SqL.of upd_same,fun p hp'=>?_⟩⟩
   have s5:=s4.new (o:=.tup (ys.map V.int)) hp'
   refine ⟨by show 2≤sizeLine;decide,fun r hr=>?_⟩
   have s6:=s5.new (o:=.tup [.str "side",.ref p]) hr
   exact qs ts hv hv2 ys r p _ (S2.trans (s3.trans s6)) hm tsd fin en (Fin.of hq hm tsd ht2 cl2) hp hsr (SqT.of upd_same) (SqT.of (by rw [upd_ne (ne_of_none upd_same hr)];exact upd_same))
  | some n =>
   refine ⟨false,rfl,iteF ?_⟩
   refine ⟨_,rfl,_,rfl,_,rfl,_,rfl,td,hd,one,n,other,eds ts,xs,hv,rfl,hL.same s2,e2,fin,el,en,fun p ws H3 s3 hp gr=>?_⟩
   have f1:=ht.few hm
   have e3:=s3 _ _ e2
   refine ⟨_,rfl,_,rfl,hd,_,hv.map (·.1),rfl,e3,by rw [List.map_map,List.map_map];rfl,by rw [List.length_map];omega,fun ys sl hpy hsr hsl=>?_⟩
   have yl:ys.length≤20:=by rw [hpy.length_eq,List.length_map];omega
   have s4:=(Same.refl H3).new (o:=.lst (ys.map V.int)) hsl
   have e4:(upd H3 sl (.lst (ys.map V.int))) sl=some (.lst (ys.map V.int)):=upd_same
   generalize upd H3 sl (.lst (ys.map V.int))=H4 at s4 e4 ⊢
   refine ⟨sl,rfl,⟨_,SqL.of e4⟩,fun D hD=>?_⟩
   refine lc_list (K:=K) (a:=sl) (xs:=ys.map V.int) (fun i σ H'=>∃ (v:Option V) (zs:List (V × Int)),σ=[v,some (.ref hd)]∧Same H4 H'∧H' D=some (.lst (zs.map (·.1)))∧zs.map (·.2)=ys.take i∧∀ z ∈ zs,IsDat K H' 2 z.1 (.tuple [.int z.2,.int ((lk hv z.2).getD 0)])) ⟨none,[],rfl,(Same.refl _).new hD,upd_same,rfl,fun z hz=>absurd hz List.not_mem_nil⟩ (fun i σ H' _ ⟨_,_,_,s,_⟩=>SqL.of (s _ _ e4)) ?_ ?_
   ·rintro i y σ H5 N hN hi ⟨v,zs,rfl,s5,e5,m5,t5⟩
    obtain ⟨h,ho,rfl⟩:=item_of hi
    have hi2:i < ys.length:=(List.getElem?_eq_some_iff.mp ho).1
    have hk:=hpy.mem_iff.mp (List.mem_of_getElem? ho)
    obtain ⟨k,hk⟩:∃ k,lk hv h=some k:=by
     cases e:lk hv h with
     | none=>exact absurd hk (lk_none.mp e)
     | some k=>exact ⟨k,rfl⟩
    have gv:DGet H5 hd (.int h) (some (.int k)):=by
     have:=DGet.k (k:=Sum.inl h) ((s4.trans s5) _ _ e3)
     rw [val_i,hk] at this
     exact this
    have zl:zs.length≤20:=by
     have:=congrArg List.length m5
     rw [List.length_map,List.length_take] at this
     omega
    refine turn_do ?_
    refine ⟨_,rfl,_,rfl,_,rfl,hd,.int k,rfl,gv,by show 2≤sizeLine;decide,fun tp htp=>?_⟩
    have s6:=(Same.refl H5).new (o:=.tup [.int h,.int k]) htp
    have dn:IsDat K (upd H5 tp (.tup [.int h,.int k])) 2 (.ref tp) (.tuple [.int h,.int ((lk hv h).getD 0)]):=by
     rw [hk]
     refine .tup (SqT.of upd_same) rfl fun i v d e1 e2=>?_
     match i with
     | 0=>cases e1;cases e2;exact .int _
     | 1=>cases e1;cases e2;exact .int _
     | i+2=>simp at e1
    generalize upd H5 tp (.tup [.int h,.int k])=H6 at s6 dn
    have e6:=s6 _ _ e5
    have kp:=kept_of (o:=.lst (zs.map (·.1) ++ [V.ref tp])) (NTu.lst e6)
    refine ⟨_,e6,by rw [List.length_map];omega,hN _ _ ⟨_,zs ++ [(.ref tp,h)],rfl,(s5.trans s6).put hD,by rw [upd_same,List.map_append];rfl,by rw [List.map_append,m5,take_succ ho];rfl,fun z hz=>?_⟩⟩
    rcases List.mem_append.mp hz with h | h
    ·exact ((t5 z h).same s6).kept kp (noL_p _ _)
    ·rw [List.mem_singleton.mp h];exact dn.kept kp (noL_p _ _)
   ·rintro σ H5 ⟨v,zs,rfl,s5,e5,m5,t5⟩
    rw [List.length_map,List.take_length] at m5
    refine ⟨by show 3≤sizeLine;decide,fun r hr=>?_⟩
    have s6:=(Same.refl H5).new (o:=.tup [.str "way",.ref p,.ref D]) hr
    have S:=s4.trans (s5.trans s6)
    refine qw ts hv n ys ws r p D _ (S2.trans (s3.trans S)) hm tsd fin en gr hpy hsr (SqT.of upd_same) (S.tup hp) ((S2.trans (s3.trans s4)).free hD) ⟨zs.map fun z=>(adr z.1,z.2,(lk hv z.2).getD 0),?_,fun z hz=>?_,?_⟩
    ·rw [s6 _ _ e5,List.map_map]
     congr 2
     refine List.map_congr_left fun z hz=>?_
     obtain ⟨p,ep,_⟩:=p2_out (t5 z hz)
     show z.1=V.ref (adr z.1)
     rw [ep]
     rfl
    ·obtain ⟨y,hy,rfl⟩:=List.mem_map.mp hz
     obtain ⟨p,ep,g⟩:=p2_out ((t5 y hy).same s6)
     show SqT K _ (adr y.1) _
     rw [ep]
     exact g
    ·unfold pairsH
     rw [← m5,List.map_map,List.map_map]
     rfl
end
end K52
namespace K52
open PySem L2 PyProof.Rows
section
variable {P:Program} {w:World} {K:PySem.W.Frag} {mg:Str→Option Value} {base:Heap} {t:Ad}
inductive Wk (L:List (Tk × Int)) (goal:Int):Int→Int→Prop
 | nil:Wk L goal goal 0
 | cons {x e l s:Int}:([x,e],l) ∈ L→Wk L goal e s→Wk L goal x (l+s)
theorem Fin.le {L:List (Tk × Int)} {goal:Int} {hv:Hv} (f:Fin L goal hv) {x s:Int} (w:Wk L goal x s):∃ n,lk hv x=some n∧n≤s:=by
 induction w with
 | nil=>exact ⟨0,f.h.g,Int.le_refl _⟩
 | @cons x e l s h w ih =>
  obtain ⟨m,h1,h2⟩:=ih
  obtain ⟨n,h3,h4⟩:=f.c _ h x e rfl m h1
  have h5:n≤m+l:=h4
  exact ⟨n,h3,by omega⟩
theorem Fin.pos {L:List (Tk × Int)} {goal:Int} {hv:Hv} (f:Fin L goal hv) {x e l:Int} (h:([x,e],l) ∈ L):1≤l:=by
 obtain ⟨_,_,_,h1,_⟩:=f.ok.2 _ h
 exact h1
theorem Fin.wk {L:List (Tk × Int)} {goal:Int} {hv:Hv} (f:Fin L goal hv):∀ (k:Nat) {x n:Int},n.toNat≤k→lk hv x=some n→Wk L goal x n
 | k,x,n,hk,hx=>by
  by_cases c:x=goal
  ·subst c
   rw [f.h.g] at hx
   cases hx
   exact .nil
  ·obtain ⟨e,l,m,h1,h2,h3⟩:=f.step hx c
   have l1:=f.pos h1
   have m0:=f.h.pos _ _ h2
   match k,hk with
   | 0,hk=>omega
   | k+1,hk =>
    have:=f.wk k (x:=e) (n:=m) (by omega) h2
    rw [show n=l+m by omega]
    exact .cons h1 this
inductive Wl (L:List (Tk × Int)) (goal:Int):Int→List Int→Int→Prop
 | done:Wl L goal goal [goal] 0
 | step {x e l s:Int} {ws:List Int}:([x,e],l) ∈ L→Wl L goal e ws s→Wl L goal x (x :: ws) (l+s)
theorem Wl.wk {L:List (Tk × Int)} {goal x s:Int} {ws:List Int} (h:Wl L goal x ws s):Wk L goal x s:=by
 induction h with
 | done=>exact .nil
 | step h _ ih=>exact .cons h ih
theorem Wl.head {L:List (Tk × Int)} {goal x s:Int} {ws:List Int} (h:Wl L goal x ws s):∃ t,ws=x :: t:=by
 cases h with
 | done=>exact ⟨[],rfl⟩
 | step _ _=>exact ⟨_,rfl⟩
theorem Gr.wl {L:List (Tk × Int)} {hv:Hv} {goal x:Int} {ws:List Int} (f:Fin L goal hv) (h:Gr L hv goal x ws):∃ n,lk hv x=some n∧Wl L goal x ws n:=by
 induction h with
 | done=>exact ⟨0,f.h.g,.done⟩
 | @step x e ws ne nx g ih =>
  obtain ⟨n,h1,h2⟩:=ih
  obtain ⟨⟨l,m,h3,h4,h5⟩,_⟩:=nx
  rw [h1] at h4
  cases h4
  exact ⟨_,h5,by rw [show n+l=l+n by omega];exact .step h3 h2⟩
end
end K52
namespace K52
open PySem L2 PyProof.Rows
section
variable {P:Program} {w:World} {K:PySem.W.Frag} {mg:Str→Option Value} {base:Heap} {t:Ad}
theorem mulOk {a b:Int} (h:a.natAbs < 2 ^ 64):IntMulOk a b:=CMul.ok (.inl ⟨by omega,by omega⟩)
def sp__law_cell_at (K:PySem.W.Frag):Sp:=fun vs H Q _=>∃ (l:Addr) (ns:List Int) (k:Int),vs=[.ref l,.int k]∧SqL K H l (ns.map V.int)∧0≤k∧∀ c:Int,Q (.int c) H
theorem sc__law_cell_at:FnScope ["script","k"] ["script","k"] (defScope s__law_cell_at):=⟨rfl,rfl,rfl,by decide +kernel,rfl,by decide +kernel,by decide +kernel⟩
theorem ok__law_cell_at (F:Site K mg "_law_cell_at" s__law_cell_at) (T:Txt K mg t):Def P w K mg base 1 "_law_cell_at" ["script","k"] (sp__law_cell_at K):=by
 refine F.def sc__law_cell_at (fun _ _ _ _ _ _ us hl=>match us,hl with | [_,_],_=>rfl) (fun vs H Q E h=>?_) (fun f cdv A outer s H vs Q E hr h=>?_)
 ·obtain ⟨l,ns,k,rfl,_⟩:=h
  rfl
 ·obtain ⟨l,ns,k,rfl,hl,k0,q⟩:=h
  refine ⟨_,pss_cons (ps_if (pt_cmpR op_lt (pv 1) (pe_callB (call_lenK K) (by rfl) T.n_len boot_len (pa_cons (pv 0) pa_nil)) (nomark _))
    (pss_one (ps_ret (pe_ix (ix_listK K) (pv 0) (pv 1) (fun _ _=>rfl))))
    (pss_nil))
   (pss_one (ps_ret pe_int)),?_⟩
  refine ⟨_,rfl,_,rfl,l,_,rfl,.inl hl,_,_,rfl,rfl,_,rfl,?_⟩
  by_cases z:k < ((ns.map V.int).length:Nat)
  ·refine iteY z ?_
   rw [List.length_map] at z
   obtain ⟨j,rfl⟩:∃ j:Nat,k=j:=⟨k.toNat,by omega⟩
   have hj:j < ns.length:=by omega
   exact ⟨_,rfl,_,rfl,l,_,_,V.int ns[j],rfl,rfl,hl,atI_nat (by simp [hj]),q _⟩
  ·exact iteN z (q 0)
def sp__law_mixed:Sp:=fun vs H Q _=>∃ c k:Int,vs=[.int c,.int k]∧0≤k∧k≤1000∧∀ m:Int,0≤m→Q (.int m) H
theorem sc__law_mixed:FnScope ["cell","k","near","stir"] ["cell","k"] (defScope s__law_mixed):=⟨rfl,rfl,rfl,by decide +kernel,rfl,by decide +kernel,by decide +kernel⟩
theorem ok__law_mixed (F:Site K mg "_law_mixed" s__law_mixed) (T:Txt K mg t):Def P w K mg base 1 "_law_mixed" ["cell","k"] sp__law_mixed:=by
 refine F.def sc__law_mixed (fun _ _ _ _ _ _ us hl=>match us,hl with | [_,_],_=>rfl) (fun vs H Q E h=>?_) (fun f cdv A outer s H vs Q E hr h=>?_)
 ·obtain ⟨c,k,rfl,_⟩:=h
  rfl
 ·obtain ⟨c,k,rfl,k0,k1,q⟩:=h
  refine ⟨_,pss_cons (ps_set (i:=2) sc__law_mixed.nd rfl (Or.inl rfl) (pe_op op_add (pe_op op_mod (pv 0) pe_int) (pe_op op_mulW pe_int (pv 1))))
   (pss_cons (ps_set (i:=3) sc__law_mixed.nd rfl (Or.inl rfl) (pe_op op_mod (pe_op op_mulW (pe_op op_add (pv 2) pe_int) (pe_op op_add (pv 2) pe_int)) pe_int))
   (pss_one (ps_ret (pe_op op_fdiv (pe_op op_mod (pe_op op_mulW (pv 3) (pv 3)) pe_int) pe_int)))),?_⟩
  have n0:0≤c % 998244353∧c % 998244353 < 998244353:=⟨Int.emod_nonneg _ (by decide),Int.emod_lt_of_pos _ (by decide)⟩
  refine ⟨_,rfl,_,_,rfl,rfl,(by show (0:Int) < 998244353;decide),_,rfl,_,_,rfl,rfl,mulOk (by decide),_,_,rfl,rfl,?_⟩
  dsimp only
  have b1:0≤c % 998244353+7919 * k∧c % 998244353+7919 * k≤2000000000:=by omega
  generalize c % 998244353+7919 * k=x1 at b1
  refine ⟨_,rfl,_,_,rfl,rfl,_,rfl,_,_,rfl,rfl,_,_,rfl,rfl,mulOk (by omega),_,_,rfl,rfl,(by show (0:Int) < 998244353;decide),?_⟩
  dsimp only
  generalize (x1+11) * (x1+48271)=x2
  have b2:0≤x2 % 998244353∧x2 % 998244353 < 998244353:=⟨Int.emod_nonneg _ (by decide),Int.emod_lt_of_pos _ (by decide)⟩
  refine ⟨_,rfl,_,rfl,_,_,rfl,rfl,mulOk (by omega),_,_,rfl,rfl,(by show (0:Int) < 1000000007;decide),_,_,rfl,rfl,⟨by decide,by decide⟩,?_⟩
  exact q _ (Int.ediv_nonneg (Int.emod_nonneg _ (by decide)) (by decide))
def DrawnOk (bs ms:List Int):Prop:=ms.length=bs.length∧∀ (i:Nat) (m b:Int),ms[i]?=some m→bs[i]?=some b→0≤m∧m < b
def sp__law_drawn (K:PySem.W.Frag):Sp:=fun vs H Q _=>∃ (c:Int) (l:Addr) (bs:List Int),vs=[.int c,.ref l]∧H l=some (.lst (bs.map V.int))∧bs.length≤100∧(∀ b ∈ bs,0 < b∧b≤1000000)∧∀ (r:Addr) (H':Hp) (ms:List Int),Same H H'→H r=none→H' r=some (.lst (ms.map V.int))→DrawnOk bs ms→Q (.ref r) H'
theorem sc__law_drawn:FnScope ["cell","bounds","left","made","k"] ["cell","bounds"] (defScope s__law_drawn):=⟨rfl,rfl,rfl,by decide +kernel,rfl,by decide +kernel,by decide +kernel⟩
set_option maxHeartbeats 1000000 in
theorem ok__law_drawn (F:Site K mg "_law_drawn" s__law_drawn) (T:Txt K mg t) (D__law_mixed:Def P w K mg base 1 "_law_mixed" ["cell","k"] sp__law_mixed):Def P w K mg base 2 "_law_drawn" ["cell","bounds"] (sp__law_drawn K):=by
 refine F.def sc__law_drawn (fun _ _ _ _ _ _ us hl=>match us,hl with | [_,_],_=>rfl) (fun vs H Q E h=>?_) (fun f cdv A outer s H vs Q E hr h=>?_)
 ·obtain ⟨c,l,bs,rfl,_⟩:=h
  rfl
 ·obtain ⟨c,l,bs,rfl,hl,hbl,hb,q⟩:=h
  refine ⟨_,pss_cons (ps_set (i:=2) sc__law_drawn.nd rfl (Or.inl rfl) (pv 0))
   (pss_cons (ps_cut (ps_if (pt_cmpR op_lt (pv 0) (pe_op op_pow pe_int pe_int) (nomark _))
    (pss_one (ps_set (i:=2) sc__law_drawn.nd rfl (Or.inl rfl) pe_int))
    (pss_nil)))
   (pss_cons (ps_set (i:=3) sc__law_drawn.nd rfl (Or.inl rfl) (pe_lst pa_nil))
   (pss_cons (PS.nox (ps_for PassesOwn.never rfl (pi_range1 (by rfl) T.n_range (pa_cons (pe_callB (call_lenK K) (by rfl) T.n_len boot_len (pa_cons (pv 1) pa_nil)) pa_nil)) (pg_name (i:=4) sc__law_drawn.nd rfl (Or.inl rfl))
    (pss_one (ps_if (pt_cmpR op_gt (pv 2) pe_int (nomark _))
     (pss_cons (ps_expr (pe_bmK K PySem.F.plainAttrs_list PySem.F.slot_list_append PySem.F.type_list_append mt_append (pv 3) (pa_cons (pe_op op_mod (pv 2) (pe_ix (ix_listK K) (pv 1) (pv 4) (fun _ _=>rfl))) pa_nil)))
     (pss_one (ps_set (i:=2) sc__law_drawn.nd rfl (Or.inl rfl) (pe_op op_fdiv (pv 2) (pe_ix (ix_listK K) (pv 1) (pv 4) (fun _ _=>rfl))))))
     (pss_one (ps_expr (pe_bmK K PySem.F.plainAttrs_list PySem.F.slot_list_append PySem.F.type_list_append mt_append (pv 3) (pa_cons (pe_op op_mod (pe_def (D__law_mixed.mono (by decide)) hr passN (pa_cons (pv 0) (pa_cons (pv 4) pa_nil))) (pe_ix (ix_listK K) (pv 1) (pv 4) (fun _ _=>rfl))) pa_nil))))))))
   (pss_one (ps_ret (pv 3)))))),?_⟩
  have hsz:(2000:Nat)≤sizeLine:=by decide
  refine ⟨_,rfl,?_⟩
  refine ⟨fun σ H'=>H'=H∧∃ left:Int,σ=[some (.int c),some (.ref l),some (.int left),none,none],?_,?_⟩
  ·refine ⟨_,rfl,_,_,rfl,rfl,⟨by decide,by decide,by decide⟩,_,_,rfl,rfl,_,rfl,?_⟩
   exact ite2 (fun _=>⟨rfl,_,rfl⟩) (fun _=>⟨rfl,_,rfl⟩)
  rintro σ H0 ⟨eH,left,rfl⟩
  rw [eH]
  clear eH
  refine ⟨by show 0≤sizeLine;decide,fun L hL=>?_⟩
  have s1:=(Same.refl H).new (o:=.lst []) hL
  have e1:(upd H L (.lst [])) L=some (.lst []):=upd_same
  generalize upd H L (.lst [])=H1 at s1 e1 ⊢
  refine ⟨_,rfl,l,_,rfl,.inl (SqL.of (s1 _ _ hl)),_,rfl,by rw [List.length_map];omega,by rw [List.length_map];omega,?_⟩
  have hn:(((bs.map V.int).length:Nat):Int).toNat=bs.length:=by rw [List.length_map];omega
  refine for_range (lo:=0) (n:=(((bs.map V.int).length:Nat):Int).toNat) (fun i σ H2=>∃ (rest:Int) (ms:List Int) (v4:Option V),σ=[some (.int c),some (.ref l),some (.int rest),some (.ref L),v4]∧Same H H2∧H2 L=some (.lst (ms.map V.int))∧ms.length=i∧∀ (j:Nat) (m b:Int),ms[j]?=some m→bs[j]?=some b→0≤m∧m < b)
   ⟨_,[],none,rfl,s1,e1,rfl,fun j m b hm=>by cases hm⟩ ?_ ?_
  ·rintro i σ H2 hi ⟨rest,ms,v4,rfl,s2,h2,hml,hm⟩
   rw [hn] at hi
   have ei:bs[i]?=some bs[i]:=by simp [hi]
   generalize bs[i]=b at ei
   obtain ⟨b0,b1⟩:=hb b (List.mem_of_getElem? ei)
   have ai:atI (bs.map V.int) (0+(i:Nat):Int)=some (.int b):=by
    rw [show (0+(i:Nat):Int)=(i:Nat) by omega]
    exact atI_nat (by rw [List.getElem?_map,ei];rfl)
   have push:∀ (x:Int),0≤x∧x < b→(Same H (upd H2 L (.lst (ms.map V.int ++ [V.int x])))∧(upd H2 L (.lst (ms.map V.int ++ [V.int x]))) L=some (.lst ((ms ++ [x]).map V.int))∧(ms ++ [x]).length=i+1∧∀ (j:Nat) (m b:Int),(ms ++ [x])[j]?=some m→bs[j]?=some b→0≤m∧m < b):=fun x hx=>⟨s2.put hL,by rw [upd_same,List.map_append];rfl,by rw [List.length_append,hml];rfl,fun j m b' hm' hb'=>by
    by_cases z:j < ms.length
    ·rw [List.getElem?_append_left z] at hm';exact hm j m b' hm' hb'
    ·have hlt:=(List.getElem?_eq_some_iff.mp hm').1
     rw [List.length_append] at hlt
     have e:j=ms.length:=by simp at hlt;omega
     rw [e,List.getElem?_append_right (Nat.le_refl _),Nat.sub_self] at hm'
     cases hm'
     rw [e,hml,ei] at hb'
     cases hb'
     exact hx⟩
   refine ⟨_,rfl,_,_,rfl,rfl,_,rfl,?_⟩
   refine ite2 (fun _=>?_) (fun _=>?_)
   ·refine ⟨_,rfl,.inl ⟨rfl,_,SqL.of h2⟩,_,rfl,_,rfl,_,rfl,l,_,_,.int b,rfl,rfl,SqL.of (s2 _ _ hl),ai,_,_,rfl,rfl,b0,L,_,_,rfl,rfl,h2,by rw [List.length_map];omega,?_⟩
    obtain ⟨p1,p2,p3,p4⟩:=push (rest % b) ⟨Int.emod_nonneg _ (by omega),Int.emod_lt_of_pos _ b0⟩
    refine ⟨_,rfl,_,rfl,_,rfl,l,_,_,.int b,rfl,rfl,SqL.of (p1 _ _ hl),ai,_,_,rfl,rfl,⟨b0,by omega⟩,?_⟩
    exact ⟨_,_,_,rfl,p1,p2,p3,p4⟩
   ·refine ⟨_,rfl,.inl ⟨rfl,_,SqL.of h2⟩,_,rfl,_,rfl,c,_,rfl,by omega,by omega,fun m m0=>?_⟩
    refine ⟨_,rfl,_,rfl,l,_,_,.int b,rfl,rfl,SqL.of (s2 _ _ hl),ai,_,_,rfl,rfl,b0,L,_,_,rfl,rfl,h2,by rw [List.length_map];omega,?_⟩
    obtain ⟨p1,p2,p3,p4⟩:=push (m % b) ⟨Int.emod_nonneg _ (by omega),Int.emod_lt_of_pos _ b0⟩
    exact ⟨_,_,_,rfl,p1,p2,p3,p4⟩
  ·rintro σ H2 ⟨rest,ms,v4,rfl,s2,h2,hml,hm⟩
   rw [hn] at hml
   exact ⟨_,rfl,q L H2 ms s2 hL h2 ⟨hml,hm⟩⟩
end
end K52
namespace K52
open PySem L2 PyProof.Rows
section
variable {P:Program} {w:World} {K:PySem.W.Frag} {mg:Str→Option Value} {base:Heap} {t:Ad}
def all32:List Int:=(List.range 32).map fun k:Nat=>(0:Int)+(k:Nat)
theorem erase_map {α β:Type} (f:α→β):∀ (l:List α) (k:Nat),(l.map f).eraseIdx k=(l.eraseIdx k).map f
 | [],_=>rfl
 | _ :: _,0=>rfl
 | a :: l,k+1=>congrArg (f a :: ·) (erase_map f l k)
theorem erase_perm {α:Type}:∀ (l:List α) (k:Nat) (h:k < l.length),(l[k] :: l.eraseIdx k).Perm l
 | [],_,h=>absurd h (Nat.not_lt_zero _)
 | _ :: _,0,_=>.refl _
 | a :: l,k+1,h=>(List.Perm.swap a (l[k]'(Nat.lt_of_succ_lt_succ h)) _).trans ((erase_perm l k (Nat.lt_of_succ_lt_succ h)).cons a)
structure HsOk (os:List Int):Prop where
 nd:os.Nodup
 b:∀ x ∈ os,0≤x∧x < 32
theorem HsOk.of {os lf:List Int} (p:(os ++ lf).Perm all32):HsOk os:=by
 have nd:all32.Nodup:=by decide
 have:=p.nodup_iff.mpr nd
 refine ⟨(List.nodup_append.mp this).1,fun x hx=>?_⟩
 have:=p.mem_iff.mp (List.mem_append_left _ hx)
 have key:∀ y ∈ all32,0≤y∧y < 32:=by decide
 exact key x this
def sp__law_houses (K:PySem.W.Frag):Sp:=fun vs H Q _=>∃ (l:Addr) (ms:List Int),vs=[.ref l]∧H l=some (.lst (ms.map V.int))∧ms.length≤30∧∀ (r:Addr) (H':Hp) (os:List Int),Same H H'→H r=none→H' r=some (.lst (os.map V.int))→os.length=ms.length→HsOk os→Q (.ref r) H'
theorem sc__law_houses:FnScope ["drawn","left"] ["drawn"] (defScope s__law_houses):=⟨rfl,rfl,rfl,by decide +kernel,rfl,by decide +kernel,by decide +kernel⟩
set_option maxHeartbeats 1000000 in
theorem ok__law_houses (F:Site K mg "_law_houses" s__law_houses) (T:Txt K mg t):Def P w K mg base 1 "_law_houses" ["drawn"] (sp__law_houses K):=by
 refine F.def sc__law_houses (fun _ _ _ _ _ _ us hl=>match us,hl with | [_],_=>rfl) (fun vs H Q E h=>?_) (fun f cdv A outer s H vs Q E hr h=>?_)
 ·obtain ⟨l,ms,rfl,_⟩:=h
  rfl
 ·obtain ⟨l,ms,rfl,hl,ml,q⟩:=h
  refine ⟨_,pss_cons (ps_set (i:=1) sc__law_houses.nd rfl (Or.inr rfl) (pe_lc rfl (Nc:=["house"]) (ix:=[none]) (cscope (defScope s__law_houses) ["drawn","left"] rfl rfl (by decide +kernel)) (pi_range1 (by rfl) T.n_range (pa_cons pe_int pa_nil)) (fun C fp s H=>⟨(pg_name (i:=0) (show (["house"]:List Str).Nodup by decide +kernel) rfl (Or.inl rfl)),pts_nil,(pv 0)⟩)))
   (pss_one (ps_ret (pe_lc rfl (Nc:=["number","left"]) (ix:=[none,some 1]) (cscope (defScope s__law_houses) ["drawn","left"] rfl rfl (by decide +kernel)) (pi_listK K (pv 0)) (fun C fp s H=>⟨(pg_name (i:=0) (show (["number","left"]:List Str).Nodup by decide +kernel) rfl (Or.inl rfl)),pts_nil,(pe_bmK K PySem.F.plainAttrs_list PySem.F.slot_list_pop PySem.F.type_list_pop mt_popAt (pv 1) (pa_cons (pe_op op_mod (pv 0) (pe_callB (call_lenK K) (by rfl) T.n_len boot_len (pa_cons (pv 1) pa_nil))) pa_nil))⟩)))),?_⟩
  have hsz:(2000:Nat)≤sizeLine:=by decide
  refine ⟨32,rfl,by decide,by decide,fun D hD=>?_⟩
  refine lc_range (lo:=0) (n:=32) (fun i σ H'=>(∃ v:Option V,σ=[v])∧Same H H'∧H' D=some (.lst (((List.range i).map fun k:Nat=>(0:Int)+(k:Nat)).map V.int))) ⟨⟨none,rfl⟩,(Same.refl _).new hD,upd_same⟩ ?_ ?_
  ·rintro i σ H1 N hN hi ⟨⟨v,rfl⟩,s1,e1⟩
   refine turn_do ?_
   refine ⟨_,rfl,_,e1,by rw [List.length_map,List.length_map,List.length_range];omega,hN _ _ ⟨⟨_,rfl⟩,s1.put hD,?_⟩⟩
   rw [upd_same,List.range_succ,List.map_append,List.map_append]
   rfl
  ·rintro σ H1 ⟨⟨v,rfl⟩,s1,e1⟩
   refine ⟨_,rfl,?_⟩
   refine ⟨l,rfl,⟨_,SqL.of (s1 _ _ hl)⟩,fun R hR=>?_⟩
   have nDR:D≠R:=ne_of_none e1 hR
   have hR0:H R=none:=s1.free hR
   refine lc_list (K:=K) (a:=l) (xs:=ms.map V.int) (fun i σ H'=>∃ (v:Option V) (lf os:List Int),σ=[v,some (.ref D)]∧Same H H'∧H' D=some (.lst (lf.map V.int))∧H' R=some (.lst (os.map V.int))∧os.length=i∧(os ++ lf).Perm all32) ⟨none,all32,[],rfl,s1.new hR,by rw [upd_ne nDR];exact e1,upd_same,rfl,.refl _⟩ (fun i σ H' _ ⟨_,_,_,_,s2,_⟩=>SqL.of (s2 _ _ hl)) ?_ ?_
   ·rintro i y σ H2 N hN hi ⟨v,lf,os,rfl,s2,e2,r2,ol,pm⟩
    obtain ⟨m,hm,rfl⟩:=item_of hi
    have hi2:i < ms.length:=(List.getElem?_eq_some_iff.mp hm).1
    have ll:os.length+lf.length=32:=by have:=pm.length_eq;rw [List.length_append] at this;exact this
    have l0:(0:Int) < ((lf.map V.int).length:Nat):=by rw [List.length_map];omega
    obtain ⟨k,hk,kl⟩:∃ k:Nat,m % ((lf.map V.int).length:Nat)=(k:Int)∧k < lf.length:=by
     have h0:=Int.emod_nonneg m (show ((lf.map V.int).length:Int)≠0 by omega)
     have h1:=Int.emod_lt_of_pos m l0
     rw [List.length_map] at h0 h1 ⊢
     exact ⟨(m % (lf.length:Nat)).toNat,by omega,by omega⟩
    have sq:seqIndex? (k:Int) (lf.map V.int).length=some k:=(ixN_seq (by unfold ixN;rw [if_pos (by omega),if_pos (by rw [List.length_map];omega)];simp)).1
    refine turn_do ?_
    refine ⟨_,rfl,.inl ⟨rfl,_,SqL.of e2⟩,_,rfl,_,rfl,D,_,rfl,.inl (SqL.of e2),_,_,rfl,rfl,l0,D,_,_,k,.int lf[k],rfl,rfl,e2,by rw [hk];omega,by rw [hk];omega,by rw [hk];exact sq,by rw [List.getElem?_map];simp [kl],?_⟩
    refine ⟨_,by rw [upd_ne (Ne.symm nDR)];exact r2,by rw [List.length_map];omega,hN _ _ ⟨_,lf.eraseIdx k,os ++ [lf[k]],rfl,(s2.put hD).put hR0,?_,by rw [upd_same,List.map_append];rfl,by rw [List.length_append,ol];rfl,?_⟩⟩
    ·rw [upd_ne nDR,upd_same,erase_map]
    ·rw [List.append_assoc]
     exact ((erase_perm lf k kl).append_left os).trans pm
   ·rintro σ H2 ⟨v,lf,os,rfl,s2,e2,r2,ol,pm⟩
    rw [List.length_map] at ol
    exact q R H2 os s2 hR0 r2 ol (.of pm)
end
end K52
namespace K52
open PySem L2 PyProof.Rows
section
variable {P:Program} {w:World} {K:PySem.W.Frag} {mg:Str→Option Value} {base:Heap} {t:Ad}
structure Ne where
 q:Int
 a:Int
 b:Int
def neD (e:Ne):PyData:=.tuple [.int e.q,.tuple [.int e.a,.int e.b]]
theorem noL_ne (e:Ne):noL (neD e)=true:=by simp [neD,noL,noLAll]
abbrev Nd:=List (Int × V × Ne)
def kvN (p:Int × V × Ne):Key × V:=(Sum.inl p.1,p.2.1)
def getN (d:Nd) (h:Int):Option (Int × V × Ne):=d.find? fun p=>decide (p.1=h)
def putN (d:Nd) (h:Int) (v:V) (e:Ne):Nd:=if h ∈ d.map (·.1) then d.map (fun p=>if p.1=h then (h,v,e) else p) else d ++ [(h,v,e)]
def dropN (d:Nd) (h:Int):Nd:=d.filter fun p=>!decide (p.1=h)
theorem val_n (d:Nd) (h:Int):valV (d.map kvN) (Sum.inl h)=(getN d h).map (·.2.1):=by
 unfold valV getN
 rw [List.find?_map,Option.map_map]
 have e:((fun kv:Key × V=>decide (kv.1=Sum.inl h)) ∘ kvN)=fun p:Int × V × Ne=>decide (p.1=h):=by
  funext m
  simp [kvN]
 rw [e]
 rfl
theorem put_n (d:Nd) (h:Int) (v:V) (e:Ne):putK (d.map kvN) (Sum.inl h) v=(putN d h v e).map kvN:=by
 unfold putK putN
 have ea:((d.map kvN).any fun kv=>decide (kv.1=Sum.inl h))=decide (h ∈ d.map (·.1)):=by
  rw [List.any_map,Bool.eq_iff_iff,List.any_eq_true,decide_eq_true_iff,List.mem_map]
  constructor
  ·rintro ⟨m,hm,h⟩
   exact ⟨m,hm,by simpa [kvN] using h⟩
  ·rintro ⟨m,hm,h⟩
   exact ⟨m,hm,by simp [kvN,h]⟩
 rw [ea]
 by_cases c:h ∈ d.map (·.1)
 ·rw [if_pos (by simpa using c),if_pos c,List.map_map,List.map_map]
  refine List.map_congr_left fun m _=>?_
  show (if (kvN m).1=Sum.inl h then ((kvN m).1,v) else kvN m)=kvN (if m.1=h then (h,v,e) else m)
  by_cases c:m.1=h
  ·rw [if_pos c,if_pos (by simp [kvN,c])];simp [kvN,c]
  ·rw [if_neg c,if_neg (by simp [kvN,c])]
 ·rw [if_neg (by simpa using c),if_neg c,List.map_append]
  rfl
theorem putN_keys (d:Nd) (h:Int) (v:V) (e:Ne):(putN d h v e).map (·.1)=if h ∈ d.map (·.1) then d.map (·.1) else d.map (·.1) ++ [h]:=by
 unfold putN
 by_cases c:h ∈ d.map (·.1)
 ·rw [if_pos c,if_pos c,List.map_map]
  refine List.map_congr_left fun m _=>?_
  show (if m.1=h then (h,v,e) else m).1=m.1
  split
  ·rename_i c;exact c.symm
  ·rfl
 ·rw [if_neg c,if_neg c,List.map_append]
  rfl
theorem putN_nodup {d:Nd} (nd:(d.map (·.1)).Nodup) (h:Int) (v:V) (e:Ne):((putN d h v e).map (·.1)).Nodup:=by
 rw [putN_keys]
 split
 ·exact nd
 ·rename_i c
  refine List.nodup_append.mpr ⟨nd,by simp,fun a ha b hb=>?_⟩
  rw [List.mem_singleton.mp hb]
  rintro rfl
  exact c ha
theorem putN_mem {d:Nd} {h:Int} {v:V} {e:Ne} {p:Int × V × Ne}:p ∈ putN d h v e→p=(h,v,e)∨p ∈ d:=by
 unfold putN
 split
 ·intro z
  obtain ⟨x,hx,e⟩:=List.mem_map.mp z
  split at e
  ·exact .inl e.symm
  ·exact .inr (e ▸ hx)
 ·intro z
  rcases List.mem_append.mp z with z | z
  ·exact .inr z
  ·exact .inl (List.mem_singleton.mp z)
structure NdAt (K:PySem.W.Frag) (H:Hp) (a:Addr) (xs:Nd):Prop where
 d:H a=some (.dK (xs.map kvN))
 nd:(xs.map (·.1)).Nodup
 v:∀ p ∈ xs,IsDat K H 3 p.2.1 (neD p.2.2)
theorem NdAt.same {K:PySem.W.Frag} {H H':Hp} {a:Addr} {d:Nd} (h:NdAt K H a d) (s:Same H H'):NdAt K H' a d:=⟨s _ _ h.d,h.nd,fun p hp=>(h.v p hp).same s⟩
structure NrAt (K:PySem.W.Frag) (H:Hp) (nl:Addr) (ds:List (Addr × Nd)):Prop where
 l:H nl=some (.lst (ds.map fun x=>V.ref x.1))
 d:∀ x ∈ ds,NdAt K H x.1 x.2
 ap:(ds.map (·.1)).Nodup
theorem NrAt.same {K:PySem.W.Frag} {H H':Hp} {nl:Addr} {ds:List (Addr × Nd)} (h:NrAt K H nl ds) (s:Same H H'):NrAt K H' nl ds:=⟨s _ _ h.l,fun x hx=>(h.d x hx).same s,h.ap⟩
theorem NrAt.set {K:PySem.W.Frag} {H:Hp} {nl:Addr} {ds:List (Addr × Nd)} (h:NrAt K H nl ds) {i:Nat} {x:Addr × Nd} (hi:ds[i]?=some x) {d':Nd} (nd:(d'.map (·.1)).Nodup) (hv:∀ p ∈ d',IsDat K H 3 p.2.1 (neD p.2.2)):NrAt K (upd H x.1 (.dK (d'.map kvN))) nl (ds.set i (x.1,d')):=by
 have hx:=h.d x (List.mem_of_getElem? hi)
 have kp:=kept_of (o:=.dK (d'.map kvN)) (NTu.dk hx.d)
 have nl1:nl≠x.1:=ne_of h.l hx.d (by intro z;cases z)
 obtain ⟨il,ie⟩:=List.getElem?_eq_some_iff.mp hi
 have em:(ds.set i (x.1,d')).map (·.1)=ds.map (·.1):=by
  rw [List.map_set]
  refine List.ext_getElem (by simp) fun j h1 h2=>?_
  rw [List.getElem_set]
  split
  ·rename_i c;subst c;simp [ie]
  ·rfl
 have er:(ds.set i (x.1,d')).map (fun x=>V.ref x.1)=ds.map fun x=>V.ref x.1:=by
  have:=congrArg (List.map V.ref) em
  rw [List.map_map,List.map_map] at this
  exact this
 refine ⟨by rw [upd_ne nl1,er];exact h.l,fun y hy=>?_,by rw [em];exact h.ap⟩
 obtain ⟨j,jl,rfl⟩:=List.getElem_of_mem hy
 rw [List.getElem_set]
 split
 ·exact ⟨upd_same,nd,fun p hp=>(hv p hp).kept kp (noL_ne _)⟩
 ·rename_i c
  have jl':j < ds.length:=by simpa using jl
  have hj:=h.d ds[j] (List.getElem_mem jl')
  have ne:ds[j].1≠x.1:=fun z=>by
   have p:=List.pairwise_iff_getElem.mp h.ap
   rcases Nat.lt_or_gt_of_ne c with g | g
   ·exact p i j (by simpa using il) (by simpa using jl') g (by simp [ie,z])
   ·exact p j i (by simpa using jl') (by simpa using il) g (by simp [ie,z])
  exact ⟨by rw [upd_ne ne];exact hj.d,hj.nd,fun p hp=>(hj.v p hp).kept kp (noL_ne _)⟩
end
end K52
namespace K52
open PySem L2 PyProof.Rows
section
variable {P:Program} {w:World} {K:PySem.W.Frag} {mg:Str→Option Value} {base:Heap} {t:Ad}
def Allow (os:List Int) (many k:Nat) (h:Int):Prop:=(∃ j:Nat,j < many∧j≠k∧os[j]?=some h)∨(many < 5∧(os[6]?=some h∨os[7]?=some h))
def EnOk (e:Ne):Prop:=(1≤e.q∧e.q≤10)∧(1≤e.a∧e.a≤9000)∧(1≤e.b∧e.b≤9000)
def NkOk (os:List Int) (many:Nat) (ds:List (Addr × Nd)):Prop:=∀ k x,ds[k]?=some x→∀ p ∈ x.2,Allow os many k p.1∧EnOk p.2.2
theorem Allow.mem {os:List Int} {many k:Nat} {h:Int} (a:Allow os many k h):h ∈ os:=by
 rcases a with ⟨j,_,_,e⟩ | ⟨_,e | e⟩ <;> exact List.mem_of_getElem? e
theorem NkOk.len {os:List Int} {many:Nat} {ds:List (Addr × Nd)} (h:NkOk os many ds) {k:Nat} {x:Addr × Nd} (hx:ds[k]?=some x) (nd:(x.2.map (·.1)).Nodup):x.2.length≤os.length:=by
 have:=pigeonW os (x.2.map (·.1)) nd fun y hy=>by
  obtain ⟨p,hp,rfl⟩:=List.mem_map.mp hy
  exact (h k x hx p hp).1.mem
 rwa [List.length_map] at this
theorem NkOk.set {os:List Int} {many:Nat} {ds:List (Addr × Nd)} (h:NkOk os many ds) {i:Nat} {x:Addr × Nd} (hx:ds[i]?=some x) {d':Nd} (hd:∀ p ∈ d',p ∈ x.2∨(Allow os many i p.1∧EnOk p.2.2)):NkOk os many (ds.set i (x.1,d')):=by
 intro k y hy p hp
 rw [List.getElem?_set] at hy
 split at hy
 ·rename_i c
  subst c
  split at hy
  ·cases hy
   rcases hd p hp with z | z
   ·exact h i x hx p z
   ·exact z
  ·cases hy
 ·exact h k y hy p hp
structure Tl (K:PySem.W.Frag) (nl hl:Addr) (os:List Int) (S:List Addr) (H H':Hp) (ds:List (Addr × Nd)):Prop where
 m:Mods S H H'
 r:NrAt K H' nl ds
 e:ds.map (·.1)=S
 k:NkOk os ds.length ds
 h:H' hl=some (.lst (os.map V.int))
theorem Tl.same {K:PySem.W.Frag} {nl hl:Addr} {os:List Int} {S:List Addr} {H H' H2:Hp} {ds:List (Addr × Nd)} (t:Tl K nl hl os S H H' ds) (s:Same H' H2):Tl K nl hl os S H H2 ds:=⟨fun b o nb e=>s b o (t.m b o nb e),t.r.same s,t.e,t.k,s _ _ t.h⟩
theorem Tl.set {K:PySem.W.Frag} {nl hl:Addr} {os:List Int} {S:List Addr} {H H':Hp} {ds:List (Addr × Nd)} (t:Tl K nl hl os S H H' ds) {i:Nat} {x:Addr × Nd} (hx:ds[i]?=some x) {d':Nd} (nd:(d'.map (·.1)).Nodup) (hv:∀ p ∈ d',IsDat K H' 3 p.2.1 (neD p.2.2)) (hd:∀ p ∈ d',p ∈ x.2∨(Allow os ds.length i p.1∧EnOk p.2.2)):Tl K nl hl os S H (upd H' x.1 (.dK (d'.map kvN))) (ds.set i (x.1,d')):=by
 have hxd:=t.r.d x (List.mem_of_getElem? hx)
 obtain ⟨il,ie⟩:=List.getElem?_eq_some_iff.mp hx
 have em:(ds.set i (x.1,d')).map (·.1)=ds.map (·.1):=by
  rw [List.map_set]
  refine List.ext_getElem (by simp) fun j h1 h2=>?_
  rw [List.getElem_set]
  split
  ·rename_i c;subst c;simp [ie]
  ·rfl
 have xS:x.1 ∈ S:=by rw [← t.e];exact List.mem_map.mpr ⟨x,List.mem_of_getElem? hx,rfl⟩
 refine ⟨fun b o nb e=>?_,t.r.set hx nd hv,by rw [em];exact t.e,by rw [List.length_set];exact t.k.set hx hd,?_⟩
 ·rw [upd_ne (fun z=>nb (by rw [z];exact xS))]
  exact t.m b o nb e
 ·rw [upd_ne (ne_of t.h hxd.d (by intro z;cases z))]
  exact t.h
theorem Tl.put {K:PySem.W.Frag} {nl hl:Addr} {os:List Int} {S:List Addr} {H H':Hp} {ds:List (Addr × Nd)} (t:Tl K nl hl os S H H' ds) {i:Nat} {x:Addr × Nd} (hx:ds[i]?=some x) {h:Int} {v:V} {e:Ne} (hv:IsDat K H' 3 v (neD e)) (ha:Allow os ds.length i h) (he:EnOk e):Tl K nl hl os S H (upd H' x.1 (.dK (putK (x.2.map kvN) (Sum.inl h) v))) (ds.set i (x.1,putN x.2 h v e)):=by
 have hxd:=t.r.d x (List.mem_of_getElem? hx)
 rw [put_n x.2 h v e]
 refine t.set hx (putN_nodup hxd.nd _ _ _) (fun p hp=>?_) (fun p hp=>?_)
 ·rcases putN_mem hp with rfl | z
  ·exact hv
  ·exact hxd.v p z
 ·rcases putN_mem hp with rfl | z
  ·exact .inr ⟨ha,he⟩
  ·exact .inl z
def sp__law_told (K:PySem.W.Frag):Sp:=fun vs H Q _=>∃ (nl hl:Addr) (c:Int) (pl:Bool) (os:List Int) (ds:List (Addr × Nd)),vs=[.ref nl,.ref hl,.int c,.int (ds.length:Nat),.bl pl]∧Tl K nl hl os (ds.map (·.1)) H H ds∧os.length=8∧2≤ds.length∧ds.length≤6∧∀ (H':Hp) (ds':List (Addr × Nd)),Tl K nl hl os (ds.map (·.1)) H H' ds'→ds'.length=ds.length→Q .non H'
end
end K52
namespace K52
open PySem L2 PyProof.Rows
section
variable {P:Program} {w:World} {K:PySem.W.Frag} {mg:Str→Option Value} {base:Heap} {t:Ad}
theorem ne_dat {K:PySem.W.Frag} {H:Hp} {p r:Addr} {q a b:Int} (h1:SqT K H r [.int q,.ref p]) (h2:SqT K H p [.int a,.int b]):IsDat K H 3 (.ref r) (neD ⟨q,a,b⟩):=by
 refine .tup h1 rfl fun i v d e1 e2=>?_
 match i with
 | 0=>cases e1;cases e2;exact .int _
 | 1 =>
  cases e1;cases e2
  refine .tup h2 rfl fun i v d e1 e2=>?_
  match i with
  | 0=>cases e1;cases e2;exact .int _
  | 1=>cases e1;cases e2;exact .int _
  | i+2=>simp at e1
 | i+2=>simp at e1
theorem drop_n (d:Nd) (h:Int):dropK (d.map kvN) (Sum.inl h)=(dropN d h).map kvN:=by
 unfold dropK dropN
 rw [List.filter_map]
 congr 1
 refine List.filter_congr fun p _=>?_
 simp [kvN]
theorem sc__law_told:FnScope ["near","houses","cell","many","plain","a","step","length","more","kind","birth","b"] ["near","houses","cell","many","plain"] (defScope s__law_told):=⟨rfl,rfl,rfl,by decide +kernel,rfl,by decide +kernel,by decide +kernel⟩
set_option maxHeartbeats 2000000 in
theorem ok__law_told (F:Site K mg "_law_told" s__law_told) (T:Txt K mg t) (D__law_drawn:Def P w K mg base 2 "_law_drawn" ["cell","bounds"] (sp__law_drawn K)):Def P w K mg base 3 "_law_told" ["near","houses","cell","many","plain"] (sp__law_told K):=by
 refine F.def sc__law_told (fun _ _ _ _ _ _ us hl=>match us,hl with | [_,_,_,_,_],_=>rfl) (fun vs H Q E h=>?_) (fun f cdv A outer s H vs Q E hr h=>?_)
 ·obtain ⟨nl,hl,c,pl,os,ds,rfl,_⟩:=h
  rfl
 ·obtain ⟨nl,hl,c,pl,os,ds,rfl,tl,ol,d2,d6,q⟩:=h
  refine ⟨_,pss_cons (ps_asg (pe_def (D__law_drawn.mono (by decide)) hr passN (pa_cons (pv 2) (pa_cons (pe_lst (pa_cons (pv 3) (pa_cons (pe_op op_sub (pv 3) pe_int) (pa_cons pe_int (pa_cons pe_int (pa_cons pe_int (pa_cons pe_int pa_nil))))))) pa_nil))) (pg_tupL K rfl (pgs_cons (pg_name (i:=5) sc__law_told.nd rfl (Or.inl rfl)) (pgs_cons (pg_name (i:=6) sc__law_told.nd rfl (Or.inl rfl)) (pgs_cons (pg_name (i:=7) sc__law_told.nd rfl (Or.inl rfl)) (pgs_cons (pg_name (i:=8) sc__law_told.nd rfl (Or.inl rfl)) (pgs_cons (pg_name (i:=9) sc__law_told.nd rfl (Or.inl rfl)) (pgs_cons (pg_name (i:=10) sc__law_told.nd rfl (Or.inl rfl)) pgs_nil))))))))
   (pss_cons (ps_set (i:=11) sc__law_told.nd rfl (Or.inl rfl) (pe_op op_mod (pe_op op_add (pe_op op_add (pv 5) pe_int) (pv 6)) (pv 3)))
   (pss_cons (ps_cut (ps_if (pt_val (pv 4))
    (pss_one (ps_asg (pe_tup (pa_cons pe_int (pa_cons pe_int pa_nil))) (pg_twoK K (i:=7) (j:=8) rfl sc__law_told.nd rfl rfl (Or.inl rfl) (Or.inl rfl))))
    (pss_nil)))
   (pss_cons (ps_dput (hu_of hr) (pe_ix (ix_listK K) (pv 0) (pv 5) (fun _ _=>rfl)) (pe_ix (ix_listK K) (pv 1) (pv 11) (fun _ _=>rfl)) (pe_tup (pa_cons (pe_op op_add pe_int (pv 7)) (pa_cons (pe_tup (pa_cons (pe_op op_add pe_int (pv 10)) (pa_cons pe_int pa_nil))) pa_nil))) (by rfl))
   (pss_cons (ps_cut (ps_if (pt_cmpR op_eq (pv 9) pe_int (nomark _))
    (pss_one (ps_expr (pe_dpop2 (pe_ix (ix_listK K) (pv 0) (pv 11) (fun _ _=>rfl)) (pe_ix (ix_listK K) (pv 1) (pv 5) (fun _ _=>rfl)) pe_non ⟨rfl,rfl,rfl,rfl⟩)))
    (pss_one (ps_if (pt_cmpR op_eq (pv 9) pe_int (nomark _))
     (pss_one (ps_dput (hu_of hr) (pe_ix (ix_listK K) (pv 0) (pv 11) (fun _ _=>rfl)) (pe_ix (ix_listK K) (pv 1) (pv 5) (fun _ _=>rfl)) (pe_tup (pa_cons (pe_op op_add pe_int (pv 8)) (pa_cons (pe_tup (pa_cons (pe_op op_add pe_int (pv 10)) (pa_cons pe_int pa_nil))) pa_nil))) (by rfl)))
     (pss_one (ps_dput (hu_of hr) (pe_ix (ix_listK K) (pv 0) (pv 11) (fun _ _=>rfl)) (pe_ix (ix_listK K) (pv 1) (pv 5) (fun _ _=>rfl)) (pe_tup (pa_cons (pe_op op_add pe_int (pe_ix (ix_listK K) (pe_lst (pa_cons (pv 7) (pa_cons (pv 8) pa_nil))) (pe_op op_mod (pv 9) pe_int) (fun _ _=>rfl))) (pa_cons (pe_tup (pa_cons (pe_op op_add pe_int (pv 10)) (pa_cons pe_int pa_nil))) pa_nil))) (by rfl)))))))
   (pss_one (ps_if (PW.pt (pw_and (pt_cmpR op_eq (pv 9) pe_int (nomark _)) (pw_and1 (pt_cmpR op_lt (pv 3) pe_int (nomark _)))))
    (pss_one (ps_dput (hu_of hr) (pe_ix (ix_listK K) (pv 0) (pv 5) (fun _ _=>rfl)) (pe_ix (ix_listK K) (pv 1) (pe_op op_add pe_int (pe_op op_mod (pv 10) pe_int)) (fun _ _=>rfl)) (pe_tup (pa_cons (pe_op op_add pe_int (pv 8)) (pa_cons (pe_tup (pa_cons pe_int (pa_cons pe_int pa_nil))) pa_nil))) (by rfl)))
    (pss_nil))))))),?_⟩
  have hsz:(2000:Nat)≤sizeLine:=by decide
  refine ⟨_,rfl,_,rfl,_,rfl,_,_,rfl,rfl,by show 6≤sizeLine;decide,fun p1 hp1=>?_⟩
  have s1:=(Same.refl H).new (o:=.lst [.int (ds.length:Nat),.int ((ds.length:Nat) - 1),.int 10,.int 10,.int 8,.int 3]) hp1
  refine ⟨c,p1,[(ds.length:Nat),(ds.length:Nat) - 1,10,10,8,3],rfl,upd_same,by show 6≤100;decide,fun b hb=>?_,fun dr H2 ms s2 ndr e2 dk=>?_⟩
  ·simp only [List.mem_cons,List.not_mem_nil,or_false] at hb
   omega
  have S2:=s1.trans s2
  obtain ⟨a,st,ln,mo,ki,bi,rfl⟩:∃ a b c d e f,ms=[a,b,c,d,e,f]:=by
   match ms,dk.1 with
   | [a,b,c,d,e,f],_=>exact ⟨a,b,c,d,e,f,rfl⟩
  have ka:=dk.2 0 _ _ rfl rfl
  have ks:=dk.2 1 _ _ rfl rfl
  have kl:=dk.2 2 _ _ rfl rfl
  have km:=dk.2 3 _ _ rfl rfl
  have kk:=dk.2 4 _ _ rfl rfl
  have kb:=dk.2 5 _ _ rfl rfl
  refine ⟨dr,_,rfl,SqL.of e2,rfl,_,_,rfl,_,_,rfl,_,_,rfl,_,_,rfl,_,_,rfl,_,_,rfl,rfl,?_⟩
  have mp:(0:Int) < (ds.length:Nat):=by omega
  refine ⟨_,rfl,_,_,rfl,rfl,_,rfl,_,_,rfl,rfl,_,rfl,_,_,rfl,rfl,mp,?_⟩
  obtain ⟨b,hb,bl⟩:∃ b:Nat,(a+1+st) % (ds.length:Nat)=(b:Int)∧b < ds.length:=by
   have h0:=Int.emod_nonneg (a+1+st) (show ((ds.length:Nat):Int)≠0 by omega)
   have h1:=Int.emod_lt_of_pos (a+1+st) mp
   exact ⟨((a+1+st) % (ds.length:Nat)).toNat,by omega,by omega⟩
  obtain ⟨an,rfl⟩:∃ an:Nat,a=an:=⟨a.toNat,by omega⟩
  have nab:an≠b:=fun z=>by
   subst z
   have h1:((ds.length:Nat):Int) ∣ 1+st:=⟨((an:Int)+1+st) / (ds.length:Nat),by
    have:=Int.mul_ediv_add_emod ((an:Int)+1+st) (ds.length:Nat)
    rw [hb] at this
    omega⟩
   have:=Int.le_of_dvd (by omega) h1
   omega
  dsimp only
  rw [hb]
  refine ⟨fun σ H'=>Same H2 H'∧∃ ln mo:Int,(0≤ln∧ln < 10)∧(0≤mo∧mo < 10)∧σ=[some (.ref nl),some (.ref hl),some (.int c),some (.int (ds.length:Nat)),some (.bl pl),some (.int an),some (.int st),some (.int ln),some (.int mo),some (.int ki),some (.int bi),some (.int b)],?_,?_⟩
  ·refine ⟨_,rfl,pl,rfl,?_⟩
   cases pl with
   | true =>
    refine iteT ⟨by show 2≤sizeLine;decide,fun tp htp=>?_⟩
    refine ⟨tp,_,rfl,SqT.of upd_same,rfl,_,_,rfl,_,_,rfl,rfl,?_⟩
    exact ⟨(Same.refl _).new htp,0,0,by decide,by decide,rfl⟩
   | false=>exact iteF ⟨.refl _,ln,mo,kl,km,rfl⟩
  clear kl km
  rintro σ H3 ⟨s3,ln,mo,kl,km,rfl⟩
  have t3:=(tl.same S2).same s3
  have al:an < ds.length:=by omega
  have bb:0≤bi∧bi < 3:=kb
  have ata:∀ {es:List (Addr × Nd)} {k:Nat} {x:Addr × Nd},es[k]?=some x→atI (es.map fun x=>V.ref x.1) (k:Int)=some (V.ref x.1):=fun h=>atI_nat (by rw [List.getElem?_map,h];rfl)
  have ato:∀ {k:Nat} {h:Int},os[k]?=some h→atI (os.map V.int) (k:Int)=some (V.int h):=fun h=>atI_nat (by rw [List.getElem?_map,h];rfl)
  obtain ⟨ha,eha⟩:∃ h,os[an]?=some h:=⟨os[an],by simp [show an < os.length by omega]⟩
  obtain ⟨hb',ehb⟩:∃ h,os[b]?=some h:=⟨os[b],by simp [show b < os.length by omega]⟩
  have mk:∀ {H3:Hp} {ip op:Addr} {q a b:Int},H3 ip=none→(upd H3 ip (.tup [.int a,.int b])) op=none→Same H3 (upd (upd H3 ip (.tup [.int a,.int b])) op (.tup [.int q,.ref ip]))∧IsDat K (upd (upd H3 ip (.tup [.int a,.int b])) op (.tup [.int q,.ref ip])) 3 (.ref op) (neD ⟨q,a,b⟩):=fun h1 h2 =>
   ⟨((Same.refl _).new h1).new h2,ne_dat (SqT.of upd_same) (SqT.of (by rw [upd_ne (ne_of_none upd_same h2)];exact upd_same))⟩
  have sz:∀ {H':Hp} {es:List (Addr × Nd)} {k:Nat} {x:Addr × Nd},Tl K nl hl os (ds.map (·.1)) H H' es→es[k]?=some x→(x.2.map kvN).length≤100:=fun t h=>by
   rw [List.length_map]
   have:=t.k.len h (t.r.d _ (List.mem_of_getElem? h)).nd
   omega
  have len:∀ {H':Hp} {es:List (Addr × Nd)},Tl K nl hl os (ds.map (·.1)) H H' es→es.length=ds.length:=fun t=>by
   have:=congrArg List.length t.e
   rwa [List.length_map,List.length_map] at this
  obtain ⟨xa,exa⟩:∃ x,ds[an]?=some x:=⟨ds[an],by simp [al]⟩
  refine ⟨_,rfl,_,_,rfl,rfl,_,rfl,_,_,rfl,rfl,by show 2≤sizeLine;decide,fun ip hip=>⟨by show 2≤sizeLine;decide,fun op hop=>?_⟩⟩
  obtain ⟨u4,v4⟩:=mk (q:=1+ln) hip hop
  have t4:=t3.same u4
  generalize upd (upd H3 ip (.tup [.int (1+bi),.int 2])) op (.tup [.int (1+ln),.ref ip])=H4 at u4 v4 t4 ⊢
  refine ⟨_,rfl,_,rfl,nl,_,_,.ref xa.1,rfl,rfl,SqL.of t4.r.l,ata exa,_,rfl,_,rfl,hl,_,_,.int hb',rfl,rfl,SqL.of t4.h,ato ehb,xa.1,_,rfl,.inl ⟨_,Sum.inl hb',(t4.r.d xa (List.mem_of_getElem? exa)).d,rfl,by have:=sz t4 exa;omega,rfl⟩,?_⟩
  have t5:=t4.put exa v4 (.inl ⟨b,bl,Ne.symm nab,ehb⟩) ⟨⟨by show 1≤1+ln;omega,by show 1+ln≤10;omega⟩,⟨by show 1≤1+bi;omega,by show 1+bi≤9000;omega⟩,by show 1≤(2:Int)∧(2:Int)≤9000;decide⟩
  generalize upd H4 xa.1 (.dK (putK (xa.2.map kvN) (Sum.inl hb') (.ref op)))=H5 at t5 ⊢
  generalize ds.set an (xa.1,putN xa.2 hb' (.ref op) ⟨1+ln,1+bi,2⟩)=d5 at t5
  have l5:=len t5
  obtain ⟨xb,exb⟩:∃ x,d5[b]?=some x:=⟨d5[b],by simp [show b < d5.length by omega]⟩
  refine ⟨fun σ H'=>(∃ d6,Tl K nl hl os (ds.map (·.1)) H H' d6)∧σ=[some (.ref nl),some (.ref hl),some (.int c),some (.int (ds.length:Nat)),some (.bl pl),some (.int an),some (.int st),some (.int ln),some (.int mo),some (.int ki),some (.int bi),some (.int b)],?_,?_⟩
  ·refine ⟨_,rfl,rfl,_,rfl,?_⟩
   by_cases c0:ki=0
   ·refine iteY (congrArg V.int c0) ?_
    have xd:=t5.r.d xb (List.mem_of_getElem? exb)
    refine ⟨_,rfl,_,rfl,nl,_,_,.ref xb.1,rfl,rfl,SqL.of t5.r.l,ata exb,xb.1,rfl,.inl ⟨_,.inl xd.d⟩,_,rfl,_,rfl,hl,_,_,.int ha,rfl,rfl,SqL.of t5.h,ato eha,_,Sum.inl ha,xd.d,rfl,fun v hv=>?_,fun hn=>?_⟩
    ·refine ⟨⟨d5.set b (xb.1,dropN xb.2 ha),?_⟩,rfl⟩
     rw [drop_n]
     refine t5.set exb ?_ (fun p hp=>xd.v p (List.mem_filter.mp hp).1) (fun p hp=>.inl (List.mem_filter.mp hp).1)
     exact xd.nd.sublist ((List.filter_sublist).map _)
    ·exact ⟨⟨d5,t5⟩,rfl⟩
   refine iteN (fun z=>c0 (V.int.inj z)) ?_
   refine ⟨_,rfl,rfl,_,rfl,?_⟩
   by_cases c1:ki=1
   ·refine iteY (congrArg V.int c1) ?_
    refine ⟨_,rfl,_,_,rfl,rfl,_,rfl,_,_,rfl,rfl,by show 2≤sizeLine;decide,fun ip hip=>⟨by show 2≤sizeLine;decide,fun op hop=>?_⟩⟩
    obtain ⟨u6,v6⟩:=mk (q:=1+mo) hip hop
    have t6:=t5.same u6
    generalize upd (upd H5 ip (.tup [.int (2+bi),.int 2])) op (.tup [.int (1+mo),.ref ip])=H6 at u6 v6 t6 ⊢
    refine ⟨_,rfl,_,rfl,nl,_,_,.ref xb.1,rfl,rfl,SqL.of t6.r.l,ata exb,_,rfl,_,rfl,hl,_,_,.int ha,rfl,rfl,SqL.of t6.h,ato eha,xb.1,_,rfl,.inl ⟨_,Sum.inl ha,(t6.r.d xb (List.mem_of_getElem? exb)).d,rfl,by have:=sz t6 exb;omega,rfl⟩,?_⟩
    exact ⟨⟨_,t6.put exb v6 (.inl ⟨an,by omega,nab,eha⟩) ⟨⟨by show 1≤1+mo;omega,by show 1+mo≤10;omega⟩,⟨by show 1≤2+bi;omega,by show 2+bi≤9000;omega⟩,by show 1≤(2:Int)∧(2:Int)≤9000;decide⟩⟩,rfl⟩
   ·refine iteN (fun z=>c1 (V.int.inj z)) ?_
    obtain ⟨z,ez,z0⟩:∃ z:Int,atI [V.int ln,V.int mo] (ki % 2)=some (.int z)∧0≤z∧z < 10:=by
     rcases Int.emod_two_eq ki with e | e
     ·rw [e];exact ⟨ln,rfl,kl⟩
     ·rw [e];exact ⟨mo,rfl,km⟩
    refine ⟨_,rfl,_,rfl,by show 2≤sizeLine;decide,fun lp hlp=>?_⟩
    have s6:=(Same.refl H5).new (o:=.lst [.int ln,.int mo]) hlp
    refine ⟨_,rfl,_,_,rfl,rfl,(by show (0:Int) < 2;decide),lp,_,_,.int z,rfl,rfl,SqL.of upd_same,ez,_,_,rfl,rfl,?_⟩
    generalize upd H5 lp (.lst [.int ln,.int mo])=H5' at s6 ⊢
    refine ⟨_,rfl,_,_,rfl,rfl,by show 2≤sizeLine;decide,fun ip hip=>⟨by show 2≤sizeLine;decide,fun op hop=>?_⟩⟩
    obtain ⟨u6,v6⟩:=mk (q:=1+z) hip hop
    have t6:=(t5.same s6).same u6
    generalize upd (upd H5' ip (.tup [.int (1+bi),.int 2])) op (.tup [.int (1+z),.ref ip])=H6 at u6 v6 t6 ⊢
    refine ⟨_,rfl,_,rfl,nl,_,_,.ref xb.1,rfl,rfl,SqL.of t6.r.l,ata exb,_,rfl,_,rfl,hl,_,_,.int ha,rfl,rfl,SqL.of t6.h,ato eha,xb.1,_,rfl,.inl ⟨_,Sum.inl ha,(t6.r.d xb (List.mem_of_getElem? exb)).d,rfl,by have:=sz t6 exb;omega,rfl⟩,?_⟩
    exact ⟨⟨_,t6.put exb v6 (.inl ⟨an,by omega,nab,eha⟩) ⟨⟨by show 1≤1+z;omega,by show 1+z≤10;omega⟩,⟨by show 1≤1+bi;omega,by show 1+bi≤9000;omega⟩,by show 1≤(2:Int)∧(2:Int)≤9000;decide⟩⟩,rfl⟩
  ·rintro σ H6 ⟨⟨e6,t6⟩,rfl⟩
   have l6:=len t6
   refine ⟨_,rfl,rfl,_,rfl,?_⟩
   by_cases c2:ki=2
   ·refine iteY (congrArg V.int c2) ?_
    refine ⟨_,rfl,_,_,rfl,rfl,_,rfl,?_⟩
    by_cases c5:((ds.length:Nat):Int) < 5
    ·refine iteY c5 ?_
     obtain ⟨xc,exc⟩:∃ x,e6[an]?=some x:=⟨e6[an],by simp [show an < e6.length by omega]⟩
     obtain ⟨j,ej,jj⟩:∃ j:Nat,6+bi % 2=(j:Int)∧(j=6∨j=7):=by
      rcases Int.emod_two_eq bi with e | e
      ·exact ⟨6,by omega,.inl rfl⟩
      ·exact ⟨7,by omega,.inr rfl⟩
     obtain ⟨hc,ehc⟩:∃ h,os[j]?=some h:=⟨os[j]'(by omega),by simp [show j < os.length by omega]⟩
     refine ⟨_,rfl,_,_,rfl,rfl,by show 2≤sizeLine;decide,fun ip hip=>⟨by show 2≤sizeLine;decide,fun op hop=>?_⟩⟩
     obtain ⟨u7,v7⟩:=mk (q:=1+mo) hip hop
     have t7:=t6.same u7
     generalize upd (upd H6 ip (.tup [.int 1,.int 1])) op (.tup [.int (1+mo),.ref ip])=H7 at u7 v7 t7 ⊢
     refine ⟨_,rfl,_,rfl,nl,_,_,.ref xc.1,rfl,rfl,SqL.of t7.r.l,ata exc,_,rfl,_,rfl,_,_,rfl,rfl,(by show (0:Int) < 2;decide),_,_,rfl,rfl,hl,_,_,.int hc,rfl,rfl,SqL.of t7.h,(by rw [ej];exact ato ehc),xc.1,_,rfl,.inl ⟨_,Sum.inl hc,(t7.r.d xc (List.mem_of_getElem? exc)).d,rfl,by have:=sz t7 exc;omega,rfl⟩,?_⟩
     have t8:=t7.put exc v7 (.inr ⟨by omega,by rcases jj with rfl | rfl;exact .inl ehc;exact .inr ehc⟩) ⟨⟨by show 1≤1+mo;omega,by show 1+mo≤10;omega⟩,by show 1≤(1:Int)∧(1:Int)≤9000;decide,by show 1≤(1:Int)∧(1:Int)≤9000;decide⟩
     exact q _ _ t8 (len t8)
    ·exact iteN c5 (q _ _ t6 l6)
   ·exact iteN (fun z=>c2 (V.int.inj z)) (q _ _ t6 l6)
end
end K52
namespace K52
open PySem L2 PyProof.Rows
section
variable {P:Program} {w:World} {K:PySem.W.Frag} {mg:Str→Option Value} {base:Heap} {t:Ad}
def bndN:List Int:=[6,4,6,32,32,32,32,32,32,32,32]
theorem bndN_pos:∀ b ∈ bndN,0 < b∧b≤1000000:=by decide
def sp__law_news (K:PySem.W.Frag):Sp:=fun vs H Q _=>∃ (sc:Addr) (cs:List Int) (ex:Int),vs=[.ref sc,.int ex]∧SqL K H sc (cs.map V.int)∧cs.length≤100∧0≤ex∧ex≤100∧∀ (r nl hl:Addr) (H':Hp) (os:List Int) (ds:List (Addr × Nd)),Same H H'→SqT K H' r [.ref hl,.int (ds.length:Nat),.ref nl]→NrAt K H' nl ds→NkOk os ds.length ds→H' hl=some (.lst (os.map V.int))→HsOk os→os.length=8→1≤ds.length→ds.length≤6→Q (.ref r) H'
theorem sc__law_news:FnScope ["script","extra","first","head","many","houses","near","cell"] ["script","extra"] (defScope s__law_news):=⟨rfl,rfl,rfl,by decide +kernel,rfl,by decide +kernel,by decide +kernel⟩
set_option maxHeartbeats 2000000 in
theorem ok__law_news (F:Site K mg "_law_news" s__law_news) (T:Txt K mg t) (D__law_cell_at:Def P w K mg base 1 "_law_cell_at" ["script","k"] (sp__law_cell_at K)) (D__law_mixed:Def P w K mg base 1 "_law_mixed" ["cell","k"] sp__law_mixed) (D__law_drawn:Def P w K mg base 2 "_law_drawn" ["cell","bounds"] (sp__law_drawn K)) (D__law_houses:Def P w K mg base 1 "_law_houses" ["drawn"] (sp__law_houses K)) (D__law_told:Def P w K mg base 3 "_law_told" ["near","houses","cell","many","plain"] (sp__law_told K)):Def P w K mg base 4 "_law_news" ["script","extra"] (sp__law_news K):=by
 refine F.def sc__law_news (fun _ _ _ _ _ _ us hl=>match us,hl with | [_,_],_=>rfl) (fun vs H Q E h=>?_) (fun f cdv A outer s H vs Q E hr h=>?_)
 ·obtain ⟨sc,cs,ex,rfl,_⟩:=h
  rfl
 ·obtain ⟨sc,cs,ex,rfl,hS,cl,x0,x1,q⟩:=h
  refine ⟨_,pss_cons (ps_set (i:=2) sc__law_news.nd rfl (Or.inr rfl) (pe_def (D__law_cell_at.mono (by decide)) hr passN (pa_cons (pv 0) (pa_cons pe_int pa_nil))))
   (pss_cons (ps_set (i:=3) sc__law_news.nd rfl (Or.inl rfl) (pe_def (D__law_drawn.mono (by decide)) hr passN (pa_cons (pv 2) (pa_cons (pe_op (op_catK K) (pe_lst (pa_cons pe_int (pa_cons pe_int (pa_cons pe_int pa_nil)))) (pe_op op_rep (pe_lst (pa_cons pe_int pa_nil)) pe_int)) pa_nil))))
   (pss_cons (ps_set (i:=4) sc__law_news.nd rfl (Or.inl rfl) (pe_op op_add pe_int (pe_ix (ix_listK K) (pv 3) pe_int (fun _ _=>rfl))))
   (pss_cons (ps_set (i:=5) sc__law_news.nd rfl (Or.inl rfl) (pe_def (D__law_houses.mono (by decide)) hr passN (pa_cons (pe_slice (sl_listK K) (pv 3) (po_some pe_int) po_none) pa_nil)))
   (pss_cons (ps_setLC (i:=6) sc__law_news.nd rfl (Or.inl rfl) rfl (Nc:=["k"]) (ix:=[none]) (cscope (defScope s__law_news) ["script","extra","first","head","many","houses","near","cell"] rfl rfl (by decide +kernel)) (pi_range1 (by rfl) T.n_range (pa_cons (pv 4) pa_nil)) (fun C fp s H=>⟨(pg_name (i:=0) (show (["k"]:List Str).Nodup by decide +kernel) rfl (Or.inl rfl)),pts_nil,pe_dnewK⟩))
   (pss_cons (PS.nox (ps_for PassesOwn.never rfl (pi_listK K (pe_op (op_catK K) (pe_slice (sl_listK K) (pv 0) (po_some pe_int) (po_some pe_int)) (pe_lc rfl (Nc:=["k","first"]) (ix:=[none,some 2]) (cscope (defScope s__law_news) ["script","extra","first","head","many","houses","near","cell"] rfl rfl (by decide +kernel)) (pi_range1 (by rfl) T.n_range (pa_cons (pe_op op_add (pe_ix (ix_listK K) (pv 3) pe_int (fun _ _=>rfl)) (pv 1)) pa_nil)) (fun C fp s H=>⟨(pg_name (i:=0) (show (["k","first"]:List Str).Nodup by decide +kernel) rfl (Or.inl rfl)),pts_nil,(pe_def (D__law_mixed.mono (by decide)) hr passN (pa_cons (pv 1) (pa_cons (pe_op op_add pe_int (pv 0)) pa_nil)))⟩)))) (pg_name (i:=7) sc__law_news.nd rfl (Or.inl rfl))
    (pss_one (ps_if (pt_cmpR op_gt (pv 4) pe_int (nomark _))
     (pss_one (ps_expr (pe_def (D__law_told.mono (by decide)) hr passN (pa_cons (pv 6) (pa_cons (pv 5) (pa_cons (pv 7) (pa_cons (pv 4) (pa_cons (pe_cmpR op_eq (pe_ix (ix_listK K) (pv 3) pe_int (fun _ _=>rfl)) pe_int (nomark _)) pa_nil))))))))
     (pss_nil)))))
   (pss_one (ps_ret (pe_tup (pa_cons (pv 5) (pa_cons (pv 4) (pa_cons (pv 6) pa_nil))))))))))),?_⟩
  have hsz:(2000:Nat)≤sizeLine:=by decide
  refine ⟨_,rfl,sc,cs,0,rfl,hS,by decide,fun fi=>?_⟩
  refine ⟨_,rfl,by show 3≤sizeLine;decide,fun p1 hp1=>⟨by show 1≤sizeLine;decide,fun p2 hp2=>⟨p2,8,_,rfl,rfl,upd_same,by decide,by decide,by decide,fun p3 hp3=>?_⟩⟩⟩
  have s3:=(((Same.refl H).new (o:=.lst [.int 6,.int 4,.int 6]) hp1).new (o:=.lst [.int 32]) hp2).new (o:=.lst (List.replicate (8:Int).toNat [V.int 32]).flatten) hp3
  refine ⟨p1,p3,_,_,rfl,rfl,SqL.of (by rw [upd_ne (ne_of_none (by rw [upd_ne (ne_of_none upd_same hp2)];exact upd_same) hp3),upd_ne (ne_of_none upd_same hp2)];exact upd_same),SqL.of upd_same,by decide,fun p4 hp4=>?_⟩
  have s4:=s3.new (o:=.lst ([V.int 6,.int 4,.int 6] ++ (List.replicate (8:Int).toNat [V.int 32]).flatten)) hp4
  refine ⟨fi,p4,bndN,rfl,upd_same,by decide,bndN_pos,fun hd H5 ms s5 nh e5 dk=>?_⟩
  have S5:=s4.trans s5
  have mlen:ms.length=11:=dk.1
  obtain ⟨m0,em0⟩:∃ m,ms[0]?=some m:=⟨ms[0],by simp [mlen]⟩
  obtain ⟨m1,em1⟩:∃ m,ms[1]?=some m:=⟨ms[1],by simp [mlen]⟩
  obtain ⟨m2,em2⟩:∃ m,ms[2]?=some m:=⟨ms[2],by simp [mlen]⟩
  have k0:=dk.2 0 _ _ em0 rfl
  have k2:=dk.2 2 _ _ em2 rfl
  have at':∀ {k:Nat} {m:Int},ms[k]?=some m→atI (ms.map V.int) (k:Int)=some (V.int m):=fun h=>atI_nat (by rw [List.getElem?_map,h];rfl)
  refine ⟨_,rfl,hd,_,_,.int m0,rfl,rfl,SqL.of e5,at' em0,_,_,rfl,rfl,?_⟩
  obtain ⟨many,hmany⟩:∃ many:Nat,1+m0=(many:Int):=⟨(1+m0).toNat,by omega⟩
  refine ⟨_,rfl,_,rfl,hd,_,rfl,SqL.of e5,fun p6 hp6=>?_⟩
  rw [cutV_sn (by decide),← List.map_drop]
  have s6:=(Same.refl H5).new (o:=.lst ((ms.drop (3:Int).toNat).map V.int)) hp6
  have e6:(upd H5 p6 (.lst ((ms.drop (3:Int).toNat).map V.int))) p6=some (.lst ((ms.drop (3:Int).toNat).map V.int)):=upd_same
  generalize upd H5 p6 (.lst ((ms.drop (3:Int).toNat).map V.int))=H6 at s6 e6 ⊢
  have dl8:(ms.drop (3:Int).toNat).length=8:=by rw [List.length_drop,mlen];rfl
  refine ⟨p6,_,rfl,e6,by omega,fun hl H7 os s7 nhl e7 ol hos=>?_⟩
  rw [dl8] at ol
  have S7:=S5.trans (s6.trans s7)
  have hd7:=(s6.trans s7) _ _ e5
  dsimp only
  rw [hmany]
  have mn:1≤many∧many≤6:=by omega
  refine ⟨_,rfl,(many:Int),rfl,by omega,by omega,fun nl hnl=>?_⟩
  have nl0:H nl=none:=S7.free hnl
  refine lc_range (lo:=0) (n:=((many:Nat):Int).toNat) (fun i σ H'=>∃ (v:Option V) (ds:List (Addr × Nd)),σ=[v]∧Same H7 H'∧H' nl=some (.lst (ds.map fun x=>V.ref x.1))∧ds.length=i∧(∀ x ∈ ds,x.2=[]∧H' x.1=some (.dK [])∧H7 x.1=none)∧(ds.map (·.1)).Nodup) ⟨none,[],rfl,(Same.refl _).new hnl,upd_same,rfl,fun x hx=>absurd hx List.not_mem_nil,List.nodup_nil⟩ ?_ ?_
  ·rintro i σ H8 N hN hi ⟨v,ds,rfl,s8,e8,dl,hd8,nd8⟩
   refine turn_do ?_
   refine fun p hp=>?_
   have np:nl≠p:=ne_of_none e8 hp
   refine ⟨_,by rw [upd_ne np];exact e8,by rw [List.length_map];omega,hN _ _ ⟨_,ds ++ [(p,[])],rfl,(s8.new hp).put hnl,by rw [upd_same,List.map_append];rfl,by rw [List.length_append,dl];rfl,fun x hx=>?_,?_⟩⟩
   ·rcases List.mem_append.mp hx with h | h
    ·obtain ⟨a1,a2,a3⟩:=hd8 x h
     have n1:x.1≠nl:=ne_of a2 e8 (by intro z;cases z)
     have n2:x.1≠p:=ne_of_none a2 hp
     exact ⟨a1,by rw [upd_ne n1,upd_ne n2];exact a2,a3⟩
    ·rw [List.mem_singleton.mp h]
     exact ⟨rfl,by rw [upd_ne (Ne.symm np)];exact upd_same,s8.free hp⟩
   ·rw [List.map_append]
    refine List.nodup_append.mpr ⟨nd8,by simp,fun a ha b hb=>?_⟩
    rw [List.mem_singleton.mp hb]
    obtain ⟨x,hx,rfl⟩:=List.mem_map.mp ha
    exact ne_of_none (hd8 x hx).2.1 hp
  rintro σ H8 ⟨v,ds,rfl,s8,e8,dl,hd8,nd8⟩
  have dl':ds.length=many:=by omega
  have S8:=S7.trans s8
  have nr8:NrAt K H8 nl ds:=⟨e8,fun x hx=>by
   obtain ⟨a1,a2,_⟩:=hd8 x hx
   exact ⟨by rw [a1];exact a2,by rw [a1];exact List.nodup_nil,fun p hp=>by rw [a1] at hp;exact absurd hp List.not_mem_nil⟩,nd8⟩
  have nk8:NkOk os ds.length ds:=fun k x hx p hp=>by
   rw [(hd8 x (List.mem_of_getElem? hx)).1] at hp
   exact absurd hp List.not_mem_nil
  have fr:∀ b ∈ ds.map (·.1),H b=none:=fun b hb=>by
   obtain ⟨x,hx,rfl⟩:=List.mem_map.mp hb
   exact S7.free (hd8 x hx).2.2
  have tl8:Tl K nl hl os (ds.map (·.1)) H8 H8 ds:=⟨fun b o _ e=>e,nr8,rfl,nk8,s8 _ _ e7⟩
  refine ⟨_,rfl,_,rfl,_,rfl,sc,_,rfl,S8.seq hS,fun sl hsl=>?_⟩
  obtain ⟨ys,ey,_,yl⟩:=cut_ints cs (some 1) (some 31)
  rw [ey]
  have s9:=(Same.refl H8).new (o:=.lst (ys.map V.int)) hsl
  have e9:(upd H8 sl (.lst (ys.map V.int))) sl=some (.lst (ys.map V.int)):=upd_same
  generalize upd H8 sl (.lst (ys.map V.int))=H9 at s9 e9 ⊢
  refine ⟨_,rfl,hd,_,_,.int m2,rfl,rfl,SqL.of ((s8.trans s9) _ _ hd7),at' em2,_,rfl,_,_,rfl,rfl,_,rfl,by omega,by omega,fun D hD=>?_⟩
  refine lc_range (lo:=0) (n:=(m2+ex).toNat) (fun i σ H'=>∃ (v:Option V) (zs:List Int),σ=[v,some (.int fi)]∧Same H9 H'∧H' D=some (.lst (zs.map V.int))∧zs.length=i) ⟨none,[],rfl,(Same.refl _).new hD,upd_same,rfl⟩ ?_ ?_
  ·rintro i σ HA N hN hi ⟨v,zs,rfl,sA,eA,zl⟩
   refine turn_do ?_
   refine ⟨_,rfl,_,rfl,_,_,rfl,rfl,fi,_,rfl,by omega,by omega,fun m _=>?_⟩
   exact ⟨_,eA,by rw [List.length_map];omega,hN _ _ ⟨_,zs ++ [m],rfl,sA.put hD,by rw [upd_same,List.map_append];rfl,by rw [List.length_append,zl];rfl⟩⟩
  rintro σ HA ⟨v,zs,rfl,sA,eA,zl⟩
  refine ⟨sl,D,_,_,rfl,rfl,SqL.of (sA _ _ e9),SqL.of eA,by rw [List.length_map,List.length_map];omega,fun pl hpl=>?_⟩
  rw [← List.map_append]
  have sB:=(s9.trans sA).new (o:=.lst ((ys ++ zs).map V.int)) hpl
  have eB:(upd HA pl (.lst ((ys ++ zs).map V.int))) pl=some (.lst ((ys ++ zs).map V.int)):=upd_same
  generalize upd HA pl (.lst ((ys ++ zs).map V.int))=HB at sB eB ⊢
  generalize ys ++ zs=cells at eB ⊢
  have tlB:=tl8.same sB
  have notS:∀ {b:Addr} {l:List V},HB b=some (.lst l)→b ∉ ds.map (·.1):=fun e hb=>by
   obtain ⟨x,hx,rfl⟩:=List.mem_map.mp hb
   have:=sB _ _ (hd8 x hx).2.1
   rw [e] at this
   cases this
  have hdB:=(s8.trans sB) _ _ hd7
  let I:Nat→_→_→Prop:=fun i σ H'=>∃ (es:List (Addr × Nd)) (v7:Option V),σ=[some (.ref sc),some (.int ex),some (.int fi),some (.ref hd),some (.int (many:Nat)),some (.ref hl),some (.ref nl),v7]∧Tl K nl hl os (ds.map (·.1)) HB H' es
  refine ⟨pl,rfl,⟨_,SqL.of eB⟩,for_list (K:=K) (a:=pl) (xs:=cells.map V.int) I ⟨ds,none,rfl,⟨fun b o _ e=>e,tlB.r,tlB.e,tlB.k,tlB.h⟩⟩ (fun i σ H' _ ⟨_,_,_,t⟩=>SqL.of (t.m _ _ (notS eB) eB)) ?_ ?_⟩
  ·rintro i y σ HC hi ⟨es,v7,rfl,tC⟩
   obtain ⟨c,_,rfl⟩:=item_of hi
   have el:es.length=many:=by
    have:=congrArg List.length tC.e
    rw [List.length_map,List.length_map] at this
    omega
   refine ⟨_,rfl,_,_,rfl,rfl,_,rfl,?_⟩
   by_cases c1:(1:Int) < (many:Nat)
   ·refine iteY c1 ?_
    refine ⟨_,rfl,_,rfl,_,rfl,_,rfl,_,rfl,hd,_,_,.int m1,rfl,rfl,SqL.of (tC.m _ _ (notS hdB) hdB),at' em1,rfl,?_⟩
    refine ⟨nl,hl,c,_,os,es,(by rw [el];exact rfl),⟨fun b o _ e=>e,tC.r,rfl,tC.k,tC.h⟩,ol,by omega,by omega,fun HD fs tD fl=>?_⟩
    refine ⟨fs,_,rfl,⟨fun b o nb e=>tD.m b o (by rw [tC.e];exact nb) (tC.m b o nb e),tD.r,by rw [tD.e,tC.e],tD.k,tD.h⟩⟩
   ·exact iteN c1 ⟨es,_,rfl,tC⟩
  ·rintro σ HC ⟨es,v7,rfl,tC⟩
   have el:es.length=many:=by
    have:=congrArg List.length tC.e
    rw [List.length_map,List.length_map] at this
    omega
   refine ⟨_,rfl,_,rfl,_,rfl,by show 3≤sizeLine;decide,fun r hr=>?_⟩
   have sD:=(Same.refl HC).new (o:=.tup [.ref hl,.int (many:Nat),.ref nl]) hr
   have sC:Same H HC:=fun b o e=>tC.m b o (fun hb=>by rw [fr b hb] at e;cases e) (S8.trans sB b o e)
   refine q r nl hl _ os es (sC.trans sD) (by rw [el];exact SqT.of upd_same) (tC.r.same sD) tC.k (sD _ _ tC.h) hos ol (by omega) (by omega)
end
end K52
namespace K52
open PySem L2 PyProof.Rows
section
variable {P:Program} {w:World} {K:PySem.W.Frag} {mg:Str→Option Value} {base:Heap} {t:Ad}
theorem Allow.in {os:List Int} {many k:Nat} {h:Int} (a:Allow os many k h):h ∈ ((List.range many).filter fun j=>decide (j≠k)).map (fun j=>os.getD j 0) ++ (if many < 5 then [os.getD 6 0,os.getD 7 0] else []):=by
 have gd:∀ {j:Nat},os[j]?=some h→os.getD j 0=h:=fun e=>by rw [List.getD_eq_getElem?_getD,e];rfl
 rcases a with ⟨j,jm,jk,e⟩ | ⟨m5,e | e⟩
 ·exact List.mem_append_left _ (List.mem_map.mpr ⟨j,List.mem_filter.mpr ⟨List.mem_range.mpr jm,by simpa using jk⟩,gd e⟩)
 ·exact List.mem_append_right _ (by rw [if_pos m5,gd e];exact List.mem_cons_self)
 ·exact List.mem_append_right _ (by rw [if_pos m5,gd e];exact List.mem_cons_of_mem _ List.mem_cons_self)
theorem flt_len:∀ many:Nat,many≤6→∀ k:Nat,k < many→((List.range many).filter fun j=>decide (j≠k)).length+(if many < 5 then 2 else 0)≤5:=by decide
theorem NkOk.five {os:List Int} {many:Nat} {ds:List (Addr × Nd)} (h:NkOk os many ds) (m6:many≤6) {k:Nat} (km:k < many) {x:Addr × Nd} (hx:ds[k]?=some x) (nd:(x.2.map (·.1)).Nodup):x.2.length≤5:=by
 have:=pigeonW _ (x.2.map (·.1)) nd fun y hy=>by
  obtain ⟨p,hp,rfl⟩:=List.mem_map.mp hy
  exact (h k x hx p hp).1.in
 rw [List.length_map,List.length_append,List.length_map] at this
 have f:=flt_len many m6 k km
 by_cases c:many < 5
 ·rw [if_pos c] at this f
  have:([os.getD 6 0,os.getD 7 0]:List Int).length=2:=rfl
  omega
 ·rw [if_neg c] at this f
  have:([]:List Int).length=0:=rfl
  omega
theorem Allow.ne {os:List Int} (ok:HsOk os) {many k:Nat} (m6:many≤6) (km:k < many) {h g:Int} (a:Allow os many k h) (e:os[k]?=some g):h≠g:=by
 have uq:∀ {i j:Nat},os[i]?=some h→os[j]?=some g→i≠j→h≠g:=fun {i j} e1 e2 ne z=>by
  obtain ⟨i1,i2⟩:=List.getElem?_eq_some_iff.mp e1
  obtain ⟨j1,j2⟩:=List.getElem?_eq_some_iff.mp e2
  have p:=List.pairwise_iff_getElem.mp ok.nd
  rcases Nat.lt_or_gt_of_ne ne with c | c
  ·exact p i j i1 j1 c (by rw [i2,j2,z])
  ·exact p j i j1 i1 c (by rw [i2,j2,z])
 rcases a with ⟨j,jm,jk,e1⟩ | ⟨m5,e1 | e1⟩
 ·exact uq e1 e jk
 ·exact uq e1 e (by omega)
 ·exact uq e1 e (by omega)
end
end K52
namespace K52
open PySem L2 PyProof.Rows
section
variable {P:Program} {w:World} {K:PySem.W.Frag} {mg:Str→Option Value} {base:Heap} {t:Ad}
def wrN (p:Int × V × Ne):Wr:=⟨p.1,p.2.2.q,p.2.2.a,p.2.2.b⟩
structure ToldM (os:List Int) (ds:List (Addr × Nd)) (n:Int) (k:Nat) (N:Nw):Prop where
 h:os[k]?=some N.h
 n:N.n=n
 w:∃ x,ds[k]?=some x∧N.near.Perm (x.2.map wrN)
structure MapOf (os:List Int) (ds:List (Addr × Nd)) (ms:Ms):Prop where
 l:ms.length=ds.length
 t:∀ (k:Nat) (m:V × Nw),ms[k]?=some m→ToldM os ds 1 k m.2
theorem Same.thaw {H0 H2:Hp} {a:Addr} {u o:HO} (h:H0 a=some o) (s:Same (upd H0 a u) H2):Same H0 (upd H2 a o):=fun b p e=>by
 by_cases c:b=a
 ·subst c
  rw [upd_same,← h,e]
 ·rw [upd_ne c]
  exact s b p (by rw [upd_ne c];exact e)
theorem NTu.dx {H:Hp} {a:Addr} {kvs:List (Key × V)} {u:HO} (ok:DxOk P w a kvs u) (h:H a=some u):NTu H a:=fun ys e=>by
 obtain ⟨_,_,_,_,_,rfl⟩:=ok
 rcases e with e | ⟨u,e⟩ <;> (rw [h] at e;cases e)
theorem wr_dat {K:PySem.W.Frag} {H:Hp} {p r:Addr} {w:Wr} (h1:SqT K H r [.int w.o,.int w.q,.ref p]) (h2:SqT K H p [.int w.a,.int w.b]):WAt K H (.ref r) w:=by
 refine .tup h1 rfl fun i v d e1 e2=>?_
 match i with
 | 0=>cases e1;cases e2;exact .int _
 | 1=>cases e1;cases e2;exact .int _
 | 2 =>
  cases e1;cases e2
  refine .tup h2 rfl fun i v d e1 e2=>?_
  match i with
  | 0=>cases e1;cases e2;exact .int _
  | 1=>cases e1;cases e2;exact .int _
  | i+2=>simp at e1
 | i+3=>simp at e1
theorem ne_out {K:PySem.W.Frag} {H:Hp} {n:Nat} {v:V} {e:Ne} (h:IsDat K H (n+2) v (neD e)):∃ a p,v=.ref a∧SqT K H a [.int e.q,.ref p]∧SqT K H p [.int e.a,.int e.b]:=by
 obtain ⟨a,xs,rfl,h1,h2,h3⟩:=dTup h
 match xs,h2 with
 | [x,y],_ =>
  obtain rfl:=dInt (h3 0 x _ rfl rfl)
  obtain ⟨p,ys,rfl,g1,g2,g3⟩:=dTup (h3 1 y _ rfl rfl)
  match ys,g2 with
  | [x,y],_ =>
   obtain rfl:=dInt (g3 0 x _ rfl rfl)
   obtain rfl:=dInt (g3 1 y _ rfl rfl)
   exact ⟨a,p,rfl,h1,g1⟩
theorem get_n {d:Nd} (nd:(d.map (·.1)).Nodup) {p:Int × V × Ne} (hp:p ∈ d):getN d p.1=some p:=by
 unfold getN
 cases e:d.find? fun q=>decide (q.1=p.1) with
 | none=>exact absurd (List.find?_eq_none.mp e p hp) (by simp)
 | some q =>
  have h1:=List.mem_of_find?_eq_some e
  have h2:q.1=p.1:=by simpa using List.find?_some e
  congr 1
  obtain ⟨i,il,rfl⟩:=List.getElem_of_mem h1
  obtain ⟨j,jl,rfl⟩:=List.getElem_of_mem hp
  have:i=j:=(List.getElem_inj (xs:=d.map (·.1)) (h₀:=by simpa using il) (h₁:=by simpa using jl) nd).mp (by simpa using h2)
  subst this
  rfl
theorem told_ok {os:List Int} {ds:List (Addr × Nd)} (hos:HsOk os) (nk:NkOk os ds.length ds) (d6:ds.length≤6) {k:Nat} {x:Addr × Nd} (hx:ds[k]?=some x) (nd:(x.2.map (·.1)).Nodup) {h n:Int} (hh:os[k]?=some h) (n0:0≤n) (n1:n≤900000):NwOk ⟨h,n,x.2.map wrN,[]⟩:=by
 have kl:k < ds.length:=(List.getElem?_eq_some_iff.mp hx).1
 refine ⟨hos.b h (List.mem_of_getElem? hh),⟨n0,n1⟩,⟨fun w hw=>?_,?_,?_,?_⟩,?_⟩
 ·obtain ⟨p,hp,rfl⟩:=List.mem_map.mp hw
  obtain ⟨a,e⟩:=nk k x hx p hp
  exact ⟨hos.b _ a.mem,e.1,e.2.1,e.2.2⟩
 ·show (x.2.map wrN).length≤5
  rw [List.length_map]
  exact nk.five d6 kl hx nd
 ·show ((x.2.map wrN).map (·.o)).Nodup
  rw [List.map_map]
  exact nd
 ·show h ∉ (x.2.map wrN).map (·.o)
  rw [List.map_map]
  intro hm
  obtain ⟨p,hp,e⟩:=List.mem_map.mp hm
  exact (nk k x hx p hp).1.ne hos d6 kl hh e
 ·exact ⟨by show 0≤4;decide,List.nodup_nil,fun n hn=>absurd hn List.not_mem_nil⟩
def sp__law_map (K:PySem.W.Frag) (C:Addr):Sp:=fun vs H Q _=>∃ (nl hl:Addr) (os:List Int) (ds:List (Addr × Nd)),vs=[.ref hl,.int (ds.length:Nat),.ref nl]∧NrAt K H nl ds∧NkOk os ds.length ds∧H hl=some (.lst (os.map V.int))∧HsOk os∧os.length=8∧1≤ds.length∧ds.length≤6∧∀ (x d:Addr) (H':Hp) (ms:Ms),Same H H'→H x=none→H d=none→MpAt K C H' x d ms→MapOf os ds ms→Q (.ref x) H'
theorem sc__law_map:FnScope ["houses","many","near","known","k","told"] ["houses","many","near"] (defScope s__law_map):=⟨rfl,rfl,rfl,by decide +kernel,rfl,by decide +kernel,by decide +kernel⟩
set_option maxHeartbeats 2000000 in
theorem ok__law_map {fi fh:FuncData} (F:Site K mg "_law_map" s__law_map) (T:Txt K mg t) (F_init:FnOk P w K mg base (CX1 P w) 1 t.init fi ["self"] (sp_init K t.Map)) (B_init:Binds K fi ["self"] [])
  (F_hear:FnOk P w K mg base (CX1 P w) 1 t.m_hear fh ["self","news"] (sp_hear K t.Map)) (B_hear:Binds K fh ["self","news"] []) (D_made_news:Def P w K mg base 5 "made_news" ["house","number","near","names"] (sp_made_news K t.BadNews)):Def P w K mg base 6 "_law_map" ["houses","many","near"] (sp__law_map K t.Map):=by
 refine F.def sc__law_map (fun _ _ _ _ _ _ us hl=>match us,hl with | [_,_,_],_=>rfl) (fun vs H Q E h=>?_) (fun f cdv A outer s H vs Q E hr h=>?_)
 ·obtain ⟨nl,hl,os,ds,rfl,_⟩:=h
  rfl
 ·obtain ⟨nl,hl,os,ds,rfl,nr,nk,hh,hos,ol,d1,d6,q⟩:=h
  refine ⟨_,pss_cons (ps_set (i:=3) sc__law_map.nd rfl (Or.inl rfl) (pe_make0 T.kMap (F_init.mono (by decide)) hr (by rfl) T.mMap B_init .nil passN))
   (pss_cons (PS.nox (ps_for PassesOwn.never rfl (pi_range1 (by rfl) T.n_range (pa_cons (pv 1) pa_nil)) (pg_name (i:=4) sc__law_map.nd rfl (Or.inr rfl))
    (pss_cons (ps_thaw P w (ps_setLC (i:=5) sc__law_map.nd rfl (Or.inl rfl) rfl (Nc:=["other","near","k"]) (ix:=[none,some 2,some 4]) (cscope (defScope s__law_map) ["houses","many","near","known","k","told"] rfl rfl (by decide +kernel)) (pi_dictK P w (pe_ix (ix_listK K) (pv 2) (pv 4) (fun _ _=>rfl))) (fun C fp s H=>⟨(pg_name (i:=0) (show (["other","near","k"]:List Str).Nodup by decide +kernel) rfl (Or.inl rfl)),pts_nil,(pe_tup (pa_cons (pv 0) (pa_cons (pe_ix (ix_tupK K) (pe_dgetX P w (pe_ix (ix_listK K) (pv 1) (pv 2) (fun _ _=>rfl)) (pv 0) (fun _ _=>rfl)) pe_int (fun _ _=>rfl)) (pa_cons (pe_ix (ix_tupK K) (pe_dgetX P w (pe_ix (ix_listK K) (pv 1) (pv 2) (fun _ _=>rfl)) (pv 0) (fun _ _=>rfl)) pe_int (fun _ _=>rfl)) pa_nil))))⟩)))
    (pss_one (ps_expr (pe_meth (pv 3) T.cMap T.me_hear (F_hear.mono (by decide)) hr B_hear .nil passN (pa_cons (pe_def (D_made_news.mono (by decide)) hr passN (pa_cons (pe_ix (ix_listK K) (pv 0) (pv 4) (fun _ _=>rfl)) (pa_cons pe_int (pa_cons (pv 5) (pa_cons (pe_lst pa_nil) pa_nil))))) pa_nil)))))))
   (pss_one (ps_ret (pv 3)))),?_⟩
  have hsz:(2000:Nat)≤sizeLine:=by decide
  refine fun tw tx htw htx hne=>?_
  have s1:Same H (upd (upd H tx (.own tw)) tw (.ins t.Map tx [])):=by
   have z:(upd H tx (.own tw)) tw=none:=by rw [upd_ne (Ne.symm hne)];exact htw
   exact ((Same.refl H).new htx).new z
  refine ⟨tw,tx,rfl,upd_same,fun td H2 htd m2 hM2=>⟨rfl,?_⟩⟩
  have htd0:H td=none:=s1.free htd
  have s2:Same H H2:=fun b o e=>m2 b o (fun z=>by rw [List.mem_singleton.mp z,htw] at e;cases e) (s1 b o e)
  let I:Nat→_→_→Prop:=fun i σ H'=>∃ (v4 v5:Option V) (ms:Ms),σ=[some (.ref hl),some (.int (ds.length:Nat)),some (.ref nl),some (.ref tw),v4,v5]∧Same H H'∧MpAt K t.Map H' tw td ms∧ms.length=i∧∀ (k:Nat) (m:V × Nw),ms[k]?=some m→ToldM os ds 1 k m.2
  refine ⟨_,rfl,((ds.length:Nat):Int),rfl,by omega,by omega,?_⟩
  refine for_range (lo:=0) (n:=((ds.length:Nat):Int).toNat) I ⟨none,none,[],rfl,s2,hM2,rfl,fun k m hm=>by cases hm⟩ ?_ ?_
  ·rintro i σ H3 hi ⟨v4,v5,ms,rfl,s3,hM3,ml,hms⟩
   have il:i < ds.length:=by omega
   obtain ⟨x,ex⟩:∃ x,ds[i]?=some x:=⟨ds[i],by simp [il]⟩
   obtain ⟨h,eh⟩:∃ h,os[i]?=some h:=⟨os[i]'(by omega),by simp [show i < os.length by omega]⟩
   have nr3:=nr.same s3
   have hx3:=nr3.d x (List.mem_of_getElem? ex)
   have ata:atI (ds.map fun x=>V.ref x.1) (0+(i:Nat):Int)=some (.ref x.1):=by
    rw [show (0+(i:Nat):Int)=(i:Nat) by omega]
    exact atI_nat (by rw [List.getElem?_map,ex];rfl)
   have ato:atI (os.map V.int) (0+(i:Nat):Int)=some (.int h):=by
    rw [show (0+(i:Nat):Int)=(i:Nat) by omega]
    exact atI_nat (by rw [List.getElem?_map,eh];rfl)
   have xl:x.2.length≤5:=nk.five d6 il ex hx3.nd
   refine ⟨_,rfl,_,rfl,nl,_,_,.ref x.1,rfl,rfl,SqL.of nr3.l,ata,x.1,_,rfl,hx3.d,fun u ok D hD=>?_⟩
   have hu:(upd H3 x.1 u) x.1=some u:=upd_same
   have nlx:nl≠x.1:=ne_of nr3.l hx3.d (by intro z;cases z)
   have hn4:(upd H3 x.1 u) nl=some (.lst (ds.map fun x=>V.ref x.1)):=by rw [upd_ne nlx];exact nr3.l
   have kz:=kept_of (o:=u) (NTu.dk hx3.d)
   have hv4:∀ p ∈ x.2,IsDat K (upd H3 x.1 u) 3 p.2.1 (neD p.2.2):=fun p hp=>(hx3.v p hp).kept kz (noL_ne _)
   have th:∀ {H5:Hp},Same (upd H3 x.1 u) H5→Same H3 (upd H5 x.1 (.dK (x.2.map kvN))):=fun s=>Same.thaw hx3.d s
   generalize upd H3 x.1 u=H4 at hu hn4 hv4 th hD ⊢
   refine lc_dict (d:=x.1) (u:=u) (kvs:=x.2.map kvN) (fun j σ H'=>∃ (v:Option V) (zs:List (V × Wr)),σ=[v,some (.ref nl),some (.int (0+(i:Nat)))]∧Same H4 H'∧H' D=some (.lst (zs.map (·.1)))∧WsAt K H' zs∧zs.map (·.2)=(x.2.take j).map wrN) ⟨none,[],rfl,(Same.refl _).new hD,upd_same,fun z hz=>absurd hz List.not_mem_nil,rfl⟩ (fun j σ H' _ ⟨_,_,_,s,_⟩=>s _ _ hu) ?_ ?_
   ·rintro j k v σ H5 N hN hj ⟨v0,zs,rfl,s5,e5,w5,m5⟩
    rw [List.getElem?_map] at hj
    cases ep:x.2[j]? with
    | none=>rw [ep] at hj;cases hj
    | some p =>
     rw [ep] at hj
     cases hj
     have hp:=List.mem_of_getElem? ep
     have jl:j < x.2.length:=(List.getElem?_eq_some_iff.mp ep).1
     have vv:valV (x.2.map kvN) (Sum.inl p.1)=some p.2.1:=by rw [val_n,get_n hx3.nd hp];rfl
     obtain ⟨r,pp,ev,g1,g2⟩:=ne_out ((hv4 p hp).same s5)
     refine turn_do ?_
     refine ⟨_,rfl,_,rfl,_,rfl,nl,_,_,.ref x.1,rfl,rfl,SqL.of (s5 _ _ hn4),ata,_,rfl,x.1,_,u,Sum.inl p.1,p.2.1,rfl,s5 _ _ hu,ok,rfl,vv,r,_,_,.int p.2.2.q,ev,rfl,g1,rfl,?_⟩
     refine ⟨_,rfl,_,rfl,nl,_,_,.ref x.1,rfl,rfl,SqL.of (s5 _ _ hn4),ata,_,rfl,x.1,_,u,Sum.inl p.1,p.2.1,rfl,s5 _ _ hu,ok,rfl,vv,r,_,_,.ref pp,ev,rfl,g1,rfl,by show 3≤sizeLine;decide,fun tp htp=>?_⟩
     have s6:=(Same.refl H5).new (o:=.tup [kV (Sum.inl p.1),.int p.2.2.q,.ref pp]) htp
     have dn:WAt K (upd H5 tp (.tup [kV (Sum.inl p.1),.int p.2.2.q,.ref pp])) (.ref tp) (wrN p):=wr_dat (p:=pp) (SqT.of upd_same) (s6.tup g2)
     generalize upd H5 tp (.tup [kV (Sum.inl p.1),.int p.2.2.q,.ref pp])=H6 at s6 dn
     have e6:=s6 _ _ e5
     have kp:=kept_of (o:=.lst (zs.map (·.1) ++ [V.ref tp])) (NTu.lst e6)
     have zl:zs.length≤5:=by
      have:=congrArg List.length m5
      rw [List.length_map,List.length_map,List.length_take] at this
      omega
     refine ⟨_,e6,by rw [List.length_map];omega,hN _ _ ⟨_,zs ++ [(.ref tp,wrN p)],rfl,(s5.trans s6).put hD,by rw [upd_same,List.map_append];rfl,fun z hz=>?_,by rw [List.map_append,m5,take_succ ep,List.map_append];rfl⟩⟩
     rcases List.mem_append.mp hz with h | h
     ·exact ((w5 z h).same s6).kept kp
     ·rw [List.mem_singleton.mp h];exact dn.kept kp
   ·rintro σ H5 ⟨v0,zs,rfl,s5,e5,w5,m5⟩
    rw [List.length_map,List.take_length] at m5
    have kp:=kept_of (o:=.dK (x.2.map kvN)) (NTu.dx ok (s5 _ _ hu))
    have nDx:D≠x.1:=(ne_of_none hu hD).symm
    have S5:=th s5
    have e5':(upd H5 x.1 (.dK (x.2.map kvN))) D=some (.lst (zs.map (·.1))):=by rw [upd_ne nDx];exact e5
    have w5':WsAt K (upd H5 x.1 (.dK (x.2.map kvN))) zs:=w5.kept kp
    refine ⟨x.1,_,u,ok,s5 _ _ hu,?_⟩
    generalize upd H5 x.1 (.dK (x.2.map kvN))=H6 at S5 e5' w5' ⊢
    have zl:zs.length≤5:=by
     have:=congrArg List.length m5
     rw [List.length_map,List.length_map] at this
     omega
    have hM6:=hM3.same S5
    obtain ⟨dw,hw⟩:=hM6.o
    have wok:=told_ok hos nk d6 ex hx3.nd eh (n:=1) (by decide) (by decide)
    refine ⟨_,rfl,tw,dw,_,rfl,hw,rfl,_,rfl,_,rfl,hl,_,_,.int h,rfl,rfl,SqL.of ((s3.trans S5) _ _ hh),ato,_,rfl,by show 0≤sizeLine;decide,fun el hel=>?_⟩
    have s7:=(Same.refl H6).new (o:=.lst []) hel
    refine ⟨true,true,D,el,zs,⟨h,1,x.2.map wrN,[]⟩,rfl,SqL.of (s7 _ _ e5'),w5'.same s7,m5,SqL.of upd_same,.of (by have:=wok.1.1;have:0≤h:=this;omega) (by have:=wok.1.2;have:h < 32:=this;omega),.of (by show -(10 ^ 60)≤(1:Int);decide) (by show (1:Int)≤10 ^ 60;decide),by omega,fun z hz=>?_,by show 0≤60;decide,fun n hn=>absurd hn List.not_mem_nil,fun _ r H7 s8 hN=>?_,fun z=>absurd wok z⟩
    ·have:z.2 ∈ x.2.map wrN:=by rw [← m5];exact List.mem_map.mpr ⟨z,hz,rfl⟩
     exact (wok.2.2.1.1 _ this).sml
    obtain ⟨ws,ns,pw,pn,en⟩:=nwD_raw ⟨h,1,x.2.map wrN,[]⟩
    obtain rfl:=pn.eq_nil
    rw [en] at hN
    have S7:=s7.trans s8
    have hM7:=hM6.same S7
    have hno:h ∉ hs ms:=fun hm=>by
     obtain ⟨m,hm,e⟩:=List.mem_map.mp hm
     obtain ⟨k,kl,rfl⟩:=List.getElem_of_mem hm
     have e2:=(hms k ms[k] (by simp)).h
     rw [e] at e2
     obtain ⟨a1,a2⟩:=List.getElem?_eq_some_iff.mp e2
     obtain ⟨b1,b2⟩:=List.getElem?_eq_some_iff.mp eh
     have:=List.pairwise_iff_getElem.mp hos.nd k i a1 b1 (by omega)
     exact this (by rw [a2,b2])
    refine ⟨tw,td,ms,.ref r,⟨h,1,ws,[]⟩,rfl,hM7,hN,by omega,fun _ H8 m8 hM8=>?_,fun z=>absurd (fun n hn e=>absurd (List.mem_map.mpr ⟨n,hn,e⟩) hno) z⟩
    have ep:putM ms (.ref r) ⟨h,1,ws,[]⟩=ms ++ [(.ref r,⟨h,1,ws,[]⟩)]:=by
     unfold putM
     rw [if_neg hno]
    rw [ep] at hM8
    have S:=(s3.trans S5).trans S7
    refine ⟨_,_,_,rfl,fun b o e=>m8 b o (fun z=>by rw [List.mem_singleton.mp z,htd0] at e;cases e) (S b o e),hM8,by rw [List.length_append,ml];rfl,fun k m hm=>?_⟩
    by_cases c:k < ms.length
    ·rw [List.getElem?_append_left c] at hm
     exact hms k m hm
    ·have hlt:=(List.getElem?_eq_some_iff.mp hm).1
     rw [List.length_append] at hlt
     have e:k=ms.length:=by simp at hlt;omega
     rw [e,List.getElem?_append_right (Nat.le_refl _),Nat.sub_self] at hm
     cases hm
     rw [e,ml]
     exact ⟨eh,rfl,x,ex,pw⟩
  ·rintro σ H3 ⟨v4,v5,ms,rfl,s3,hM3,ml,hms⟩
   exact ⟨_,rfl,q tw td H3 ms s3 htw htd0 hM3 ⟨by omega,hms⟩⟩
end
end K52
namespace K52
open PySem L2 PyProof.Rows
section
variable {P:Program} {w:World} {K:PySem.W.Frag} {mg:Str→Option Value} {base:Heap} {t:Ad}
def Ent (D:Nat→Option (Addr × Nd)) (k:Nat) (h:Int) (e:Ne):Prop:=∃ x,D k=some x∧∃ v,(h,v,e) ∈ x.2
structure MapF (os:List Int) (D:Nat→Option (Addr × Nd)) (ms:Ms):Prop where
 n:(hs ms).Nodup
 t:∀ (k:Nat) (m:V × Nw),ms[k]?=some m→os[k]?=some m.2.h∧∃ x,D k=some x∧m.2.near.Perm (x.2.map wrN)
 b:∀ (k:Nat),k < ms.length↔(D k).isSome=true
def StD (os:List Int) (D:Nat→Option (Addr × Nd)) (t:T3):Prop:=t.1 < t.2.1∧∃ (i j:Nat) (e1 e2:Ne),os[i]?=some t.1∧os[j]?=some t.2.1∧Ent D i t.2.1 e1∧Ent D j t.1 e2∧e1.a=e2.a∧e1.b=e2.b∧t.2.2=max e1.q e2.q
theorem MapF.stands {os:List Int} {D:Nat→Option (Addr × Nd)} {ms:Ms} (h:MapF os D ms) (t:T3):Stands ms t↔StD os D t:=by
 have fwd:∀ {m:V × Nw} {w:Wr},m ∈ ms→w ∈ m.2.near→∃ (i:Nat) (e:Ne),os[i]?=some m.2.h∧Ent D i w.o e∧e.a=w.a∧e.b=w.b∧e.q=w.q:=fun {m w} hm hw=>by
  obtain ⟨i,il,rfl⟩:=List.getElem_of_mem hm
  obtain ⟨h1,x,h2,h3⟩:=h.t i ms[i] (by simp)
  obtain ⟨p,hp,rfl⟩:=List.mem_map.mp (h3.mem_iff.mp hw)
  exact ⟨i,p.2.2,h1,⟨x,h2,p.2.1,hp⟩,rfl,rfl,rfl⟩
 have bwd:∀ {i:Nat} {g o:Int} {e:Ne},os[i]?=some g→Ent D i o e→∃ m ∈ ms,∃ w ∈ m.2.near,m.2.h=g∧w.o=o∧w.a=e.a∧w.b=e.b∧w.q=e.q:=fun {i g o e} hg he=>by
  obtain ⟨x,h1,v,h2⟩:=he
  have il:=(h.b i).mpr (by rw [h1];rfl)
  obtain ⟨g1,y,g2,g3⟩:=h.t i ms[i] (by simp)
  rw [h1] at g2
  cases g2
  rw [hg] at g1
  cases g1
  exact ⟨ms[i],List.getElem_mem il,wrN (o,v,e),g3.mem_iff.mpr (List.mem_map.mpr ⟨_,h2,rfl⟩),rfl,rfl,rfl,rfl,rfl⟩
 unfold Stands StD
 refine and_congr_right fun _=>?_
 constructor
 ·rintro ⟨m1,h1,m2,h2,w1,g1,w2,g2,a1,a2,a3,a4,a5,a6,a7⟩
  obtain ⟨i,e1,b1,b2,b3,b4,b5⟩:=fwd h1 g1
  obtain ⟨j,e2,c1,c2,c3,c4,c5⟩:=fwd h2 g2
  exact ⟨i,j,e1,e2,by rw [b1,a1],by rw [c1,a2],a3 ▸ b2,a4 ▸ c2,by omega,by omega,by rw [a7,b5,c5]⟩
 ·rintro ⟨i,j,e1,e2,a1,a2,a3,a4,a5,a6,a7⟩
  obtain ⟨m1,h1,w1,g1,b1,b2,b3,b4,b5⟩:=bwd a1 a3
  obtain ⟨m2,h2,w2,g2,c1,c2,c3,c4,c5⟩:=bwd a2 a4
  exact ⟨m1,h1,m2,h2,w1,g1,w2,g2,b1,c1,b2,c2,by omega,by omega,by rw [a7,b5,c5]⟩
theorem MapOf.f {os:List Int} {ds:List (Addr × Nd)} {ms:Ms} (h:MapOf os ds ms) (nd:(hs ms).Nodup):MapF os (fun k=>ds[k]?) ms:=by
 refine ⟨nd,fun k m hm=>⟨(h.t k m hm).h,(h.t k m hm).w⟩,fun k=>?_⟩
 rw [h.l]
 simp
theorem MapF.ok {os:List Int} {D:Nat→Option (Addr × Nd)} {ms:Ms} (h:MapF os D ms) (hd:∀ k x,D k=some x→(x.2.map (·.1)).Nodup∧x.2.length≤5∧∀ p ∈ x.2,EnOk p.2.2):MsOk ms∧WqOk ms:=by
 constructor
 ·intro m hm
  obtain ⟨i,il,rfl⟩:=List.getElem_of_mem hm
  obtain ⟨h1,x,h2,h3⟩:=h.t i ms[i] (by simp)
  obtain ⟨d1,d2,_⟩:=hd i x h2
  refine ⟨?_,by rw [h3.length_eq,List.length_map];exact d2⟩
  refine (h3.map (·.o)).nodup_iff.mpr ?_
  rw [List.map_map]
  exact d1
 ·intro m hm w hw
  obtain ⟨i,il,rfl⟩:=List.getElem_of_mem hm
  obtain ⟨h1,x,h2,h3⟩:=h.t i ms[i] (by simp)
  obtain ⟨p,hp,rfl⟩:=List.mem_map.mp (h3.mem_iff.mp hw)
  exact ((hd i x h2).2.2 p hp).1
theorem os_uniq {os:List Int} (ok:HsOk os) {i j:Nat} {h:Int} (e1:os[i]?=some h) (e2:os[j]?=some h):i=j:=by
 obtain ⟨i1,i2⟩:=List.getElem?_eq_some_iff.mp e1
 obtain ⟨j1,j2⟩:=List.getElem?_eq_some_iff.mp e2
 exact (List.getElem_inj (h₀:=i1) (h₁:=j1) ok.nd).mp (by rw [i2,j2])
theorem get_mem {d:Nd} {h:Int} {q:Int × V × Ne} (e:getN d h=some q):q ∈ d∧q.1=h:=⟨List.mem_of_find?_eq_some e,by simpa using List.find?_some e⟩
theorem p2_dat {K:PySem.W.Frag} {H:Hp} {n:Nat} {p:Addr} {a b:Int} (h:SqT K H p [.int a,.int b]):IsDat K H (n+1) (.ref p) (.tuple [.int a,.int b]):=by
 refine .tup h rfl fun i v d e1 e2=>?_
 match i with
 | 0=>cases e1;cases e2;exact .int _
 | 1=>cases e1;cases e2;exact .int _
 | i+2=>simp at e1
theorem p2_eqv (a b c d:Int):PyData.eqv (.tuple [.int a,.int b]) (.tuple [.int c,.int d])=decide (a=c∧b=d):=by
 simp [PyData.eqv,PyData.eqvAll]
 rfl
end
end K52
namespace K52
open PySem L2 PyProof.Rows
section
variable {P:Program} {w:World} {K:PySem.W.Frag} {mg:Str→Option Value} {base:Heap} {t:Ad}
def wireAt (os:List Int) (ds:List (Addr × Nd)) (a b:Nat):Option T3 :=
 (os[a]?).bind fun ha=>(os[b]?).bind fun hb=>(ds[a]?).bind fun xa=>(ds[b]?).bind fun xb =>
  if ha < hb then (getN xa.2 hb).bind fun p=>(getN xb.2 ha).bind fun q=>if p.2.2.a=q.2.2.a∧p.2.2.b=q.2.2.b then some (ha,hb,if q.2.2.q > p.2.2.q then q.2.2.q else p.2.2.q) else none else none
theorem wireAt_eq {os:List Int} {ds:List (Addr × Nd)} {a b:Nat} {ha hb:Int} {xa xb:Addr × Nd} (e1:os[a]?=some ha) (e2:os[b]?=some hb) (e3:ds[a]?=some xa) (e4:ds[b]?=some xb):wireAt os ds a b=if ha < hb then (getN xa.2 hb).bind fun p=>(getN xb.2 ha).bind fun q=>if p.2.2.a=q.2.2.a∧p.2.2.b=q.2.2.b then some (ha,hb,if q.2.2.q > p.2.2.q then q.2.2.q else p.2.2.q) else none else none:=by
 unfold wireAt
 rw [e1,e2,e3,e4]
 rfl
theorem wireAt_some {os:List Int} {ds:List (Addr × Nd)} {a b:Nat} {t:T3} (h:wireAt os ds a b=some t):os[a]?=some t.1∧os[b]?=some t.2.1∧t.1 < t.2.1∧∃ e1 e2,Ent (fun k=>ds[k]?) a t.2.1 e1∧Ent (fun k=>ds[k]?) b t.1 e2∧e1.a=e2.a∧e1.b=e2.b∧t.2.2=max e1.q e2.q:=by
 unfold wireAt at h
 obtain ⟨ha,e1,h⟩:=Option.bind_eq_some_iff.mp h
 obtain ⟨hb,e2,h⟩:=Option.bind_eq_some_iff.mp h
 obtain ⟨xa,e3,h⟩:=Option.bind_eq_some_iff.mp h
 obtain ⟨xb,e4,h⟩:=Option.bind_eq_some_iff.mp h
 by_cases c:ha < hb
 ·rw [if_pos c] at h
  obtain ⟨p,g1,h⟩:=Option.bind_eq_some_iff.mp h
  obtain ⟨q,g2,h⟩:=Option.bind_eq_some_iff.mp h
  by_cases c2:p.2.2.a=q.2.2.a∧p.2.2.b=q.2.2.b
  ·rw [if_pos c2] at h
   cases h
   obtain ⟨m1,n1⟩:=get_mem g1
   obtain ⟨m2,n2⟩:=get_mem g2
   refine ⟨e1,e2,c,p.2.2,q.2.2,⟨xa,e3,p.2.1,?_⟩,⟨xb,e4,q.2.1,?_⟩,c2.1,c2.2,?_⟩
   ·rw [← n1];exact m1
   ·rw [← n2];exact m2
   ·show (if q.2.2.q > p.2.2.q then q.2.2.q else p.2.2.q)=max p.2.2.q q.2.2.q
    split <;> omega
  ·rw [if_neg c2] at h
   cases h
 ·rw [if_neg c] at h
  cases h
theorem wireAt_of {os:List Int} {ds:List (Addr × Nd)} (nd:∀ (k:Nat) x,ds[k]?=some x→(x.2.map (·.1)).Nodup) {a b:Nat} {t:T3} (e1:os[a]?=some t.1) (e2:os[b]?=some t.2.1) (lt:t.1 < t.2.1) {n1 n2:Ne} (h1:Ent (fun k=>ds[k]?) a t.2.1 n1) (h2:Ent (fun k=>ds[k]?) b t.1 n2) (ea:n1.a=n2.a) (eb:n1.b=n2.b) (el:t.2.2=max n1.q n2.q):wireAt os ds a b=some t:=by
 obtain ⟨xa,e3,v1,m1⟩:=h1
 obtain ⟨xb,e4,v2,m2⟩:=h2
 rw [wireAt_eq e1 e2 e3 e4,if_pos lt]
 have g1:=get_n (nd a xa e3) m1
 have g2:=get_n (nd b xb e4) m2
 rw [show getN xa.2 t.2.1=some (t.2.1,v1,n1) from g1,show getN xb.2 t.1=some (t.1,v2,n2) from g2]
 show (if n1.a=n2.a∧n1.b=n2.b then some (t.1,t.2.1,if n2.q > n1.q then n2.q else n1.q) else none)=some t
 rw [if_pos ⟨ea,eb⟩]
 congr 1
 refine Prod.ext rfl (Prod.ext rfl ?_)
 show (if n2.q > n1.q then n2.q else n1.q)=t.2.2
 rw [el]
 split <;> omega
def wirRow (os:List Int) (ds:List (Addr × Nd)) (a j:Nat):List T3:=(List.range j).filterMap (wireAt os ds a)
def wirAll (os:List Int) (ds:List (Addr × Nd)) (i m:Nat):List T3:=(List.range i).flatMap fun a=>wirRow os ds a m
theorem wirRow_len (os:List Int) (ds:List (Addr × Nd)) (a j:Nat):(wirRow os ds a j).length≤j:=by
 unfold wirRow
 exact Nat.le_trans (List.length_filterMap_le ..) (by rw [List.length_range];exact Nat.le_refl _)
theorem wirAll_succ (os:List Int) (ds:List (Addr × Nd)) (i m:Nat):wirAll os ds (i+1) m=wirAll os ds i m ++ wirRow os ds i m:=by
 unfold wirAll
 rw [List.range_succ,List.flatMap_append]
 simp
theorem wirAll_len (os:List Int) (ds:List (Addr × Nd)) (m:Nat):∀ i,(wirAll os ds i m).length≤i * m
 | 0=>by simp [wirAll]
 | i+1=>by
  rw [wirAll_succ,List.length_append,Nat.succ_mul]
  have:=wirAll_len os ds m i
  have:=wirRow_len os ds i m
  omega
theorem wirRow_succ (os:List Int) (ds:List (Addr × Nd)) (a j:Nat):wirRow os ds a (j+1)=wirRow os ds a j ++ (wireAt os ds a j).toList:=by
 unfold wirRow
 rw [List.range_succ,List.filterMap_append]
 congr 1
theorem wirAll_mem {os:List Int} {ds:List (Addr × Nd)} (nd:∀ (k:Nat) x,ds[k]?=some x→(x.2.map (·.1)).Nodup) (t:T3):t ∈ wirAll os ds ds.length ds.length↔StD os (fun k=>ds[k]?) t:=by
 unfold wirAll wirRow
 rw [List.mem_flatMap]
 constructor
 ·rintro ⟨a,ha,h⟩
  obtain ⟨b,hb,h⟩:=List.mem_filterMap.mp h
  obtain ⟨h1,h2,h3,e1,e2,h4,h5,h6,h7,h8⟩:=wireAt_some h
  exact ⟨h3,a,b,e1,e2,h1,h2,h4,h5,h6,h7,h8⟩
 ·rintro ⟨lt,a,b,e1,e2,h1,h2,h3,h4,h5,h6,h7⟩
  have al:∀ {k:Nat} {h:Int} {e:Ne},Ent (fun k=>ds[k]?) k h e→k < ds.length:=fun ⟨x,z,_⟩=>(List.getElem?_eq_some_iff.mp z).1
  exact ⟨a,List.mem_range.mpr (al h3),List.mem_filterMap.mpr ⟨b,List.mem_range.mpr (al h4),wireAt_of nd h1 h2 lt h3 h4 h5 h6 h7⟩⟩
theorem wirAll_pw {os:List Int} (hos:HsOk os) (ds:List (Addr × Nd)) (m:Nat) (i:Nat):(wirAll os ds i m).Pairwise fun s t=>(s.1,s.2.1)≠(t.1,t.2.1):=by
 unfold wirAll wirRow
 rw [List.pairwise_flatMap]
 constructor
 ·intro a _
  rw [List.pairwise_filterMap]
  refine List.nodup_range.imp fun {b c} hbc s hs t ht e=>hbc ?_
  have h1:=(wireAt_some hs).2.1
  have h2:=(wireAt_some ht).2.1
  rw [(Prod.mk.inj e).2] at h1
  exact os_uniq hos h1 h2
 ·refine List.nodup_range.imp fun {a c} hac s hs t ht e=>hac ?_
  obtain ⟨b,_,hs⟩:=List.mem_filterMap.mp hs
  obtain ⟨b',_,ht⟩:=List.mem_filterMap.mp ht
  have h1:=(wireAt_some hs).1
  have h2:=(wireAt_some ht).1
  rw [(Prod.mk.inj e).1] at h1
  exact os_uniq hos h1 h2
def sp__law_wires (K:PySem.W.Frag):Sp:=fun vs H Q _=>∃ (nl hl:Addr) (os:List Int) (ds:List (Addr × Nd)),vs=[.ref hl,.int (ds.length:Nat),.ref nl]∧NrAt K H nl ds∧H hl=some (.lst (os.map V.int))∧HsOk os∧os.length=8∧ds.length≤6∧∀ (r:Addr) (H':Hp) (ts:List T3),Same H H'→WlAt K H' r ts→(∀ t,t ∈ ts↔StD os (fun k=>ds[k]?) t)→(ts.Pairwise fun s t=>keyT s < keyT t)→ts.length≤36→Q (.ref r) H'
theorem sc__law_wires:FnScope ["houses","many","near","found","a","b","one","other"] ["houses","many","near"] (defScope s__law_wires):=⟨rfl,rfl,rfl,by decide +kernel,rfl,by decide +kernel,by decide +kernel⟩
set_option maxHeartbeats 2000000 in
theorem ok__law_wires (F:Site K mg "_law_wires" s__law_wires) (T:Txt K mg t):Def P w K mg base 1 "_law_wires" ["houses","many","near"] (sp__law_wires K):=by
 refine F.def sc__law_wires (fun _ _ _ _ _ _ us hl=>match us,hl with | [_,_,_],_=>rfl) (fun vs H Q E h=>?_) (fun f cdv A outer s H vs Q E hr h=>?_)
 ·obtain ⟨nl,hl,os,ds,rfl,_⟩:=h
  rfl
 ·obtain ⟨nl,hl,os,ds,rfl,nr,hh,hos,ol,d6,q⟩:=h
  refine ⟨_,pss_cons (ps_set (i:=3) sc__law_wires.nd rfl (Or.inl rfl) (pe_lst pa_nil))
   (pss_cons (PS.nox (ps_for PassesOwn.never rfl (pi_range1 (by rfl) T.n_range (pa_cons (pv 1) pa_nil)) (pg_name (i:=4) sc__law_wires.nd rfl (Or.inl rfl))
    (pss_one (ps_for PassesOwn.never rfl (pi_range1 (by rfl) T.n_range (pa_cons (pv 1) pa_nil)) (pg_name (i:=5) sc__law_wires.nd rfl (Or.inl rfl))
     (pss_one (ps_if (PW.pt (pw_and (pt_cmpR op_lt (pe_ix (ix_listK K) (pv 0) (pv 4) (fun _ _=>rfl)) (pe_ix (ix_listK K) (pv 0) (pv 5) (fun _ _=>rfl)) (nomark _)) (pw_and (pt_cmp (pc_din (hu_of hr) (pe_ix (ix_listK K) (pv 0) (pv 5) (fun _ _=>rfl)) (pe_ix (ix_listK K) (pv 2) (pv 4) (fun _ _=>rfl))) (by rfl)) (pw_and1 (pt_cmp (pc_din (hu_of hr) (pe_ix (ix_listK K) (pv 0) (pv 4) (fun _ _=>rfl)) (pe_ix (ix_listK K) (pv 2) (pv 5) (fun _ _=>rfl))) (by rfl))))))
      (pss_cons (ps_set (i:=6) sc__law_wires.nd rfl (Or.inl rfl) (pe_dget (hu_of hr) (pe_ix (ix_listK K) (pv 2) (pv 4) (fun _ _=>rfl)) (pe_ix (ix_listK K) (pv 0) (pv 5) (fun _ _=>rfl)) (fun _ _=>rfl)))
      (pss_cons (ps_set (i:=7) sc__law_wires.nd rfl (Or.inl rfl) (pe_dget (hu_of hr) (pe_ix (ix_listK K) (pv 2) (pv 5) (fun _ _=>rfl)) (pe_ix (ix_listK K) (pv 0) (pv 4) (fun _ _=>rfl)) (fun _ _=>rfl)))
      (pss_one (ps_if (pt_cmpR (op_eqD K (hu16 hr)) (pe_ix (ix_tupK K) (pv 6) pe_int (fun _ _=>rfl)) (pe_ix (ix_tupK K) (pv 7) pe_int (fun _ _=>rfl)) (nomark _))
       (pss_one (ps_expr (pe_bmK K PySem.F.plainAttrs_list PySem.F.slot_list_append PySem.F.type_list_append mt_append (pv 3) (pa_cons (pe_tup (pa_cons (pe_ix (ix_listK K) (pv 0) (pv 4) (fun _ _=>rfl)) (pa_cons (pe_ix (ix_listK K) (pv 0) (pv 5) (fun _ _=>rfl)) (pa_cons (pe_callB (call_max2 rfl) (by rfl) T.n_max boot_max (pa_cons (pe_ix (ix_tupK K) (pv 6) pe_int (fun _ _=>rfl)) (pa_cons (pe_ix (ix_tupK K) (pv 7) pe_int (fun _ _=>rfl)) pa_nil))) pa_nil)))) pa_nil))))
       (pss_nil)))))
      (pss_nil)))))))
   (pss_one (ps_ret (pe_callB (call_sorted K (hu16 hr)) (by rfl) T.n_sorted boot_sorted (pa_cons (pv 3) pa_nil))))),?_⟩
  have hsz:(2000:Nat)≤sizeLine:=by decide
  refine ⟨by show 0≤sizeLine;decide,fun fo hfo=>?_⟩
  have s0:=(Same.refl H).new (o:=.lst []) hfo
  have e0:(upd H fo (.lst [])) fo=some (.lst []):=upd_same
  generalize upd H fo (.lst [])=H0 at s0 e0 ⊢
  have nds:∀ (k:Nat) x,ds[k]?=some x→(x.2.map (·.1)).Nodup:=fun k x h=>(nr.d x (List.mem_of_getElem? h)).nd
  have ata:∀ {k:Nat} {x:Addr × Nd},ds[k]?=some x→atI (ds.map fun x=>V.ref x.1) (0+(k:Nat):Int)=some (V.ref x.1):=fun {k x} h=>by
   rw [show (0+(k:Nat):Int)=(k:Nat) by omega]
   exact atI_nat (by rw [List.getElem?_map,h];rfl)
  have ato:∀ {k:Nat} {h:Int},os[k]?=some h→atI (os.map V.int) (0+(k:Nat):Int)=some (V.int h):=fun {k h'} h=>by
   rw [show (0+(k:Nat):Int)=(k:Nat) by omega]
   exact atI_nat (by rw [List.getElem?_map,h];rfl)
  let I:Nat→_→_→Prop:=fun i σ H'=>∃ (zs:List (V × T3)) (v4 v5 v6 v7:Option V),σ=[some (.ref hl),some (.int (ds.length:Nat)),some (.ref nl),some (.ref fo),v4,v5,v6,v7]∧Same H H'∧H' fo=some (.lst (zs.map (·.1)))∧TsAt K H' zs∧zs.map (·.2)=wirAll os ds i ds.length
  refine ⟨_,rfl,((ds.length:Nat):Int),rfl,by omega,by omega,?_⟩
  refine for_range (lo:=0) (n:=((ds.length:Nat):Int).toNat) I ⟨[],none,none,none,none,rfl,s0,e0,fun z hz=>absurd hz List.not_mem_nil,rfl⟩ ?_ ?_
  ·rintro i σ H1 hi ⟨zs,v4,v5,v6,v7,rfl,s1,e1,t1,m1⟩
   have il:i < ds.length:=by omega
   let J:Nat→_→_→Prop:=fun j σ H'=>∃ (zs:List (V × T3)) (v5 v6 v7:Option V),σ=[some (.ref hl),some (.int (ds.length:Nat)),some (.ref nl),some (.ref fo),some (.int (0+(i:Nat))),v5,v6,v7]∧Same H H'∧H' fo=some (.lst (zs.map (·.1)))∧TsAt K H' zs∧zs.map (·.2)=wirAll os ds i ds.length ++ wirRow os ds i j
   refine ⟨_,rfl,((ds.length:Nat):Int),rfl,by omega,by omega,?_⟩
   refine for_range (lo:=0) (n:=((ds.length:Nat):Int).toNat) J ⟨zs,_,_,_,rfl,s1,e1,t1,by rw [m1];simp [wirRow]⟩ ?_ ?_
   ·rintro j σ H2 hj ⟨zs,v5,v6,v7,rfl,s2,e2,t2,m2⟩
    have jl:j < ds.length:=by omega
    obtain ⟨xa,exa⟩:∃ x,ds[i]?=some x:=⟨ds[i],by simp [il]⟩
    obtain ⟨xb,exb⟩:∃ x,ds[j]?=some x:=⟨ds[j],by simp [jl]⟩
    obtain ⟨ha,eha⟩:∃ h,os[i]?=some h:=⟨os[i],by simp [show i < os.length by omega]⟩
    obtain ⟨hb,ehb⟩:∃ h,os[j]?=some h:=⟨os[j],by simp [show j < os.length by omega]⟩
    have nr2:=nr.same s2
    have hh2:=s2 _ _ hh
    have dA:=nr2.d xa (List.mem_of_getElem? exa)
    have dB:=nr2.d xb (List.mem_of_getElem? exb)
    have gA:DGet H2 xa.1 (.int hb) ((getN xa.2 hb).map (·.2.1)):=by
     have:=DGet.k (k:=Sum.inl hb) dA.d
     rw [val_n] at this
     exact this
    have gB:DGet H2 xb.1 (.int ha) ((getN xb.2 ha).map (·.2.1)):=by
     have:=DGet.k (k:=Sum.inl ha) dB.d
     rw [val_n] at this
     exact this
    have wa:=wireAt_eq (os:=os) eha ehb exa exb
    have stay:∀ {v6 v7:Option V},wireAt os ds i j=none→J (j+1) [some (.ref hl),some (.int (ds.length:Nat)),some (.ref nl),some (.ref fo),some (.int (0+(i:Nat))),some (.int (0+(j:Nat))),v6,v7] H2:=fun h=>⟨zs,_,_,_,rfl,s2,e2,t2,by rw [m2,wirRow_succ,h];simp⟩
    refine ⟨_,rfl,_,rfl,hl,_,_,.int ha,rfl,rfl,SqL.of hh2,ato eha,_,rfl,_,rfl,hl,_,_,.int hb,rfl,rfl,SqL.of hh2,ato ehb,_,_,rfl,rfl,_,rfl,?_⟩
    by_cases c:ha < hb
    ·refine iteY c ?_
     rw [if_pos c] at wa
     refine ⟨_,rfl,_,rfl,hl,_,_,.int hb,rfl,rfl,SqL.of hh2,ato ehb,_,rfl,_,rfl,nl,_,_,.ref xa.1,rfl,rfl,SqL.of nr2.l,ata exa,xa.1,_,rfl,gA,?_⟩
     cases eA:getN xa.2 hb with
     | none =>
      rw [eA] at wa
      exact ⟨false,rfl,iteF (stay wa)⟩
     | some p =>
      rw [eA] at wa gA
      refine ⟨true,rfl,iteT ?_⟩
      refine ⟨_,rfl,_,rfl,hl,_,_,.int ha,rfl,rfl,SqL.of hh2,ato eha,_,rfl,_,rfl,nl,_,_,.ref xb.1,rfl,rfl,SqL.of nr2.l,ata exb,xb.1,_,rfl,gB,?_⟩
      cases eB:getN xb.2 ha with
      | none =>
       rw [eB] at wa
       exact ⟨false,rfl,iteF (stay wa)⟩
      | some p2 =>
       rw [eB] at wa gB
       obtain ⟨ma,na⟩:=get_mem eA
       obtain ⟨mb,nb⟩:=get_mem eB
       obtain ⟨ra,qa,va,ga1,ga2⟩:=ne_out (dA.v p ma)
       obtain ⟨rb,qb,vb,gb1,gb2⟩:=ne_out (dB.v p2 mb)
       refine ⟨true,rfl,iteT ?_⟩
       refine ⟨_,rfl,_,rfl,nl,_,_,.ref xa.1,rfl,rfl,SqL.of nr2.l,ata exa,_,rfl,_,rfl,hl,_,_,.int hb,rfl,rfl,SqL.of hh2,ato ehb,xa.1,p.2.1,rfl,gA,?_⟩
       refine ⟨_,rfl,_,rfl,nl,_,_,.ref xb.1,rfl,rfl,SqL.of nr2.l,ata exb,_,rfl,_,rfl,hl,_,_,.int ha,rfl,rfl,SqL.of hh2,ato eha,xb.1,p2.2.1,rfl,gB,?_⟩
       refine ⟨_,rfl,ra,_,_,.ref qa,va,rfl,ga1,rfl,_,rfl,rb,_,_,.ref qb,vb,rfl,gb1,rfl,?_⟩
       refine ⟨.tuple [.int p.2.2.a,.int p.2.2.b],.tuple [.int p2.2.2.a,.int p2.2.2.b],p2_dat ga2,p2_dat gb2,_,rfl,?_⟩
       have ee:PyData.eqv (.tuple [.int p.2.2.a,.int p.2.2.b]) (.tuple [.int p2.2.2.a,.int p2.2.2.b])=decide (p.2.2.a=p2.2.2.a∧p.2.2.b=p2.2.2.b):=p2_eqv _ _ _ _
       rw [if_neg (by decide),ee]
       have wa:wireAt os ds i j=if p.2.2.a=p2.2.2.a∧p.2.2.b=p2.2.2.b then some (ha,hb,if p2.2.2.q > p.2.2.q then p2.2.2.q else p.2.2.q) else none:=wa
       by_cases c2:p.2.2.a=p2.2.2.a∧p.2.2.b=p2.2.2.b
       ·refine iteY c2 ?_
        rw [if_pos c2] at wa
        refine ⟨_,rfl,.inl ⟨rfl,_,SqL.of e2⟩,_,rfl,_,rfl,hl,_,_,.int ha,rfl,rfl,SqL.of hh2,ato eha,_,rfl,_,rfl,hl,_,_,.int hb,rfl,rfl,SqL.of hh2,ato ehb,?_⟩
        refine ⟨_,rfl,ra,_,_,.int p.2.2.q,va,rfl,ga1,rfl,_,rfl,rb,_,_,.int p2.2.2.q,vb,rfl,gb1,rfl,_,_,rfl,by show 3≤sizeLine;decide,fun tp htp=>?_⟩
        have s3:=(Same.refl H2).new (o:=.tup [.int ha,.int hb,.int (if p2.2.2.q > p.2.2.q then p2.2.2.q else p.2.2.q)]) htp
        have dn:IsDat K (upd H2 tp (.tup [.int ha,.int hb,.int (if p2.2.2.q > p.2.2.q then p2.2.2.q else p.2.2.q)])) 2 (.ref tp) (w3D (ha,hb,if p2.2.2.q > p.2.2.q then p2.2.2.q else p.2.2.q)):=by
         refine .tup (SqT.of upd_same) rfl fun i v d e1 e2=>?_
         match i with
         | 0=>cases e1;cases e2;exact .int _
         | 1=>cases e1;cases e2;exact .int _
         | 2=>cases e1;cases e2;exact .int _
         | i+3=>simp at e1
        generalize upd H2 tp (.tup [.int ha,.int hb,.int (if p2.2.2.q > p.2.2.q then p2.2.2.q else p.2.2.q)])=H3 at s3 dn
        have e3:=s3 _ _ e2
        have zl:zs.length≤100:=by
         have h1:=congrArg List.length m2
         rw [List.length_map,List.length_append] at h1
         have h2:=wirAll_len os ds ds.length i
         have h3:=wirRow_len os ds i j
         have h4:i * ds.length≤6 * 6:=Nat.mul_le_mul (by omega) d6
         omega
        refine ⟨fo,_,_,rfl,rfl,e3,by rw [List.length_map];omega,?_⟩
        have kp:=kept_of (o:=.lst (zs.map (·.1) ++ [V.ref tp])) (NTu.lst e3)
        refine ⟨zs ++ [(.ref tp,(ha,hb,if p2.2.2.q > p.2.2.q then p2.2.2.q else p.2.2.q))],_,_,_,rfl,(s2.trans s3).put hfo,by rw [upd_same,List.map_append];rfl,fun z hz=>?_,by rw [List.map_append,m2,wirRow_succ,wa,List.append_assoc];rfl⟩
        rcases List.mem_append.mp hz with h | h
        ·exact ((t2 z h).same s3).kept kp (noL_t _)
        ·rw [List.mem_singleton.mp h];exact dn.kept kp (noL_t _)
       ·rw [if_neg c2] at wa
        exact iteN c2 (stay wa)
    ·rw [if_neg c] at wa
     exact iteN c (stay wa)
   ·rintro σ H2 ⟨zs,v5,v6,v7,rfl,s2,e2,t2,m2⟩
    have:((ds.length:Nat):Int).toNat=ds.length:=by omega
    rw [this] at m2
    exact ⟨zs,_,_,_,_,rfl,s2,e2,t2,by rw [m2,wirAll_succ]⟩
  ·rintro σ H1 ⟨zs,v4,v5,v6,v7,rfl,s1,e1,t1,m1⟩
   have:((ds.length:Nat):Int).toNat=ds.length:=by omega
   rw [this] at m1
   have zl:zs.length≤36:=by
    have h1:=congrArg List.length m1
    rw [List.length_map] at h1
    have h2:=wirAll_len os ds ds.length ds.length
    have h4:ds.length * ds.length≤6 * 6:=Nat.mul_le_mul d6 d6
    omega
   refine ⟨_,rfl,true,fo,zs.map fun z=>(z.1,w3D z.2),rfl,by rw [List.map_map];exact SqL.of e1,by rw [List.length_map];omega,fun y hy=>?_,by have:=ordT (zs.map (·.2));rw [List.map_map] at this ⊢;exact this,fun ys r2 hp hsr hr2=>?_⟩
   ·obtain ⟨z,hz,rfl⟩:=List.mem_map.mp hy
    exact IsDat.up (t1 z hz) (by decide)
   obtain ⟨vs,hv1,rfl⟩:=perm_back (fun z:V × T3=>(z.1,w3D z.2)) hp zs rfl
   have s7:=(Same.refl H1).new (o:=.lst ((vs.map fun z=>(z.1,w3D z.2)).map (·.1))) hr2
   have pmv:(vs.map (·.2)).Perm (wirAll os ds ds.length ds.length):=by
    have:=hv1.map (·.2)
    rw [m1] at this
    exact this
   refine q r2 _ (vs.map (·.2)) (s1.trans s7) ⟨vs,by rw [upd_same,List.map_map];rfl,fun z hz=>(t1 z (hv1.mem_iff.mp hz)).same s7,rfl⟩ (fun tt=>?_) ?_ (by rw [List.length_map,hv1.length_eq];exact zl)
   ·rw [pmv.mem_iff,wirAll_mem nds]
   ·have pw:(vs.map (·.2)).Pairwise fun s t=>(s.1,s.2.1)≠(t.1,t.2.1):=(pmv.pairwise_iff fun {a b} h=>h.symm).mpr (wirAll_pw hos ds _ _)
    have so:(vs.map (·.2)).Pairwise fun s t=>lesD (w3D t) (w3D s)=false:=by
     rw [List.pairwise_map] at hsr ⊢
     exact hsr
    refine (so.and pw).imp fun {s t} ⟨h1,h2⟩=>?_
    rw [les_t,decide_eq_false_iff_not] at h1
    by_cases h:keyT s < keyT t
    ·exact h
    ·exact absurd (by rw [keyT_inj (List.le_antisymm (List.not_lt.mp h1) (List.not_lt.mp h))]) h2
end
end K52
namespace K52
open PySem L2 PyProof.Rows
section
variable {P:Program} {w:World} {K:PySem.W.Frag} {mg:Str→Option Value} {base:Heap} {t:Ad}
def wlen (L:List (Tk × Int)):List Int→Option Int
 | x :: y :: r=>(lookT L [x,y]).bind fun l=>(wlen L (y :: r)).map (l+·)
 | _=>some 0
theorem wlen_two (L:List (Tk × Int)) (x y:Int) (r:List Int):wlen L (x :: y :: r)=(lookT L [x,y]).bind fun l=>(wlen L (y :: r)).map (l+·):=by rw [wlen]
theorem wlen_one (L:List (Tk × Int)) (x:Int):wlen L [x]=some 0:=by rw [wlen];intro x y r z;cases z
theorem drop2 {α:Type} {l:List α} {i:Nat} {x y:α} (h1:l[i]?=some x) (h2:l[i+1]?=some y):l.drop i=x :: y :: l.drop (i+2)∧l.drop (i+1)=y :: l.drop (i+2):=by
 obtain ⟨i1,rfl⟩:=List.getElem?_eq_some_iff.mp h1
 obtain ⟨i2,rfl⟩:=List.getElem?_eq_some_iff.mp h2
 have e2:l.drop (i+1)=l[i+1] :: l.drop (i+2):=by rw [List.drop_eq_getElem_cons i2]
 exact ⟨by rw [List.drop_eq_getElem_cons i1,e2],e2⟩
def sp_way_length (K:PySem.W.Frag):Sp:=fun vs H Q _=>∃ (td wa:Addr) (L:List (Tk × Int)) (xs:TX) (ws:List Int),vs=[.ref td,.ref wa]∧LnAt K H td L xs∧SqT K H wa (ws.map V.int)∧1≤ws.length∧ws.length≤1000∧∀ H',Same H H'→Q (oV (wlen L ws)) H'
theorem sc_way_length:FnScope ["lengths","way","total","wire"] ["lengths","way"] (defScope s_way_length):=⟨rfl,rfl,rfl,by decide +kernel,rfl,by decide +kernel,by decide +kernel⟩
set_option maxHeartbeats 1000000 in
theorem ok_way_length (F:Site K mg "way_length" s_way_length) (T:Txt K mg t):Def P w K mg base 1 "way_length" ["lengths","way"] (sp_way_length K):=by
 refine F.def sc_way_length (fun _ _ _ _ _ _ us hl=>match us,hl with | [_,_],_=>rfl) (fun vs H Q E h=>?_) (fun f cdv A outer s H vs Q E hr h=>?_)
 ·obtain ⟨td,wa,L,xs,ws,rfl,_⟩:=h
  rfl
 ·obtain ⟨td,wa,L,xs,ws,rfl,hL,hw,w1,wl,q⟩:=h
  refine ⟨_,pss_cons (ps_set (i:=2) sc_way_length.nd rfl (Or.inl rfl) pe_int)
   (pss_cons (PS.nox (ps_for PassesOwn.never rfl (pi_zip2K K (by rfl) T.n_zip (pa_cons (pv 1) (pa_cons (pe_slice (sl_tupA K) (pv 1) (po_some pe_int) po_none) pa_nil))) (pg_name (i:=3) sc_way_length.nd rfl (Or.inl rfl))
    (pss_cons (ps_if (pt_cmpR (op_notInTk K (hu16 hr)) (pv 3) (pv 0) (by rfl))
     (pss_one (ps_ret pe_non))
     (pss_nil))
    (pss_one (ps_aug (i:=2) sc_way_length.nd rfl (Or.inl rfl) (pe_tget K (hu16 hr) (pv 0) (pv 3) (fun _ _=>rfl)) ip_add)))))
   (pss_one (ps_ret (pv 2)))),?_⟩
  refine ⟨_,rfl,_,rfl,_,rfl,wa,_,rfl,hw,fun r H1 s1 hr1=>?_⟩
  rw [cutV_sn (by decide),← List.map_drop] at hr1
  have hr1:SqT K H1 r ((ws.drop 1).map V.int):=hr1
  have dl:((ws.drop 1).map V.int).length=ws.length - 1:=by rw [List.length_map,List.length_drop]
  let I:Nat→_→_→Prop:=fun i σ H'=>∃ (tot:Int) (v3:Option V),σ=[some (.ref td),some (.ref wa),some (.int tot),v3]∧Same H1 H'∧wlen L ws=(wlen L (ws.drop i)).map (tot+·)
  refine ⟨wa,r,rfl,⟨_,s1.tup hw⟩,⟨_,hr1⟩,for_zip2 (K:=K) (a:=wa) (b:=r) (xs:=ws.map V.int) (ys:=(ws.drop 1).map V.int) (by rw [dl,List.length_map];omega) I ⟨0,none,rfl,.refl _,by rw [List.drop_zero];cases wlen L ws <;> simp⟩ (fun i σ H' _ ⟨_,_,_,s,_⟩=>⟨(s1.trans s).tup hw,s.tup hr1⟩) ?_ ?_⟩
  ·rintro i x y p σ H2 hx hy ⟨tot,v3,rfl,s2,e2⟩ hp
   obtain ⟨a,ea,rfl⟩:=item_of hx
   obtain ⟨b,eb,rfl⟩:=item_of hy
   have eb':ws[i+1]?=some b:=by rw [List.getElem?_drop] at eb;rw [Nat.add_comm];exact eb
   obtain ⟨d1,d2⟩:=drop2 ea eb'
   have s3:=(Same.refl H2).new (o:=.tup [.int a,.int b]) hp
   have tk:IsTk K (upd H2 p (.tup [.int a,.int b])) p [a,b]:=⟨.inl ⟨_,_,rfl,SqT.of upd_same⟩⟩
   generalize upd H2 p (.tup [.int a,.int b])=H3 at s3 tk ⊢
   have S3:=s1.trans (s2.trans s3)
   have l3:=hL.same S3
   have td3:TD K H3 td xs:=⟨.inl l3.d,l3.k⟩
   have vt:=val_tx hL.m [a,b]
   refine ⟨_,rfl,_,rfl,td,p,xs,[a,b],rfl,rfl,td3,tk,_,rfl,?_⟩
   rw [if_pos rfl]
   rw [d1,wlen_two] at e2
   by_cases c:[a,b] ∈ xs.map (·.1)
   ·refine iteNN c ?_
    have hs1:(valT xs [a,b]).isSome=true:=by rw [valT_isSome,decide_eq_true c]
    rw [vt,Option.isSome_map] at hs1
    obtain ⟨l,hl⟩:=Option.isSome_iff_exists.mp hs1
    rw [hl] at vt
    refine ⟨_,rfl,_,rfl,_,rfl,td,p,xs,[a,b],.int l,rfl,rfl,td3,tk,vt,_,_,rfl,rfl,?_⟩
    refine ⟨_,_,rfl,s2.trans s3,?_⟩
    rw [e2,hl,d2]
    show ((wlen L (b :: ws.drop (i+2))).map (l+·)).map (tot+·)=_
    rw [Option.map_map]
    congr 1
    funext z
    show tot+(l+z)=tot+l+z
    omega
   ·refine iteNY c ?_
    have hs1:(valT xs [a,b]).isSome=false:=by rw [valT_isSome,decide_eq_false c]
    rw [vt,Option.isSome_map] at hs1
    have hn:lookT L [a,b]=none:=by simpa using hs1
    rw [hn] at e2
    have:=q H3 S3
    rw [e2] at this
    exact this
  ·rintro σ H2 ⟨tot,v3,rfl,s2,e2⟩
   rw [dl] at e2
   have el:ws[ws.length - 1]?=some (ws[ws.length - 1]'(by omega)):=by simp [show ws.length - 1 < ws.length by omega]
   have dd:ws.drop (ws.length - 1)=[ws[ws.length - 1]'(by omega)]:=by
    rw [List.drop_eq_getElem_cons (by omega),List.drop_eq_nil_of_le (by omega)]
   rw [dd,wlen_one] at e2
   have:=q H2 (s1.trans s2)
   rw [e2] at this
   have e:tot+0=tot:=by omega
   refine ⟨_,rfl,?_⟩
   show Q (.int tot) H2
   rw [← e]
   exact this
structure GoesR (ws:List Int) (one other:Int):Prop where
 h:ws[0]?=some one
 l:ws.getLast?=some other
 n:ws.Nodup
def sp_goes_from_to (K:PySem.W.Frag):Sp:=fun vs H Q _=>∃ (wa:Addr) (ws:List Int) (one other:Int),vs=[.ref wa,.int one,.int other]∧SqT K H wa (ws.map V.int)∧ws.length≤1000∧∀ (b:Bool) (H':Hp),Same H H'→(b=true↔GoesR ws one other)→Q (.bl b) H'
theorem sc_goes_from_to:FnScope ["way","one","other"] ["way","one","other"] (defScope s_goes_from_to):=⟨rfl,rfl,rfl,by decide +kernel,rfl,by decide +kernel,by decide +kernel⟩
set_option maxHeartbeats 1000000 in
theorem ok_goes_from_to (F:Site K mg "goes_from_to" s_goes_from_to) (T:Txt K mg t):Def P w K mg base 1 "goes_from_to" ["way","one","other"] (sp_goes_from_to K):=by
 refine F.def sc_goes_from_to (fun _ _ _ _ _ _ us hl=>match us,hl with | [_,_,_],_=>rfl) (fun vs H Q E h=>?_) (fun f cdv A outer s H vs Q E hr h=>?_)
 ·obtain ⟨wa,ws,one,other,rfl,_⟩:=h
  rfl
 ·obtain ⟨wa,ws,one,other,rfl,hw,wl,q⟩:=h
  refine ⟨_,pss_one (ps_ret (pe_and (pe_cmpR op_gt (pe_callB (call_lenK K) (by rfl) T.n_len boot_len (pa_cons (pv 0) pa_nil)) pe_int (nomark _)) (pe_and (pe_cmpR op_eq (pe_ix (ix_tupK K) (pv 0) pe_int (fun _ _=>rfl)) (pv 1) (nomark _)) (pe_and (pe_cmpR op_eq (pe_ix (ix_tupK K) (pv 0) (pe_un un_neg pe_int) (fun _ _=>rfl)) (pv 2) (nomark _)) (pe_one (pe_cmpR op_eq (pe_callB call_lenKS (by rfl) T.n_len boot_len (pa_cons (pe_callTy (call_setK K) (by rfl) T.n_set boot_set (pa_cons (pv 0) pa_nil)) pa_nil)) (pe_callB (call_lenK K) (by rfl) T.n_len boot_len (pa_cons (pv 0) pa_nil)) (nomark _))))))),?_⟩
  have sb:2000 < scanBound:=by decide
  refine ⟨_,rfl,wa,_,rfl,.inr hw,_,_,rfl,rfl,_,rfl,?_⟩
  by_cases c0:(((ws.map V.int).length:Nat):Int) > 0
  ·refine iteY c0 ?_
   rw [List.length_map] at c0
   obtain ⟨a,ea⟩:∃ a,ws[0]?=some a:=⟨ws[0]'(by omega),by simp [show 0 < ws.length by omega]⟩
   refine ⟨_,rfl,wa,_,_,.int a,rfl,rfl,hw,(by have z:=atI_nat (show (ws.map V.int)[0]?=some (V.int a) by rw [List.getElem?_map,ea];rfl);exact z),_,rfl,rfl,_,rfl,?_⟩
   by_cases c1:a=one
   ·refine iteY (congrArg V.int c1) ?_
    subst c1
    obtain ⟨pre,z,rfl⟩:∃ pre z,ws=pre ++ [z]:=⟨ws.dropLast,ws.getLast (by intro e;rw [e] at ea;cases ea),(List.dropLast_concat_getLast _).symm⟩
    have la:atI ((pre ++ [z]).map V.int) (-1)=some (V.int z):=by rw [List.map_append];exact atI_last _ _
    refine ⟨_,rfl,1,rfl,wa,_,_,.int z,rfl,rfl,hw,la,_,rfl,rfl,_,rfl,?_⟩
    by_cases c2:z=other
    ·refine iteY (congrArg V.int c2) ?_
     subst c2
     have hk:SqT K H wa (((pre ++ [z]).map (Sum.inl:Int→Key)).map kV):=by rw [← int_keys];exact hw
     refine ⟨_,rfl,wa,(pre ++ [z]).map Sum.inl,rfl,.inr hk,by rw [List.length_map];omega,fun p hp=>?_⟩
     have s1:=(Same.refl H).new (o:=KSet P w p ((pre ++ [z]).map (Sum.inl:Int→Key)).reverse) hp
     refine ⟨p,_,rfl,upd_same,_,rfl,wa,_,rfl,.inr (s1.tup hw),rfl,?_⟩
     refine q _ _ s1 ?_
     rw [List.length_map]
     have hn:((pre ++ [z]).map (Sum.inl:Int→Key)).reverse.length=(pre ++ [z]).length:=by rw [List.length_reverse,List.length_map]
     rw [decide_eq_true_iff]
     constructor
     ·intro e
      have e:=V.int.inj e
      refine ⟨ea,by simp,int_nodup.mp (nodup_rev.mp ((dd_nodup _).mp (by rw [hn];omega)))⟩
     ·intro g
      have:=(dd_nodup _).mpr (nodup_rev.mpr (int_nodup.mpr g.n))
      rw [this,hn]
    ·refine iteN (fun e=>c2 (V.int.inj e)) (q _ _ (.refl _) ⟨fun e=>(by cases e),fun g=>?_⟩)
     have:=g.l
     rw [List.getLast?_concat] at this
     exact absurd (Option.some.inj this) c2
   ·refine iteN (fun e=>c1 (V.int.inj e)) (q _ _ (.refl _) ⟨fun e=>(by cases e),fun g=>?_⟩)
    have:=g.h
    rw [ea] at this
    exact absurd (Option.some.inj this) c1
  ·refine iteN c0 (q _ _ (.refl _) ⟨fun e=>(by cases e),fun g=>?_⟩)
   rw [List.length_map] at c0
   have:=(List.getElem?_eq_some_iff.mp g.h).1
   omega
end
end K52
namespace K52
open PySem L2 PyProof.Rows
section
variable {P:Program} {w:World} {K:PySem.W.Frag} {mg:Str→Option Value} {base:Heap} {t:Ad}
theorem eqvAll_ints:∀ xs ys:List Int,PyData.eqvAll (xs.map .int) (ys.map .int)=decide (xs=ys)
 | [],[]=>by simp [PyData.eqvAll]
 | [],_ :: _=>by simp [PyData.eqvAll]
 | _ :: _,[]=>by simp [PyData.eqvAll]
 | x :: xs,y :: ys=>by
  have ih:=eqvAll_ints xs ys
  simp only [List.map_cons,PyData.eqvAll,ih,PyData.eqv]
  by_cases c:x=y
  ·subst c;simp
  ·simp [c]
theorem eqv_ints (xs ys:List Int):PyData.eqv (.list (xs.map .int)) (.list (ys.map .int))=decide (xs=ys):=by
 rw [PyData.eqv]
 exact eqvAll_ints xs ys
theorem ints_dat {K:PySem.W.Frag} {H:Hp} {n:Nat} {a:Addr} {xs:List Int} (h:SqL K H a (xs.map V.int)):IsDat K H (n+1) (.ref a) (.list (xs.map .int)):=by
 refine .lst h (by rw [List.length_map,List.length_map]) fun i x d e1 e2=>?_
 rw [List.getElem?_map] at e1 e2
 cases e:xs[i]? with
 | none=>rw [e] at e1;cases e1
 | some o=>rw [e] at e1 e2;cases e1;cases e2;exact .int _
theorem rise_uniq {xs ys:List Int} (h1:xs.Pairwise (· < ·)) (h2:ys.Pairwise (· < ·)) (h:∀ x,x ∈ xs↔x ∈ ys):xs=ys:=by
 have nn:∀ {l:List Int},l.Pairwise (· < ·)→l.Nodup:=fun h=>h.imp fun z e=>by omega
 have p:xs.Perm ys:=(List.perm_ext_iff_of_nodup (nn h1) (nn h2)).mpr h
 exact List.Perm.eq_of_pairwise (le:=(· < ·)) (fun a b _ _ x y=>absurd y (by omega)) h1 h2 p
theorem rise_of {xs:List Int} (h:xs.Pairwise (·≤·)) (nd:xs.Nodup):xs.Pairwise (· < ·):=(h.and nd).imp fun ⟨a,b⟩=>by omega
theorem puI_fold:∀ (zs:List (Addr × Int × Int)) (acc:Hv),((acc ++ zs.map (·.2)).map (·.1)).Nodup→(zs.map fun z=>((z.1,Sum.inl z.2.1,V.int z.2.2):VI)).foldl puI (acc.map kvI)=(acc ++ zs.map (·.2)).map kvI
 | [],acc,_=>by simp
 | z :: zs,acc,nd=>by
  rw [List.map_cons,List.foldl_cons]
  have e:puI (acc.map kvI) (z.1,Sum.inl z.2.1,V.int z.2.2)=(acc ++ [z.2]).map kvI:=by
   unfold puI
   have hn:z.2.1 ∉ acc.map (·.1):=by
    rw [List.map_cons,List.map_append,List.map_cons] at nd
    intro hm
    exact (List.nodup_append.mp nd).2.2 _ hm _ List.mem_cons_self rfl
   show putK (acc.map kvI) (Sum.inl z.2.1) (.int z.2.2)=_
   rw [put_i]
   unfold putI
   rw [if_neg hn]
  rw [e,puI_fold zs (acc ++ [z.2]) (by rw [List.append_assoc];exact nd),List.append_assoc]
  rfl
structure HHold (L:List (Tk × Int)) (goal:Int) (ps:Hv):Prop where
 k:∀ x,x ∈ ps.map (·.1)↔∃ s,Wk L goal x s
 r:(ps.map (·.1)).Pairwise (· < ·)
 g:lk ps goal=some 0
 e:∀ b e l,([b,e],l) ∈ L→∀ m n,lk ps b=some m→lk ps e=some n→m - n≤l
theorem Fin.keys {L:List (Tk × Int)} {goal:Int} {hv:Hv} (f:Fin L goal hv) (x:Int):x ∈ hv.map (·.1)↔∃ s,Wk L goal x s:=by
 constructor
 ·intro h
  cases e:lk hv x with
  | none=>exact absurd h (lk_none.mp e)
  | some n=>exact ⟨n,f.wk n.toNat (Nat.le_refl _) e⟩
 ·rintro ⟨s,w⟩
  obtain ⟨n,h,_⟩:=f.le w
  exact Classical.byContradiction fun z=>by rw [lk_none.mpr z] at h;cases h
theorem lk_some {hv:Hv} {x:Int} (h:x ∈ hv.map (·.1)):∃ n,lk hv x=some n:=by
 cases e:lk hv x with
 | none=>exact absurd h (lk_none.mp e)
 | some n=>exact ⟨n,rfl⟩
def sp_heights_hold (K:PySem.W.Frag):Sp:=fun vs H Q _=>∃ (td hl:Addr) (goal:Int) (L:List (Tk × Int)) (xs:TX) (ps:Hv),vs=[.ref td,.int goal,.ref hl]∧LnAt K H td L xs∧EdsOk L∧(∀ a b l,([a,b],l) ∈ L→([b,a],l) ∈ L)∧L.length≤200∧(∀ hv,Ht L goal hv→hv.length≤20)∧PrsAt K H hl ps∧ps.length≤100 ∧
 (∀ H',Same H H'→HHold L goal ps→Q (.bl true) H')∧(∀ H',Sx td H H'→¬ HHold L goal ps→Q (.bl false) H')
theorem sc_heights_hold:FnScope ["lengths","goal","heights","height_of","begin","end"] ["lengths","goal","heights"] (defScope s_heights_hold):=⟨rfl,rfl,rfl,by decide +kernel,rfl,by decide +kernel,by decide +kernel⟩
set_option maxHeartbeats 2000000 in
theorem ok_heights_hold (F:Site K mg "heights_hold" s_heights_hold) (T:Txt K mg t) (D_heights_to:Def P w K mg base 1 "heights_to" ["lengths","goal"] (sp_heights_to K)):Def P w K mg base 2 "heights_hold" ["lengths","goal","heights"] (sp_heights_hold K):=by
 refine F.def sc_heights_hold (fun _ _ _ _ _ _ us hl=>match us,hl with | [_,_,_],_=>rfl) (fun vs H Q E h=>?_) (fun f cdv A outer s H vs Q E hr h=>?_)
 ·obtain ⟨td,hl,goal,L,xs,ps,rfl,_⟩:=h
  rfl
 ·obtain ⟨td,hl,goal,L,xs,ps,rfl,hL,okL,sy,ll,few,hp,pl,q1,q2⟩:=h
  refine ⟨_,pss_cons (ps_if (pt_cmpR (op_neD K (hu16 hr)) (pe_lc rfl (Nc:=["house","height"]) (ix:=[none,none]) (cscope (defScope s_heights_hold) ["lengths","goal","heights","height_of","begin","end"] rfl rfl (by decide +kernel)) (pi_listK K (pv 2)) (fun C fp s H=>⟨(pg_twoK K (i:=0) (j:=1) rfl (show (["house","height"]:List Str).Nodup by decide +kernel) rfl rfl (Or.inl rfl) (Or.inl rfl)),pts_nil,(pv 0)⟩)) (pe_callB (call_sortedD (hu16 hr)) (by rfl) T.n_sorted boot_sorted (pa_cons (pe_def (D_heights_to.mono (by decide)) hr passN (pa_cons (pv 0) (pa_cons (pv 1) pa_nil))) pa_nil)) (nomark _))
    (pss_one (ps_ret pe_bl))
    (pss_nil))
   (pss_cons (ps_set (i:=3) sc_heights_hold.nd rfl (Or.inl rfl) (pe_callTy (call_dictI K (hu16 hr)) (by rfl) T.n_dict boot_dict (pa_cons (pv 2) pa_nil)))
   (pss_cons (ps_if (pt_cmpR op_ne (pe_dget (hu_of hr) (pv 3) (pv 1) (fun _ _=>rfl)) pe_int (nomark _))
    (pss_one (ps_ret pe_bl))
    (pss_nil))
   (pss_cons (PS.nox (ps_thawTk (ps_for PassesOwn.never rfl (pi_dictTk (pv 0)) (pg_twoK K (i:=4) (j:=5) rfl sc_heights_hold.nd rfl rfl (Or.inl rfl) (Or.inl rfl))
    (pss_one (ps_if (PW.pt (pw_and (pt_cmp (pc_din (hu_of hr) (pv 4) (pv 3)) (by rfl)) (pw_and1 (pt_cmpR op_gt (pe_op op_sub (pe_dget (hu_of hr) (pv 3) (pv 4) (fun _ _=>rfl)) (pe_dget (hu_of hr) (pv 3) (pv 5) (fun _ _=>rfl))) (pe_tget K (hu16 hr) (pv 0) (pe_tup (pa_cons (pv 4) (pa_cons (pv 5) pa_nil))) (fun _ _=>rfl)) (nomark _)))))
     (pss_one (ps_ret pe_bl))
     (pss_nil))))))
   (pss_one (ps_ret pe_bl))))),?_⟩
  have hsz:(20000:Nat)≤sizeLine:=by decide
  obtain ⟨zs,z1,z2,z3⟩:=hp.ex
  have zl:zs.length=ps.length:=by rw [← z3,List.length_map]
  refine ⟨_,rfl,hl,rfl,⟨_,SqL.of z1⟩,fun D hD=>?_⟩
  refine lc_list (K:=K) (a:=hl) (xs:=zs.map fun z=>V.ref z.1) (fun i σ H'=>∃ v0 v1:Option V,σ=[v0,v1]∧Same H H'∧H' D=some (.lst (((ps.take i).map (·.1)).map V.int))) ⟨none,none,rfl,(Same.refl _).new hD,upd_same⟩ (fun i σ H' _ ⟨_,_,_,s,_⟩=>SqL.of (s _ _ z1)) ?_ ?_
  ·rintro i y σ H1 N hN hi ⟨v0,v1,rfl,s1,e1⟩
   rw [List.getElem?_map] at hi
   cases ez:zs[i]? with
   | none=>rw [ez] at hi;cases hi
   | some z =>
    rw [ez] at hi
    cases hi
    have il:i < ps.length:=by rw [← zl];exact (List.getElem?_eq_some_iff.mp ez).1
    have ep:ps[i]?=some z.2:=by rw [← z3,List.getElem?_map,ez];rfl
    refine ⟨z.1,_,rfl,s1.tup (z2 z (List.mem_of_getElem? ez)),rfl,_,_,rfl,_,_,rfl,rfl,?_⟩
    show if true=true then tVar 0 (([v0,v1].set 0 (some (V.int z.2.1))).set 1 (some (V.int z.2.2))) H1 (fun v H5=>∃ ys,H5 D=some (HO.lst ys)∧ys.length < sizeLine∧N (([v0,v1].set 0 (some (V.int z.2.1))).set 1 (some (V.int z.2.2))) (upd H5 D (HO.lst (ys ++ [v])))) else N (([v0,v1].set 0 (some (V.int z.2.1))).set 1 (some (V.int z.2.2))) H1
    rw [if_pos rfl]
    refine ⟨_,rfl,_,e1,by rw [List.length_map,List.length_map,List.length_take];omega,hN _ _ ⟨_,_,rfl,s1.put hD,?_⟩⟩
    rw [upd_same,take_succ ep,List.map_append,List.map_append]
    rfl
  rintro σ H1 ⟨v0,v1,rfl,s1,e1⟩
  rw [List.length_map,zl,List.take_length] at e1
  refine ⟨_,rfl,_,rfl,td,goal,L,xs,rfl,hL.same s1,okL,by omega,fun hd H2 hv s2 nhd e2 ht cl=>?_⟩
  have fin:Fin L goal hv:=⟨ht,cl,okL,sy⟩
  have f1:=few hv ht
  refine ⟨hd,_,hv.map (·.1),rfl,e2,by rw [List.map_map,List.map_map];rfl,by rw [List.length_map];omega,fun ys sl hpy hsr hsl=>?_⟩
  have s3:=(Same.refl H2).new (o:=.lst (ys.map V.int)) hsl
  have e3:(upd H2 sl (.lst (ys.map V.int))) sl=some (.lst (ys.map V.int)):=upd_same
  generalize upd H2 sl (.lst (ys.map V.int))=H3 at s3 e3 ⊢
  have S3:=s1.trans (s2.trans s3)
  have rys:ys.Pairwise (· < ·):=rise_of hsr (hpy.nodup_iff.mpr ht.nd)
  have mys:∀ x,x ∈ ys↔∃ s,Wk L goal x s:=fun x=>hpy.mem_iff.trans (fin.keys x)
  refine ⟨.list ((ps.map (·.1)).map .int),.list (ys.map .int),ints_dat (SqL.of ((s2.trans s3) _ _ e1)),ints_dat (SqL.of e3),_,rfl,?_⟩
  rw [if_pos rfl,eqv_ints]
  have sx:∀ {H':Hp},Same H H'→Sx td H H':=fun s b o _ e=>s b o e
  by_cases ck:ps.map (·.1)=ys
  ·refine iteNN ck ?_
   have rps:(ps.map (·.1)).Pairwise (· < ·):=by rw [ck];exact rys
   have mps:∀ x,x ∈ ps.map (·.1)↔∃ s,Wk L goal x s:=by rw [ck];exact mys
   have nps:(ps.map (·.1)).Nodup:=rps.imp fun z e=>by omega
   have fold:=puI_fold zs [] (by rw [List.nil_append,z3];exact nps)
   rw [List.nil_append,z3] at fold
   refine ⟨_,rfl,hl,zs.map fun z=>(z.1,Sum.inl z.2.1,V.int z.2.2),rfl,by rw [List.map_map];exact S3 _ _ z1,fun q hq=>?_,fun ho hho=>?_⟩
   ·obtain ⟨z,hz,rfl⟩:=List.mem_map.mp hq
    exact S3.tup (z2 z hz)
   have fold':(zs.map fun z=>((z.1,Sum.inl z.2.1,V.int z.2.2):VI)).foldl puI []=ps.map kvI:=fold
   rw [fold']
   have s4:=(Same.refl H3).new (o:=.dK (ps.map kvI)) hho
   have e4:(upd H3 ho (.dK (ps.map kvI))) ho=some (.dK (ps.map kvI)):=upd_same
   generalize upd H3 ho (.dK (ps.map kvI))=H4 at s4 e4 ⊢
   have S4:=S3.trans s4
   obtain ⟨g,eg⟩:=lk_some ((mps goal).mpr ⟨0,.nil⟩)
   have gv:∀ {H':Hp} {x n:Int},H' ho=some (.dK (ps.map kvI))→lk ps x=some n→DGet H' ho (.int x) (some (.int n)):=fun {H' x n} e h=>by
    have:=DGet.k (k:=Sum.inl x) e
    rw [val_i,h] at this
    exact this
   refine ⟨_,rfl,_,rfl,ho,.int g,rfl,gv e4 eg,rfl,_,rfl,?_⟩
   by_cases cg:g=0
   ·refine iteNN (congrArg V.int cg) ?_
    subst cg
    have hLd:=S4 _ _ hL.d
    refine ⟨_,rfl,td,xs,rfl,hLd,fun u ou=>?_⟩
    have kz:=kept_of (o:=u) (NTu.dkt hLd)
    have xll:xs.length=L.length:=by
     have:=congrArg List.length hL.m
     rwa [List.length_map,List.length_map] at this
    have nht:ho≠td:=ne_of e4 hLd (by intro z;cases z)
    have k5:∀ p ∈ xs,IsTk K (upd H4 td u) p.2.1 p.1:=fun p hp=>((hL.k p hp).same S4).kept kz
    have d5:(upd H4 td u) td=some u:=upd_same
    have e5:(upd H4 td u) ho=some (.dK (ps.map kvI)):=by rw [upd_ne nht];exact e4
    have x5:Sx td H (upd H4 td u):=fun b o nb e=>by rw [upd_ne nb];exact S4 b o e
    generalize upd H4 td u=H5 at k5 d5 e5 x5 ⊢
    let J:Nat→_→_→Prop:=fun i σ H'=>∃ v4 v5:Option V,σ=[some (.ref td),some (.int goal),some (.ref hl),some (.ref ho),v4,v5]∧Same H5 H'∧∀ e ∈ L.take i,∀ b x,e.1=[b,x]→∀ m n,lk ps b=some m→lk ps x=some n→m - n≤e.2
    refine for_dictTk (d:=td) (u:=u) (xs:=xs) J ⟨none,none,rfl,.refl _,fun e he=>absurd he (by simp)⟩ (fun i σ H' _ ⟨_,_,_,s,_⟩=>s _ _ d5) ?_ ?_
    ·rintro i p σ H6 hi ⟨v4,v5,rfl,s6,hJ⟩
     obtain ⟨ed,ee,ep1,ep2⟩:∃ e,L[i]?=some e∧p.1=e.1∧p.2.2=.int e.2:=by
      have:(xs.map fun p=>(p.1,p.2.2))[i]?=some (p.1,p.2.2):=by rw [List.getElem?_map,hi];rfl
      rw [hL.m,List.getElem?_map] at this
      cases ee:L[i]? with
      | none=>rw [ee] at this;cases this
      | some e =>
       rw [ee] at this
       obtain ⟨z1,z2⟩:=Prod.mk.inj (Option.some.inj this)
       exact ⟨e,rfl,z1.symm,z2.symm⟩
     have hed:=List.mem_of_getElem? ee
     obtain ⟨b,y,hk,l1,l2⟩:=okL.2 ed hed
     obtain ⟨kk,l⟩:=ed
     obtain rfl:kk=[b,y]:=hk
     have pk:=(k5 p (List.mem_of_getElem? hi)).same s6
     rw [ep1] at pk
     rcases pk.ex.symm with ⟨_,_,_,_,_,z,_⟩ | ⟨_,_,z,g1⟩
     ·simp at z
     simp only [List.cons.injEq,and_true] at z
     obtain ⟨rfl,rfl⟩:=z
     have go:∀ {H7:Hp},Same H6 H7→(∀ m n,lk ps b=some m→lk ps y=some n→m - n≤l)→J (i+1) [some (.ref td),some (.int goal),some (.ref hl),some (.ref ho),some (.int b),some (.int y)] H7:=fun {H7} s7 h=>by
      refine ⟨_,_,rfl,s6.trans s7,fun e he=>?_⟩
      rw [take_succ ee] at he
      rcases List.mem_append.mp he with he | he
      ·exact hJ e he
      ·rw [List.mem_singleton.mp he]
       intro b' y' e'
       simp only [List.cons.injEq,and_true] at e'
       obtain ⟨rfl,rfl⟩:=e'
       exact h
     refine ⟨p.2.1,_,rfl,g1,rfl,_,_,rfl,_,_,rfl,rfl,?_⟩
     have e6:=s6 _ _ e5
     refine ⟨_,rfl,_,rfl,ho,_,rfl,DGet.k (k:=Sum.inl b) e6,?_⟩
     rw [val_i]
     cases eb:lk ps b with
     | none =>
      refine ⟨false,rfl,iteF ?_⟩
      exact go (.refl _) fun m n h=>by rw [eb] at h;cases h
     | some m =>
      obtain ⟨s,ws⟩:=(mps b).mp (Classical.byContradiction fun z=>by rw [lk_none.mpr z] at eb;cases eb)
      obtain ⟨n,en⟩:=lk_some ((mps y).mpr ⟨_,.cons (sy _ _ _ hed) ws⟩)
      refine ⟨true,rfl,iteT ?_⟩
      refine ⟨_,rfl,_,rfl,ho,.int m,rfl,gv e6 eb,_,rfl,_,rfl,ho,.int n,rfl,gv e6 en,_,_,rfl,rfl,?_⟩
      refine ⟨_,rfl,_,rfl,_,rfl,by show 2≤sizeLine;decide,fun kt hkt=>?_⟩
      have s7:=(Same.refl H6).new (o:=.tup [.int b,.int y]) hkt
      have tk:IsTk K (upd H6 kt (.tup [.int b,.int y])) kt [b,y]:=⟨.inl ⟨_,_,rfl,SqT.of upd_same⟩⟩
      generalize upd H6 kt (.tup [.int b,.int y])=H7 at s7 tk ⊢
      have vt:valT xs [b,y]=some (.int l):=by
       rw [val_tx hL.m,(look_iff okL.1).mpr hed]
       rfl
      refine ⟨td,kt,xs,[b,y],.int l,rfl,rfl,⟨.inr ⟨u,(s6.trans s7) _ _ d5,ou⟩,fun p hp=>(k5 p hp).same (s6.trans s7)⟩,tk,vt,_,_,rfl,rfl,_,rfl,?_⟩
      by_cases c:m - n > l
      ·refine iteY c ?_
       refine q2 _ (fun b o nb e=>(s6.trans s7) b o (x5 b o nb e)) fun h=>?_
       have:=h.e b y l hed m n eb en
       omega
      ·refine iteN c (go s7 fun m' n' h1 h2=>?_)
       rw [eb] at h1
       rw [en] at h2
       cases h1
       cases h2
       omega
    ·rintro σ H6 ⟨v4,v5,rfl,s6,hJ⟩
     rw [xll,List.take_length] at hJ
     refine ⟨td,xs,u,ou,s6 _ _ d5,?_⟩
     refine q1 _ (fun b o e=>?_) ⟨mps,rps,eg,fun b e l he m n h1 h2=>hJ _ he b e rfl m n h1 h2⟩
     by_cases nb:b=td
     ·subst nb
      rw [upd_same]
      rw [hL.d] at e
      exact e
     ·rw [upd_ne nb]
      exact s6 b o (x5 b o nb e)
   ·refine iteNY (fun z=>cg (V.int.inj z)) ?_
    refine q2 H4 (sx S4) fun h=>?_
    have:=h.g
    rw [eg] at this
    exact cg (Option.some.inj this)
  ·refine iteNY ck ?_
   exact q2 H3 (sx S3) fun h=>ck (rise_uniq h.r rys fun x=>(h.k x).trans (mys x).symm)
end
end K52
namespace K52
open PySem L2 PyProof.Rows
section
variable {P:Program} {w:World} {K:PySem.W.Frag} {mg:Str→Option Value} {base:Heap} {t:Ad}
def WHold (L:List (Tk × Int)) (one other:Int) (ws:List Int) (ps:Hv):Prop:=GoesR ws one other∧HHold L other ps∧∃ tot,wlen L ws=some tot∧(one,tot) ∈ ps
def sp_way_holds (K:PySem.W.Frag):Sp:=fun vs H Q _=>∃ (td wa hl:Addr) (one other:Int) (L:List (Tk × Int)) (xs:TX) (ws:List Int) (ps:Hv),vs=[.ref td,.int one,.int other,.ref wa,.ref hl]∧LnAt K H td L xs∧EdsOk L∧(∀ a b l,([a,b],l) ∈ L→([b,a],l) ∈ L)∧L.length≤200∧(∀ hv,Ht L other hv→hv.length≤20)∧SqT K H wa (ws.map V.int)∧ws.length≤1000∧PrsAt K H hl ps∧ps.length≤100 ∧
 ∀ (b:Bool) (H':Hp),Sx td H H'→(b=true↔WHold L one other ws ps)→Q (.bl b) H'
theorem sc_way_holds:FnScope ["lengths","one","other","way","heights","total"] ["lengths","one","other","way","heights"] (defScope s_way_holds):=⟨rfl,rfl,rfl,by decide +kernel,rfl,by decide +kernel,by decide +kernel⟩
set_option maxHeartbeats 1000000 in
theorem ok_way_holds (F:Site K mg "way_holds" s_way_holds) (T:Txt K mg t) (D_goes_from_to:Def P w K mg base 1 "goes_from_to" ["way","one","other"] (sp_goes_from_to K)) (D_heights_hold:Def P w K mg base 2 "heights_hold" ["lengths","goal","heights"] (sp_heights_hold K)) (D_way_length:Def P w K mg base 1 "way_length" ["lengths","way"] (sp_way_length K)):Def P w K mg base 3 "way_holds" ["lengths","one","other","way","heights"] (sp_way_holds K):=by
 refine F.def sc_way_holds (fun _ _ _ _ _ _ us hl=>match us,hl with | [_,_,_,_,_],_=>rfl) (fun vs H Q E h=>?_) (fun f cdv A outer s H vs Q E hr h=>?_)
 ·obtain ⟨td,wa,hl,one,other,L,xs,ws,ps,rfl,_⟩:=h
  rfl
 ·obtain ⟨td,wa,hl,one,other,L,xs,ws,ps,rfl,hL,okL,sy,ll,few,hw,wl,hp,pl,q⟩:=h
  refine ⟨_,pss_cons (ps_if (PW.pt (pw_or (pt_not (pt_val (pe_def (D_goes_from_to.mono (by decide)) hr passN (pa_cons (pv 3) (pa_cons (pv 1) (pa_cons (pv 2) pa_nil)))))) (pw_or1 (pt_not (pt_val (pe_def (D_heights_hold.mono (by decide)) hr passN (pa_cons (pv 0) (pa_cons (pv 2) (pa_cons (pv 4) pa_nil)))))))))
    (pss_one (ps_ret pe_bl))
    (pss_nil))
   (pss_cons (ps_set (i:=5) sc_way_holds.nd rfl (Or.inl rfl) (pe_def (D_way_length.mono (by decide)) hr passN (pa_cons (pv 0) (pa_cons (pv 3) pa_nil))))
   (pss_one (ps_ret (pe_and (pe_cmpR op_notN (pv 5) pe_non (nomark _)) (pe_one (pe_cmpR (op_inP K (hu16 hr)) (pe_tup (pa_cons (pv 1) (pa_cons (pv 5) pa_nil))) (pv 4) (by rfl))))))),?_⟩
  have hsz:(20000:Nat)≤sizeLine:=by decide
  have sx:∀ {H':Hp},Same H H'→Sx td H H':=fun s b o _ e=>s b o e
  refine ⟨_,rfl,_,rfl,_,rfl,wa,ws,one,other,rfl,hw,wl,fun b1 H1 s1 i1=>?_⟩
  refine ⟨b1,rfl,?_⟩
  by_cases c1:GoesR ws one other
  ·obtain rfl:=i1.mpr c1
   refine (show if (!true)=true then _ else _ from iteF ?_)
   refine ⟨_,rfl,_,rfl,_,rfl,td,hl,other,L,xs,ps,rfl,hL.same s1,okL,sy,ll,few,hp.same s1,pl,fun H2 s2 hh=>?_,fun H2 s2 nh=>?_⟩
   ·refine ⟨true,rfl,?_⟩
    refine (show if (!true)=true then _ else _ from iteF ?_)
    have S2:=s1.trans s2
    have w1:1≤ws.length:=by have:=(List.getElem?_eq_some_iff.mp c1.h).1;omega
    refine ⟨_,rfl,_,rfl,td,wa,L,xs,ws,rfl,hL.same S2,S2.tup hw,w1,wl,fun H3 s3=>?_⟩
    have S3:=S2.trans s3
    refine ⟨_,rfl,?_⟩
    cases el:wlen L ws with
    | none =>
     refine ⟨rfl,_,rfl,iteF ?_⟩
     refine q false H3 (sx S3) ⟨fun z=>(by cases z),fun ⟨_,_,tot,z,_⟩=>?_⟩
     rw [el] at z
     cases z
    | some tot =>
     refine ⟨rfl,_,rfl,iteT ?_⟩
     refine ⟨_,rfl,_,rfl,by show 2≤sizeLine;decide,fun tp htp=>?_⟩
     have s4:=(Same.refl H3).new (o:=.tup [.int one,oV (some tot)]) htp
     obtain ⟨zs,z1,z2,z3⟩:=hp.ex
     have S4:=S3.trans s4
     have e4:SqT K (upd H3 tp (.tup [.int one,oV (some tot)])) tp ([some one,some tot].map ent):=SqT.of upd_same
     generalize upd H3 tp (.tup [.int one,oV (some tot)])=H4 at s4 S4 e4 ⊢
     have tb:zs.map (fun z=>V.ref z.1)=tabR zs.length fun j=>((zs[j]?).map (·.1)).getD 0:=by
      refine List.ext_getElem (by simp [tabR,tabV]) fun i i1 i2=>?_
      have:i < zs.length:=by simpa using i1
      simp [tabR,tabV,this]
     refine ⟨_,rfl,tp,hl,[some one,some tot],zs.length,fun j=>((zs[j]?).map (·.1)).getD 0,fun j=>(zs[j]?.map fun z=>[some z.2.1,some z.2.2]).getD [],rfl,rfl,e4,by rw [← tb];exact SqL.of (S4 _ _ z1),fun j hj=>?_,?_⟩
     ·have:zs[j]?=some zs[j]:=by simp [hj]
      simp only [this,Option.map_some,Option.getD_some]
      exact S4.tup (z2 _ (List.getElem_mem hj))
     ·rw [if_neg (by decide)]
      refine q _ H4 (sx S4) ?_
      rw [List.any_eq_true]
      constructor
      ·rintro ⟨j,hj,ej⟩
       have hj:=List.mem_range.mp hj
       have ez:zs[j]?=some zs[j]:=by simp [hj]
       simp only [ez,Option.map_some,Option.getD_some,decide_eq_true_eq,List.cons.injEq,and_true,Option.some.injEq] at ej
       refine ⟨c1,hh,tot,el,?_⟩
       rw [← z3]
       exact List.mem_map.mpr ⟨zs[j],List.getElem_mem hj,Prod.ext ej.1 ej.2⟩
      ·rintro ⟨_,_,tot',e',hm⟩
       rw [el] at e'
       cases e'
       rw [← z3] at hm
       obtain ⟨z,hz,ez⟩:=List.mem_map.mp hm
       obtain ⟨j,hj,rfl⟩:=List.getElem_of_mem hz
       refine ⟨j,List.mem_range.mpr hj,?_⟩
       have e0:zs[j]?=some zs[j]:=by simp [hj]
       simp [e0,ez]
   ·refine ⟨false,rfl,?_⟩
    refine (show if (!false)=true then _ else _ from iteT ?_)
    exact q false H2 (fun b o nb e=>s2 b o nb (s1 b o e)) ⟨fun z=>(by cases z),fun h=>absurd h.2.1 nh⟩
  ·obtain rfl:b1=false:=by
    cases b1 with
    | false=>rfl
    | true=>exact absurd (i1.mp rfl) c1
   refine (show if (!false)=true then _ else _ from iteT ?_)
   exact q false H1 (sx s1) ⟨fun z=>(by cases z),fun h=>absurd h.1 c1⟩
end
end K52
namespace K52
open PySem L2 PyProof.Rows
section
variable {P:Program} {w:World} {K:PySem.W.Frag} {mg:Str→Option Value} {base:Heap} {t:Ad}
theorem sc_side_holds:FnScope ["lengths","one","other","side"] ["lengths","one","other","side"] (defScope s_side_holds):=⟨rfl,rfl,rfl,by decide +kernel,rfl,by decide +kernel,by decide +kernel⟩
theorem no_side_holds (F:Site K mg "side_holds" s_side_holds):Def P w K mg base 1 "side_holds" ["lengths","one","other","side"] spNo:=by
 exact F.no sc_side_holds (fun _ _ _ _ _ _ us hl=>match us,hl with | [_,_,_,_],_=>rfl)
def sp_way_judged (K:PySem.W.Frag) (C:Addr):Sp:=fun vs H Q _=>∃ (x d an wa hl:Addr) (one other:Int) (ms:Ms) (ws:List Int) (ps:Hv),vs=[.ref x,.int one,.int other,.ref an]∧MpAt K C H x d ms∧ms.length≤12∧MsOk ms∧WqOk ms∧SqT K H an [.str "way",.ref wa,.ref hl]∧SqT K H wa (ws.map V.int)∧ws.length≤1000∧PrsAt K H hl ps∧ps.length≤100 ∧
 ∀ (b:Bool) (H':Hp) (ts:List T3),Same H H'→(∀ t,t ∈ ts↔Stands ms t)→Tsd ts→(b=true↔WHold (eds ts) one other ws ps)→Q (.bl b) H'
theorem sc_way_judged:FnScope ["chart","one","other","answer","lengths"] ["chart","one","other","answer"] (defScope s_way_judged):=⟨rfl,rfl,rfl,by decide +kernel,rfl,by decide +kernel,by decide +kernel⟩
set_option maxHeartbeats 1000000 in
theorem ok_way_judged (F:Site K mg "way_judged" s_way_judged) (T:Txt K mg t) (D_lengths_of:Def P w K mg base 3 "lengths_of" ["chart"] (sp_lengths_of K t.Map)) (D_way_holds:Def P w K mg base 3 "way_holds" ["lengths","one","other","way","heights"] (sp_way_holds K)) (D_side_holds:Def P w K mg base 1 "side_holds" ["lengths","one","other","side"] spNo):Def P w K mg base 4 "way_judged" ["chart","one","other","answer"] (sp_way_judged K t.Map):=by
 refine F.def sc_way_judged (fun _ _ _ _ _ _ us hl=>match us,hl with | [_,_,_,_],_=>rfl) (fun vs H Q E h=>?_) (fun f cdv A outer s H vs Q E hr h=>?_)
 ·obtain ⟨x,d,an,wa,hl,one,other,ms,ws,ps,rfl,_⟩:=h
  rfl
 ·obtain ⟨x,d,an,wa,hl,one,other,ms,ws,ps,rfl,hM,ml,okm,hq,ha,hw,wl,hp,pl,q⟩:=h
  refine ⟨_,pss_cons (ps_set (i:=4) sc_way_judged.nd rfl (Or.inl rfl) (pe_def (D_lengths_of.mono (by decide)) hr passN (pa_cons (pv 0) pa_nil)))
   (pss_cons (ps_if (pt_cmpR op_eq (pe_ix (ix_tupK K) (pv 3) pe_int (fun _ _=>rfl)) pe_str (nomark _))
    (pss_one (ps_ret (pe_def (D_way_holds.mono (by decide)) hr passN (pa_cons (pv 4) (pa_cons (pv 1) (pa_cons (pv 2) (pa_cons (pe_ix (ix_tupK K) (pv 3) pe_int (fun _ _=>rfl)) (pa_cons (pe_ix (ix_tupK K) (pv 3) pe_int (fun _ _=>rfl)) pa_nil))))))))
    (pss_nil))
   (pss_one (ps_ret (pe_and (pe_cmpR op_eq (pe_ix (ix_tupK K) (pv 3) pe_int (fun _ _=>rfl)) pe_str (nomark _)) (pe_one (pe_def (D_side_holds.mono (by decide)) hr passN (pa_cons (pv 4) (pa_cons (pv 1) (pa_cons (pv 2) (pa_cons (pe_ix (ix_tupK K) (pv 3) pe_int (fun _ _=>rfl)) pa_nil)))))))))),?_⟩
  refine ⟨_,rfl,x,d,ms,rfl,hM,ml,okm,fun td H1 ts xs s1 ntd hL hm tsd tl=>?_⟩
  have el:(eds ts).length≤200:=by rw [eds_len];omega
  have a1:=s1.tup ha
  refine ⟨_,rfl,an,_,_,.str "way",rfl,rfl,a1,rfl,rfl,_,rfl,?_⟩
  refine iteY (p:=V.str "way"=V.str "way") rfl ?_
  refine ⟨_,rfl,_,rfl,_,rfl,_,rfl,an,_,_,.ref wa,rfl,rfl,a1,rfl,_,rfl,an,_,_,.ref hl,rfl,rfl,a1,rfl,?_⟩
  refine ⟨td,wa,hl,one,other,eds ts,xs,ws,ps,rfl,hL,(eds_ok hq hm tsd).1,(eds_ok hq hm tsd).2,el,fun hv ht=>by have:=ht.few hm;omega,s1.tup hw,wl,hp.same s1,pl,fun b H2 s2 hb=>?_⟩
  exact q b H2 ts (fun c o e=>s2 c o (fun z=>by rw [z,ntd] at e;cases e) (s1 c o e)) hm tsd hb
end
end K52
namespace K52
open PySem L2 PyProof.Rows
section
variable {P:Program} {w:World} {K:PySem.W.Frag} {mg:Str→Option Value} {base:Heap} {t:Ad}
def edP (t:T3):List (Int × Int):=[(t.1,t.2.1),(t.2.1,t.1)]
def edsP (ts:List T3):List (Int × Int):=ts.flatMap edP
def waysF (ts:List T3) (goal:Int):Nat→List Int→List (List Int)
 | 0,_=>[]
 | n+1,way=>if way.getLast?=some goal then [way] else (edsP ts).flatMap fun p=>if way.getLast?=some p.1∧p.2 ∉ way then waysF ts goal n (way ++ [p.2]) else []
def stepW (ts:List T3) (goal:Int) (n:Nat) (way:List Int) (p:Int × Int):List (List Int):=if way.getLast?=some p.1∧p.2 ∉ way then waysF ts goal n (way ++ [p.2]) else []
theorem waysF_succ (ts:List T3) (goal:Int) (n:Nat) (way:List Int):waysF ts goal (n+1) way=if way.getLast?=some goal then [way] else (edsP ts).flatMap (stepW ts goal n way):=by
 rw [waysF]
 rfl
structure Wy (ts:List T3) (hs':List Int) (n:Nat) (ws:List Int):Prop where
 ne:ws≠[]
 nd:ws.Nodup
 mem:∀ x ∈ ws,x ∈ hs'
 en:∀ t ∈ ts,t.1 ∈ hs'∧t.2.1 ∈ hs'
 l:ws.length+n=hs'.length
theorem Wy.pos {ts:List T3} {hs':List Int} {n:Nat} {ws:List Int} (h:Wy ts hs' n ws) {y:Int} (hy:y ∈ hs') (ny:y ∉ ws):1≤n:=by
 have:=pigeonW hs' (ws ++ [y]) (List.nodup_append.mpr ⟨h.nd,by simp,fun a ha b hb=>by rw [List.mem_singleton.mp hb];rintro rfl;exact ny ha⟩) fun x hx=>by
  rcases List.mem_append.mp hx with z | z
  ·exact h.mem x z
  ·rw [List.mem_singleton.mp z];exact hy
 rw [List.length_append] at this
 have e:[y].length=1:=rfl
 have:=h.l
 omega
theorem edsP_mem {ts:List T3} {p:Int × Int}:p ∈ edsP ts↔∃ t ∈ ts,p=(t.1,t.2.1)∨p=(t.2.1,t.1):=by
 unfold edsP edP
 rw [List.mem_flatMap]
 simp only [List.mem_cons,List.not_mem_nil,or_false]
theorem Wy.next {ts:List T3} {hs':List Int} {n:Nat} {ws:List Int} (h:Wy ts hs' (n+1) ws) {p:Int × Int} (hp:p ∈ edsP ts) (ny:p.2 ∉ ws):Wy ts hs' n (ws ++ [p.2]):=by
 have hy:p.2 ∈ hs':=by
  obtain ⟨t,ht,z⟩:=edsP_mem.mp hp
  obtain ⟨h1,h2⟩:=h.en t ht
  rcases z with rfl | rfl
  ·exact h2
  ·exact h1
 refine ⟨by simp,List.nodup_append.mpr ⟨h.nd,by simp,fun a ha b hb=>by rw [List.mem_singleton.mp hb];rintro rfl;exact ny ha⟩,fun x hx=>?_,h.en,by rw [List.length_append];have:=h.l;show ws.length+1+n=_;omega⟩
 rcases List.mem_append.mp hx with z | z
 ·exact h.mem x z
 ·rw [List.mem_singleton.mp z];exact hy
theorem Tsd.eds_nd {ts:List T3} (h:Tsd ts):(edsP ts).Nodup:=by
 unfold edsP List.Nodup
 rw [List.pairwise_flatMap]
 constructor
 ·intro t ht
  have:=h.lt t ht
  unfold edP
  simp only [List.pairwise_cons,List.mem_singleton,List.not_mem_nil,false_implies,implies_true,List.Pairwise.nil,and_true,forall_eq]
  intro e
  have:=(Prod.mk.inj e).1
  omega
 ·refine h.pw.imp_of_mem fun {s t} hs ht ne x hx y hy e=>ne ?_
  have l1:=h.lt s hs
  have l2:=h.lt t ht
  unfold edP at hx hy
  simp only [List.mem_cons,List.not_mem_nil,or_false] at hx hy
  subst e
  rcases hx with hx | hx <;> rcases hy with hy | hy <;> rw [hx] at hy <;> have a:=(Prod.mk.inj hy).1 <;> have b:=(Prod.mk.inj hy).2 <;> omega
def fac:Nat→Nat
 | 0=>1
 | n+1=>(n+1) * fac n
theorem fac_pos:∀ n,1≤fac n
 | 0=>Nat.le_refl _
 | n+1=>Nat.le_trans (fac_pos n) (by show fac n≤(n+1) * fac n;rw [Nat.succ_mul];omega)
theorem flat_le {α β:Type} (f:α→List β) (c:Nat):∀ (l:List α),(∀ x ∈ l,(f x).length≤c)→(l.flatMap f).length≤(l.filter fun x=>decide (f x≠[])).length * c
 | [],_=>by simp
 | x :: l,h=>by
  have ih:=flat_le f c l fun y hy=>h y (List.mem_cons_of_mem _ hy)
  have hx:=h x List.mem_cons_self
  rw [List.flatMap_cons,List.length_append]
  by_cases e:f x=[]
  ·rw [List.filter_cons_of_neg (by simp [e]),e]
   simpa using ih
  ·rw [List.filter_cons_of_pos (by simp [e]),List.length_cons,Nat.succ_mul]
   omega
theorem waysF_len {ts:List T3} (td:Tsd ts) {hs':List Int} {goal:Int}:∀ (n:Nat) {ws:List Int},Wy ts hs' n ws→(waysF ts goal (n+1) ws).length≤fac n
 | n,ws,h=>by
  rw [waysF_succ]
  by_cases c:ws.getLast?=some goal
  ·rw [if_pos c];exact fac_pos n
  ·rw [if_neg c]
   match n,h with
   | 0,h =>
    have:(edsP ts).flatMap (stepW ts goal 0 ws)=[]:=by
     rw [List.flatMap_eq_nil_iff]
     intro p hp
     unfold stepW
     split
     ·rw [waysF]
     ·rfl
    rw [this];exact Nat.zero_le _
   | n+1,h =>
    have one:∀ p ∈ edsP ts,(stepW ts goal (n+1) ws p).length≤fac n:=fun p hp=>by
     unfold stepW
     split
     ·rename_i z;exact waysF_len td n (h.next hp z.2)
     ·exact Nat.zero_le _
    refine Nat.le_trans (flat_le _ (fac n) _ one) ?_
    show _≤(n+1) * fac n
    refine Nat.mul_le_mul_right _ ?_
    have key:∀ p ∈ (edsP ts).filter fun x=>decide (stepW ts goal (n+1) ws x≠[]),p ∈ edsP ts∧ws.getLast?=some p.1∧p.2 ∉ ws:=fun p hp=>by
     obtain ⟨h1,h2⟩:=List.mem_filter.mp hp
     have h2:stepW ts goal (n+1) ws p≠[]:=by simpa using h2
     unfold stepW at h2
     split at h2
     ·rename_i z;exact ⟨h1,z⟩
     ·exact absurd rfl h2
    have nd:(((edsP ts).filter fun x=>decide (stepW ts goal (n+1) ws x≠[])).map (·.2)).Nodup:=by
     unfold List.Nodup
     rw [List.pairwise_map]
     refine (td.eds_nd.filter _).imp_of_mem fun {p q} hp hq ne e=>ne ?_
     have e1:=(key p hp).2.1
     rw [(key q hq).2.1] at e1
     exact Prod.ext (Option.some.inj e1).symm e
    have:=pigeonW hs' (ws ++ ((edsP ts).filter fun x=>decide (stepW ts goal (n+1) ws x≠[])).map (·.2)) (List.nodup_append.mpr ⟨h.nd,nd,fun a ha b hb=>by
     obtain ⟨p,hp,rfl⟩:=List.mem_map.mp hb
     rintro rfl
     exact (key p hp).2.2 ha⟩) fun x hx=>by
     rcases List.mem_append.mp hx with z | z
     ·exact h.mem x z
     ·obtain ⟨p,hp,rfl⟩:=List.mem_map.mp z
      obtain ⟨t,ht,z⟩:=edsP_mem.mp (key p hp).1
      obtain ⟨h1,h2⟩:=h.en t ht
      rcases z with rfl | rfl
      ·exact h2
      ·exact h1
    rw [List.length_append,List.length_map] at this
    have:=h.l
    omega
theorem fac_720:∀ n,n≤6→fac n≤720:=by decide
end
end K52
namespace K52
open PySem L2 PyProof.Rows
section
variable {P:Program} {w:World} {K:PySem.W.Frag} {mg:Str→Option Value} {base:Heap} {t:Ad}
structure WysAt (K:PySem.W.Frag) (H:Hp) (l:Addr) (vs:List (List Int)):Prop where
 ex:∃ zs:List (Addr × List Int),H l=some (.lst (zs.map fun z=>V.ref z.1))∧(∀ z ∈ zs,SqT K H z.1 (z.2.map V.int))∧zs.map (·.2)=vs
theorem WysAt.same {K:PySem.W.Frag} {H H':Hp} {l:Addr} {vs:List (List Int)} (h:WysAt K H l vs) (s:Same H H'):WysAt K H' l vs:=by
 obtain ⟨zs,h1,h2,h3⟩:=h.ex
 exact ⟨zs,s _ _ h1,fun z hz=>s.tup (h2 z hz),h3⟩
def spWy (K:PySem.W.Frag):Nat→Sp
 | 0=>fun _ _ _ _=>False
 | n+1=>fun vs H Q _=>∃ (l wa:Addr) (goal:Int) (ts:List T3) (hs' ws:List Int),vs=[.ref l,.ref wa,.int goal]∧WlAt K H l ts∧Tsd ts∧SqT K H wa (ws.map V.int)∧Wy ts hs' n ws∧hs'.length≤7∧∀ (r:Addr) (H':Hp),Same H H'→WysAt K H' r (waysF ts goal (n+1) ws)→Q (.ref r) H'
theorem sc__law_ways:FnScope ["wires","way","goal","found","a","b","length","one","other"] ["wires","way","goal"] (defScope s__law_ways):=⟨rfl,rfl,rfl,by decide +kernel,rfl,by decide +kernel,by decide +kernel⟩
set_option maxHeartbeats 2000000 in
theorem wys_step (n:Nat) (F:Site K mg "_law_ways" s__law_ways) (T:Txt K mg t) (D__law_ways:Def P w K mg base (n+1) "_law_ways" ["wires","way","goal"] (spWy K n)):Def P w K mg base (n+2) "_law_ways" ["wires","way","goal"] (spWy K (n+1)):=by
 refine F.def sc__law_ways (fun _ _ _ _ _ _ us hl=>match us,hl with | [_,_,_],_=>rfl) (fun vs H Q E h=>?_) (fun f cdv A outer s H vs Q E hr h=>?_)
 ·obtain ⟨l,wa,goal,ts,hs',ws,rfl,_⟩:=h
  rfl
 ·obtain ⟨l,wa,goal,ts,hs',ws,rfl,hl,td,hw,wy,h7,q⟩:=h
  refine ⟨_,pss_cons (ps_if (pt_cmpR op_eq (pe_ix (ix_tupK K) (pv 1) (pe_un un_neg pe_int) (fun _ _=>rfl)) (pv 2) (nomark _))
    (pss_one (ps_ret (pe_lst (pa_cons (pv 1) pa_nil))))
    (pss_nil))
   (pss_cons (ps_set (i:=3) sc__law_ways.nd rfl (Or.inl rfl) (pe_lst pa_nil))
   (pss_cons (PS.nox (ps_for PassesOwn.never rfl (pi_listK K (pv 0)) (pg_tup rfl (pgs_cons (pg_name (i:=4) sc__law_ways.nd rfl (Or.inl rfl)) (pgs_cons (pg_name (i:=5) sc__law_ways.nd rfl (Or.inl rfl)) (pgs_cons (pg_name (i:=6) sc__law_ways.nd rfl (Or.inl rfl)) pgs_nil))))
    (pss_one (ps_for PassesOwn.never rfl (pi_listK K (pe_lst (pa_cons (pe_tup (pa_cons (pv 4) (pa_cons (pv 5) pa_nil))) (pa_cons (pe_tup (pa_cons (pv 5) (pa_cons (pv 4) pa_nil))) pa_nil)))) (pg_twoK K (i:=7) (j:=8) rfl sc__law_ways.nd rfl rfl (Or.inl rfl) (Or.inl rfl))
     (pss_one (ps_if (PW.pt (pw_and (pt_cmpR op_eq (pv 7) (pe_ix (ix_tupK K) (pv 1) (pe_un un_neg pe_int) (fun _ _=>rfl)) (nomark _)) (pw_and1 (pt_cmpR (op_notIn_seqK K) (pv 8) (pv 1) (by rfl)))))
      (pss_one (ps_set (i:=3) sc__law_ways.nd rfl (Or.inl rfl) (pe_op (op_catK K) (pv 3) (pe_def (D__law_ways) hr passN (pa_cons (pv 0) (pa_cons (pe_op (op_catA K) (pv 1) (pe_tup (pa_cons (pv 8) pa_nil))) (pa_cons (pv 2) pa_nil)))))))
      (pss_nil)))))))
   (pss_one (ps_ret (pv 3))))),?_⟩
  have hsz:(20000:Nat)≤sizeLine:=by decide
  have n6:n≤6:=by
   have h1:=wy.l
   have h2:1≤ws.length:=by
    cases ws with
    | nil=>exact absurd rfl wy.ne
    | cons _ _=>simp
   omega
  have wl7:ws.length≤7:=by have:=wy.l;omega
  have tot:=waysF_len td (goal:=goal) n wy
  have f7:=fac_720 n n6
  rw [waysF_succ] at tot q
  obtain ⟨pre,z,rfl⟩:∃ pre z,ws=pre ++ [z]:=⟨ws.dropLast,ws.getLast wy.ne,(List.dropLast_concat_getLast _).symm⟩
  have la:atI ((pre ++ [z]).map V.int) (-1)=some (V.int z):=by rw [List.map_append];exact atI_last _ _
  have gl:∀ x:Int,(pre ++ [z]).getLast?=some x↔z=x:=fun x=>by rw [List.getLast?_concat,Option.some.injEq]
  refine ⟨_,rfl,1,rfl,wa,_,_,.int z,rfl,rfl,hw,la,_,rfl,rfl,_,rfl,?_⟩
  by_cases c:z=goal
  ·refine iteY (congrArg V.int c) ?_
   rw [if_pos ((gl goal).mpr c)] at q
   refine ⟨_,rfl,by show 1≤sizeLine;decide,fun r hr=>?_⟩
   exact q r _ ((Same.refl H).new hr) ⟨[(wa,pre ++ [z])],upd_same,fun y hy=>by rw [List.mem_singleton.mp hy];exact ((Same.refl H).new hr).tup hw,rfl⟩
  refine iteN (fun e=>c (V.int.inj e)) ?_
  rw [if_neg fun e=>c ((gl goal).mp e)] at q tot
  refine ⟨by show 0≤sizeLine;decide,fun fo hfo=>?_⟩
  have s0:=(Same.refl H).new (o:=.lst []) hfo
  have e0:(upd H fo (.lst [])) fo=some (.lst []):=upd_same
  generalize upd H fo (.lst [])=H0 at s0 e0 ⊢
  obtain ⟨zs,z1,z2,z3⟩:=hl
  have pre_len:∀ {A:List (Int × Int)} {p:Int × Int} {R:List (Int × Int)},edsP ts=A ++ p :: R→(A.flatMap (stepW ts goal n (pre ++ [z]))).length+(stepW ts goal n (pre ++ [z]) p).length≤720:=fun {A p R} e=>by
   rw [e,List.flatMap_append,List.flatMap_cons,List.length_append,List.length_append] at tot
   omega
  let I:Nat→_→_→Prop:=fun i σ H'=>∃ (r:Addr) (v4 v5 v6 v7 v8:Option V),σ=[some (.ref l),some (.ref wa),some (.int goal),some (.ref r),v4,v5,v6,v7,v8]∧Same H H'∧WysAt K H' r ((edsP (ts.take i)).flatMap (stepW ts goal n (pre ++ [z])))
  refine ⟨_,rfl,l,rfl,⟨_,SqL.of (s0 _ _ z1)⟩,for_list (K:=K) (a:=l) (xs:=zs.map (·.1)) I ⟨fo,none,none,none,none,none,rfl,s0,[],e0,fun z hz=>absurd hz List.not_mem_nil,rfl⟩ (fun i σ H' _ ⟨_,_,_,_,_,_,_,s,_⟩=>SqL.of (s _ _ z1)) ?_ ?_⟩
  ·rintro i y σ H1 hi ⟨r,v4,v5,v6,v7,v8,rfl,s1,w1⟩
   rw [List.getElem?_map] at hi
   cases ez:zs[i]? with
   | none=>rw [ez] at hi;cases hi
   | some zt =>
    rw [ez] at hi
    obtain rfl:zt.1=y:=Option.some.inj hi
    have et:ts[i]?=some zt.2:=by rw [← z3,List.getElem?_map,ez];rfl
    obtain ⟨za,ea,g1⟩:=t3_out ((z2 zt (List.mem_of_getElem? ez)).same s1)
    refine ⟨za,_,ea,g1,rfl,_,_,rfl,_,_,rfl,_,_,rfl,rfl,?_⟩
    obtain ⟨R,hR⟩:∃ R,edsP ts=edsP (ts.take i) ++ (edP zt.2 ++ R):=by
     obtain ⟨j1,j2⟩:=List.getElem?_eq_some_iff.mp et
     refine ⟨edsP (ts.drop (i+1)),?_⟩
     have e1:ts=ts.take i ++ zt.2 :: ts.drop (i+1):=by rw [← j2,List.getElem_cons_drop,List.take_append_drop]
     have:edsP (ts.take i ++ zt.2 :: ts.drop (i+1))=edsP (ts.take i) ++ (edP zt.2 ++ edsP (ts.drop (i+1))):=by unfold edsP;rw [List.flatMap_append,List.flatMap_cons]
     rw [← this,← e1]
    refine ⟨_,rfl,_,rfl,by show 2≤sizeLine;decide,fun t1 ht1=>⟨_,rfl,_,rfl,by show 2≤sizeLine;decide,fun t2 ht2=>⟨by show 2≤sizeLine;decide,fun il hil=>?_⟩⟩⟩
    have u1:=(Same.refl H1).new (o:=.tup [.int zt.2.1,.int zt.2.2.1]) ht1
    have u2:=(Same.refl (upd H1 t1 (.tup [.int zt.2.1,.int zt.2.2.1]))).new (o:=.tup [.int zt.2.2.1,.int zt.2.1]) ht2
    have u3:=(Same.refl (upd (upd H1 t1 (.tup [.int zt.2.1,.int zt.2.2.1])) t2 (.tup [.int zt.2.2.1,.int zt.2.1]))).new (o:=.lst [.ref t1,.ref t2]) hil
    have a1:SqT K (upd (upd (upd H1 t1 (.tup [.int zt.2.1,.int zt.2.2.1])) t2 (.tup [.int zt.2.2.1,.int zt.2.1])) il (.lst [.ref t1,.ref t2])) t1 [.int zt.2.1,.int zt.2.2.1]:=(u2.trans u3).tup (SqT.of upd_same)
    have a2:SqT K (upd (upd (upd H1 t1 (.tup [.int zt.2.1,.int zt.2.2.1])) t2 (.tup [.int zt.2.2.1,.int zt.2.1])) il (.lst [.ref t1,.ref t2])) t2 [.int zt.2.2.1,.int zt.2.1]:=u3.tup (SqT.of upd_same)
    have a3:(upd (upd (upd H1 t1 (.tup [.int zt.2.1,.int zt.2.2.1])) t2 (.tup [.int zt.2.2.1,.int zt.2.1])) il (.lst [.ref t1,.ref t2])) il=some (.lst [.ref t1,.ref t2]):=upd_same
    have u:=u1.trans (u2.trans u3)
    generalize upd (upd (upd H1 t1 (.tup [.int zt.2.1,.int zt.2.2.1])) t2 (.tup [.int zt.2.2.1,.int zt.2.1])) il (.lst [.ref t1,.ref t2])=H2 at u a1 a2 a3 ⊢
    have S2:=s1.trans u
    let J:Nat→_→_→Prop:=fun j σ H'=>∃ (r:Addr) (v7 v8:Option V),σ=[some (.ref l),some (.ref wa),some (.int goal),some (.ref r),some (.int zt.2.1),some (.int zt.2.2.1),some (.int zt.2.2.2),v7,v8]∧Same H2 H'∧WysAt K H' r ((edsP (ts.take i) ++ (edP zt.2).take j).flatMap (stepW ts goal n (pre ++ [z])))
    refine ⟨il,rfl,⟨_,SqL.of a3⟩,for_list (K:=K) (a:=il) (xs:=[.ref t1,.ref t2]) J ⟨r,_,_,rfl,.refl _,by rw [List.take_zero,List.append_nil];exact w1.same u⟩ (fun j σ H' _ ⟨_,_,_,_,s,_⟩=>SqL.of (s _ _ a3)) ?_ ?_⟩
    ·rintro j y σ H3 hj ⟨r,v7,v8,rfl,s3,w3⟩
     obtain ⟨p,ep,ta,rfl,g3⟩:∃ p,(edP zt.2)[j]?=some p∧∃ ta,y=.ref ta∧SqT K H3 ta [.int p.1,.int p.2]:=by
      match j,hj with
      | 0,hj=>cases hj;exact ⟨_,rfl,t1,rfl,s3.tup a1⟩
      | 1,hj=>cases hj;exact ⟨_,rfl,t2,rfl,s3.tup a2⟩
      | j+2,hj=>simp at hj
     have hpm:p ∈ edsP ts:=by
      rw [hR]
      exact List.mem_append_right _ (List.mem_append_left _ (List.mem_of_getElem? ep))
     obtain ⟨R',hR'⟩:∃ R',edsP ts=(edsP (ts.take i) ++ (edP zt.2).take j) ++ p :: R':=by
      refine ⟨(edP zt.2).drop (j+1) ++ R,?_⟩
      obtain ⟨j1,j2⟩:=List.getElem?_eq_some_iff.mp ep
      have e2:edP zt.2=(edP zt.2).take j ++ p :: (edP zt.2).drop (j+1):=by rw [← j2,List.getElem_cons_drop,List.take_append_drop]
      rw [hR]
      conv=>lhs;rw [e2]
      simp
     have pl:=pre_len hR'
     refine ⟨ta,_,rfl,g3,rfl,_,_,rfl,_,_,rfl,rfl,?_⟩
     have hw3:=(S2.trans s3).tup hw
     have nxt:(edsP (ts.take i) ++ (edP zt.2).take (j+1)).flatMap (stepW ts goal n (pre ++ [z]))=(edsP (ts.take i) ++ (edP zt.2).take j).flatMap (stepW ts goal n (pre ++ [z])) ++ stepW ts goal n (pre ++ [z]) p:=by
      rw [take_succ ep,← List.append_assoc,List.flatMap_append,List.flatMap_cons,List.flatMap_nil,List.append_nil]
     refine ⟨_,rfl,_,rfl,1,rfl,wa,_,_,.int z,rfl,rfl,hw3,la,rfl,_,rfl,?_⟩
     by_cases c1:p.1=z
     ·refine iteY (congrArg V.int c1) ?_
      refine ⟨_,rfl,_,rfl,wa,_,rfl,.inr hw3,rfl,flat_ints _,_,rfl,?_⟩
      show if (!inV (.int p.2) ((pre ++ [z]).map V.int))=true then _ else _
      rw [in_ints']
      by_cases c2:p.2 ∈ pre ++ [z]
      ·refine iteNN c2 ⟨r,_,_,rfl,s3,?_⟩
       rw [nxt]
       have:stepW ts goal n (pre ++ [z]) p=[]:=by unfold stepW;rw [if_neg fun e=>e.2 c2]
       rw [this,List.append_nil]
       exact w3
      ·refine iteNY c2 ?_
       have eS:stepW ts goal n (pre ++ [z]) p=waysF ts goal n ((pre ++ [z]) ++ [p.2]):=by unfold stepW;rw [if_pos ⟨(gl p.1).mpr c1.symm,c2⟩]
       rw [eS] at nxt pl
       have n1:1≤n:=by
        obtain ⟨t,ht,zz⟩:=edsP_mem.mp hpm
        obtain ⟨h1,h2⟩:=wy.en t ht
        refine wy.pos (y:=p.2) ?_ c2
        rcases zz with rfl | rfl
        ·exact h2
        ·exact h1
       obtain ⟨m,rfl⟩:∃ m,n=m+1:=⟨n - 1,by omega⟩
       refine ⟨_,rfl,_,rfl,_,rfl,_,rfl,by show 1≤sizeLine;decide,fun t3 ht3=>?_⟩
       have s4:=(Same.refl H3).new (o:=.tup [.int p.2]) ht3
       have e4:SqT K (upd H3 t3 (.tup [.int p.2])) t3 [.int p.2]:=SqT.of upd_same
       generalize upd H3 t3 (.tup [.int p.2])=H4 at s4 e4 ⊢
       refine ⟨wa,t3,_,_,rfl,rfl,s4.tup hw3,e4,by rw [List.length_map];show _+1≤sizeLine;omega,fun wb H5 s5 hwb=>?_⟩
       have hwb:SqT K H5 wb (((pre ++ [z]) ++ [p.2]).map V.int):=by rw [List.map_append];exact hwb
       have S5:=(S2.trans s3).trans (s4.trans s5)
       refine ⟨_,rfl,l,wb,goal,ts,hs',(pre ++ [z]) ++ [p.2],rfl,⟨zs,S5 _ _ z1,fun y hy=>(z2 y hy).same S5,z3⟩,td,hwb,wy.next hpm c2,h7,fun rr H6 s6 w6=>?_⟩
       obtain ⟨xs,x1,x2,x3⟩:=(w3.same (s4.trans (s5.trans s6))).ex
       obtain ⟨ys,y1,y2,y3⟩:=w6.ex
       have l1:=congrArg List.length x3
       have l2:=congrArg List.length y3
       rw [List.length_map] at l1 l2
       refine ⟨r,rr,_,_,rfl,rfl,SqL.of x1,SqL.of y1,by rw [List.length_map,List.length_map];omega,fun r2 hr2=>?_⟩
       have s7:=(Same.refl H6).new (o:=.lst (xs.map (fun z=>V.ref z.1) ++ ys.map fun z=>V.ref z.1)) hr2
       refine ⟨r2,_,_,rfl,s3.trans (s4.trans (s5.trans (s6.trans s7))),xs ++ ys,by rw [upd_same,List.map_append],fun y hy=>?_,by rw [List.map_append,x3,y3,nxt]⟩
       rcases List.mem_append.mp hy with h | h
       ·exact s7.tup (x2 y h)
       ·exact s7.tup (y2 y h)
     ·refine iteN (fun e=>c1 (V.int.inj e)) ⟨r,_,_,rfl,s3,?_⟩
      rw [nxt]
      have:stepW ts goal n (pre ++ [z]) p=[]:=by unfold stepW;rw [if_neg fun e=>c1 ((gl p.1).mp e.1).symm]
      rw [this,List.append_nil]
      exact w3
    ·rintro σ H3 ⟨r,v7,v8,rfl,s3,w3⟩
     refine ⟨r,_,_,_,_,_,rfl,S2.trans s3,?_⟩
     have e:edsP (ts.take (i+1))=edsP (ts.take i) ++ (edP zt.2).take 2:=by
      rw [take_succ et]
      unfold edsP
      rw [List.flatMap_append,List.flatMap_cons,List.flatMap_nil,List.append_nil]
      rfl
     rw [e]
     exact w3
  ·rintro σ H1 ⟨r,v4,v5,v6,v7,v8,rfl,s1,w1⟩
   have:(zs.map (·.1)).length=ts.length:=by rw [← z3,List.length_map,List.length_map]
   rw [this,List.take_length] at w1
   exact ⟨_,rfl,q r H1 s1 w1⟩
theorem wys_no (F:Site K mg "_law_ways" s__law_ways):Def P w K mg base 1 "_law_ways" ["wires","way","goal"] (spWy K 0):=by
 exact F.no sc__law_ways (fun _ _ _ _ _ _ us hl=>match us,hl with | [_,_,_],_=>rfl)
theorem ok__law_ways (F:Site K mg "_law_ways" s__law_ways) (T:Txt K mg t):Def P w K mg base 8 "_law_ways" ["wires","way","goal"] (spWy K 7):=by
 exact wys_step 6 F T (wys_step 5 F T (wys_step 4 F T (wys_step 3 F T (wys_step 2 F T (wys_step 1 F T (wys_step 0 F T (wys_no F)))))))
end
end K52
namespace K52
open PySem L2 PyProof.Rows
section
variable {P:Program} {w:World} {K:PySem.W.Frag} {mg:Str→Option Value} {base:Heap} {t:Ad}
def fnd (ts:List T3) (x y:Int):List Int:=(ts.filter fun t=>decide (t.1=(if y < x then y else x)∧t.2.1=(if y > x then y else x))).map (·.2.2)
theorem fnd_look {ts:List T3} (td:Tsd ts) (x y:Int):(fnd ts x y).head?=lookT (eds ts) [x,y]:=by
 have kn:=eds_keys td
 have mem:∀ l,l ∈ fnd ts x y↔([x,y],l) ∈ eds ts:=fun l=>by
  unfold fnd
  rw [List.mem_map,eds_mem]
  constructor
  ·rintro ⟨t,ht,rfl⟩
   obtain ⟨h1,h2⟩:=List.mem_filter.mp ht
   have h2:t.1=(if y < x then y else x)∧t.2.1=(if y > x then y else x):=by simpa using h2
   refine ⟨t,h1,?_⟩
   have lt:=td.lt t h1
   by_cases c:y < x
   ·rw [if_pos c,if_neg (by omega)] at h2
    exact .inr (by rw [h2.1,h2.2])
   ·rw [if_neg c] at h2
    by_cases c2:y > x
    ·rw [if_pos c2] at h2
     exact .inl (by rw [h2.1,h2.2])
    ·rw [if_neg c2] at h2
     omega
  ·rintro ⟨t,ht,z⟩
   have lt:=td.lt t ht
   refine ⟨t,List.mem_filter.mpr ⟨ht,?_⟩,?_⟩
   ·rcases z with z | z
    ·have e:=(Prod.mk.inj z).1
     simp only [List.cons.injEq,and_true] at e
     obtain ⟨rfl,rfl⟩:=e
     rw [if_neg (by omega),if_pos lt]
     simp
    ·have e:=(Prod.mk.inj z).1
     simp only [List.cons.injEq,and_true] at e
     obtain ⟨rfl,rfl⟩:=e
     rw [if_pos lt,if_neg (by omega)]
     simp
   ·rcases z with z | z <;> exact ((Prod.mk.inj z).2).symm
 cases e:fnd ts x y with
 | nil =>
  cases el:lookT (eds ts) [x,y] with
  | none=>rfl
  | some l =>
   have:=(mem l).mpr ((look_iff kn).mp el)
   rw [e] at this
   exact absurd this List.not_mem_nil
 | cons l r =>
  have h1:=(mem l).mp (by rw [e];exact List.mem_cons_self)
  rw [(look_iff kn).mpr h1]
  rfl
def sp__law_length (K:PySem.W.Frag):Sp:=fun vs H Q _=>∃ (l wa:Addr) (ts:List T3) (ws:List Int),vs=[.ref l,.ref wa]∧WlAt K H l ts∧Tsd ts∧ts.length≤60∧SqT K H wa (ws.map V.int)∧ws.length≤1000∧∀ H',Same H H'→Q (oV (wlen (eds ts) ws)) H'
theorem sc__law_length:FnScope ["wires","way","total","k","pair","found"] ["wires","way"] (defScope s__law_length):=⟨rfl,rfl,rfl,by decide +kernel,rfl,by decide +kernel,by decide +kernel⟩
set_option maxHeartbeats 2000000 in
theorem ok__law_length (F:Site K mg "_law_length" s__law_length) (T:Txt K mg t):Def P w K mg base 1 "_law_length" ["wires","way"] (sp__law_length K):=by
 refine F.def sc__law_length (fun _ _ _ _ _ _ us hl=>match us,hl with | [_,_],_=>rfl) (fun vs H Q E h=>?_) (fun f cdv A outer s H vs Q E hr h=>?_)
 ·obtain ⟨l,wa,ts,ws,rfl,_⟩:=h
  rfl
 ·obtain ⟨l,wa,ts,ws,rfl,hl,td,tl,hw,wl,q⟩:=h
  refine ⟨_,pss_cons (ps_set (i:=2) sc__law_length.nd rfl (Or.inl rfl) pe_int)
   (pss_cons (PS.nox (ps_for PassesOwn.never rfl (pi_range2 (by rfl) T.n_range (pa_cons pe_int (pa_cons (pe_callB (call_lenK K) (by rfl) T.n_len boot_len (pa_cons (pv 1) pa_nil)) pa_nil))) (pg_name (i:=3) sc__law_length.nd rfl (Or.inl rfl))
    (pss_cons (ps_set (i:=4) sc__law_length.nd rfl (Or.inr rfl) (pe_tup (pa_cons (pe_callB (call_min2 rfl) (by rfl) T.n_min boot_min (pa_cons (pe_ix (ix_tupK K) (pv 1) (pe_op op_sub (pv 3) pe_int) (fun _ _=>rfl)) (pa_cons (pe_ix (ix_tupK K) (pv 1) (pv 3) (fun _ _=>rfl)) pa_nil))) (pa_cons (pe_callB (call_max2 rfl) (by rfl) T.n_max boot_max (pa_cons (pe_ix (ix_tupK K) (pv 1) (pe_op op_sub (pv 3) pe_int) (fun _ _=>rfl)) (pa_cons (pe_ix (ix_tupK K) (pv 1) (pv 3) (fun _ _=>rfl)) pa_nil))) pa_nil))))
    (pss_cons (ps_setLC (i:=5) sc__law_length.nd rfl (Or.inl rfl) rfl (Nc:=["a","b","length","pair"]) (ix:=[none,none,none,some 4]) (cscope (defScope s__law_length) ["wires","way","total","k","pair","found"] rfl rfl (by decide +kernel)) (pi_listK K (pv 0)) (fun C fp s H=>⟨(pg_tupK K (n:=3) rfl (pgs_cons (pg_name (i:=0) (show (["a","b","length","pair"]:List Str).Nodup by decide +kernel) rfl (Or.inl rfl)) (pgs_cons (pg_name (i:=1) (show (["a","b","length","pair"]:List Str).Nodup by decide +kernel) rfl (Or.inl rfl)) (pgs_cons (pg_name (i:=2) (show (["a","b","length","pair"]:List Str).Nodup by decide +kernel) rfl (Or.inl rfl)) pgs_nil)))),(pts_one (pt_cmpR (op_eqD K (hu16 hr)) (pe_tup (pa_cons (pv 0) (pa_cons (pv 1) pa_nil))) (pv 3) (nomark _))),(pv 2)⟩))
    (pss_cons (ps_if (pt_cmpR (op_eqD K (hu16 hr)) (pv 5) (pe_lst pa_nil) (nomark _))
     (pss_one (ps_ret pe_non))
     (pss_nil))
    (pss_one (ps_set (i:=2) sc__law_length.nd rfl (Or.inl rfl) (pe_op op_add (pv 2) (pe_ix (ix_listK K) (pv 5) pe_int (fun _ _=>rfl))))))))))
   (pss_one (ps_ret (pv 2)))),?_⟩
  have hsz:(20000:Nat)≤sizeLine:=by decide
  obtain ⟨zs,z1,z2,z3⟩:=hl
  have zl:zs.length=ts.length:=by rw [← z3,List.length_map]
  refine ⟨_,rfl,wa,_,rfl,.inr hw,_,_,rfl,by rw [List.length_map];omega,?_⟩
  let I:Nat→_→_→Prop:=fun i σ H'=>∃ (tot:Int) (v3 v4 v5:Option V),σ=[some (.ref l),some (.ref wa),some (.int tot),v3,v4,v5]∧Same H H'∧wlen (eds ts) ws=(wlen (eds ts) (ws.drop i)).map (tot+·)
  have hn:((((ws.map V.int).length:Nat):Int) - 1).toNat=ws.length - 1:=by rw [List.length_map];omega
  refine for_range (lo:=1) (n:=((((ws.map V.int).length:Nat):Int) - 1).toNat) I ⟨0,none,none,none,rfl,.refl _,by rw [List.drop_zero];cases wlen (eds ts) ws <;> simp⟩ ?_ ?_
  ·rintro i σ H1 hi ⟨tot,v3,v4,v5,rfl,s1,e1⟩
   rw [hn] at hi
   obtain ⟨a,ea⟩:∃ a,ws[i]?=some a:=⟨ws[i],by simp [show i < ws.length by omega]⟩
   obtain ⟨b,eb⟩:∃ b,ws[i+1]?=some b:=⟨ws[i+1],by simp [show i+1 < ws.length by omega]⟩
   obtain ⟨d1,d2⟩:=drop2 ea eb
   have at0:atI (ws.map V.int) ((1+(i:Nat):Int) - 1)=some (.int a):=by
    rw [show (1+(i:Nat):Int) - 1=(i:Nat) by omega]
    exact atI_nat (by rw [List.getElem?_map,ea];rfl)
   have at1:atI (ws.map V.int) (1+(i:Nat):Int)=some (.int b):=by
    rw [show (1+(i:Nat):Int)=((i+1:Nat):Int) by omega]
    exact atI_nat (by rw [List.getElem?_map,eb];rfl)
   have hw1:=s1.tup hw
   refine ⟨_,rfl,_,rfl,_,_,rfl,rfl,wa,_,_,.int a,rfl,rfl,hw1,at0,_,rfl,_,rfl,wa,_,_,.int b,rfl,rfl,hw1,at1,_,_,rfl,?_⟩
   refine ⟨_,rfl,_,rfl,_,_,rfl,rfl,wa,_,_,.int a,rfl,rfl,hw1,at0,_,rfl,_,rfl,wa,_,_,.int b,rfl,rfl,hw1,at1,_,_,rfl,by show 2≤sizeLine;decide,fun pa hpa=>?_⟩
   have s2:=(Same.refl H1).new (o:=.tup [.int (if b < a then b else a),.int (if b > a then b else a)]) hpa
   have e2:SqT K (upd H1 pa (.tup [.int (if b < a then b else a),.int (if b > a then b else a)])) pa [.int (if b < a then b else a),.int (if b > a then b else a)]:=SqT.of upd_same
   generalize upd H1 pa (.tup [.int (if b < a then b else a),.int (if b > a then b else a)])=H2 at s2 e2 ⊢
   have S2:=s1.trans s2
   refine ⟨_,rfl,l,rfl,⟨_,SqL.of (S2 _ _ z1)⟩,fun D hD=>?_⟩
   let J:Nat→_→_→Prop:=fun j σ H'=>∃ v0 v1 v2:Option V,σ=[v0,v1,v2,some (.ref pa)]∧Same H2 H'∧H' D=some (.lst ((fnd (ts.take j) a b).map V.int))
   refine lc_list (K:=K) (a:=l) (xs:=zs.map (·.1)) J ⟨none,none,none,rfl,(Same.refl _).new hD,upd_same⟩ (fun j σ H' _ ⟨_,_,_,_,s,_⟩=>SqL.of ((S2.trans s) _ _ z1)) ?_ ?_
   ·rintro j y σ H3 N hN hj ⟨v0,v1,v2,rfl,s3,e3⟩
    rw [List.getElem?_map] at hj
    cases ez:zs[j]? with
    | none=>rw [ez] at hj;cases hj
    | some zt =>
     rw [ez] at hj
     obtain rfl:zt.1=y:=Option.some.inj hj
     have et:ts[j]?=some zt.2:=by rw [← z3,List.getElem?_map,ez];rfl
     have jl:j < ts.length:=(List.getElem?_eq_some_iff.mp et).1
     obtain ⟨za,ez1,g1⟩:=t3_out ((z2 zt (List.mem_of_getElem? ez)).same (S2.trans s3))
     refine ⟨za,_,ez1,g1,rfl,_,_,rfl,_,_,rfl,_,_,rfl,rfl,?_⟩
     refine ⟨_,rfl,_,rfl,by show 2≤sizeLine;decide,fun tp htp=>?_⟩
     have s4:=(Same.refl H3).new (o:=.tup [.int zt.2.1,.int zt.2.2.1]) htp
     have e4:SqT K (upd H3 tp (.tup [.int zt.2.1,.int zt.2.2.1])) tp [.int zt.2.1,.int zt.2.2.1]:=SqT.of upd_same
     generalize upd H3 tp (.tup [.int zt.2.1,.int zt.2.2.1])=H4 at s4 e4 ⊢
     refine ⟨_,rfl,.tuple [.int zt.2.1,.int zt.2.2.1],.tuple [.int (if b < a then b else a),.int (if b > a then b else a)],p2_dat e4,p2_dat ((s3.trans s4).tup e2),_,rfl,?_⟩
     rw [if_neg (by decide),p2_eqv]
     have fl:((fnd (ts.take j) a b).map V.int).length≤60:=by
      unfold fnd
      rw [List.length_map,List.length_map]
      refine Nat.le_trans (List.length_filter_le _ _) ?_
      rw [List.length_take];omega
     by_cases c:zt.2.1=(if b < a then b else a)∧zt.2.2.1=(if b > a then b else a)
     ·refine iteY c ?_
      refine ⟨_,rfl,_,s4 _ _ e3,by omega,hN _ _ ⟨_,_,_,rfl,(s3.trans s4).put hD,?_⟩⟩
      rw [upd_same,take_succ et]
      unfold fnd
      rw [List.filter_append,List.filter_cons_of_pos (by simpa using c),List.filter_nil,List.map_append,List.map_append]
      rfl
     ·refine iteN c (hN _ _ ⟨_,_,_,rfl,s3.trans s4,?_⟩)
      rw [s4 _ _ e3,take_succ et]
      unfold fnd
      rw [List.filter_append,List.filter_cons_of_neg (by simpa using c),List.filter_nil,List.append_nil]
   ·rintro σ H3 ⟨v0,v1,v2,rfl,s3,e3⟩
    rw [List.length_map,zl,List.take_length] at e3
    have fl:=fnd_look td a b
    refine ⟨_,rfl,by show 0≤sizeLine;decide,fun el hel=>?_⟩
    have s4:=(Same.refl H3).new (o:=.lst []) hel
    have e4:SqL K (upd H3 el (.lst [])) el (([]:List Int).map V.int):=SqL.of upd_same
    generalize upd H3 el (.lst [])=H4 at s4 e4 ⊢
    have S4:=S2.trans (s3.trans s4)
    refine ⟨.list ((fnd ts a b).map .int),.list (([]:List Int).map .int),ints_dat (SqL.of (s4 _ _ e3)),ints_dat e4,_,rfl,?_⟩
    rw [if_neg (by decide),eqv_ints]
    rw [d1,wlen_two,← fl] at e1
    cases ef:fnd ts a b with
    | nil =>
     refine iteY rfl ?_
     rw [ef] at e1
     have:=q H4 S4
     rw [e1] at this
     exact this
    | cons x r =>
     refine iteN (by intro z;cases z) ?_
     rw [ef] at e1 e3
     refine ⟨_,rfl,_,rfl,D,_,_,.int x,rfl,rfl,SqL.of (s4 _ _ e3),(by have z:=atI_nat (show ((x :: r).map V.int)[0]?=some (V.int x) from rfl);exact z),_,_,rfl,rfl,?_⟩
     refine ⟨_,_,_,_,rfl,S4,?_⟩
     rw [e1,d2]
     show ((wlen (eds ts) (b :: ws.drop (i+2))).map (x+·)).map (tot+·)=_
     rw [Option.map_map]
     congr 1
     funext z
     show tot+(x+z)=tot+x+z
     omega
  ·rintro σ H1 ⟨tot,v3,v4,v5,rfl,s1,e1⟩
   rw [hn] at e1
   have ew:wlen (eds ts) (ws.drop (ws.length - 1))=some 0:=by
    cases e:ws with
    | nil=>rw [List.drop_nil,wlen];intro x y r z;cases z
    | cons x r =>
     have:ws.drop (ws.length - 1)=[ws[ws.length - 1]'(by rw [e];simp)]:=by
      rw [List.drop_eq_getElem_cons (by rw [e];simp),List.drop_eq_nil_of_le (by omega)]
     rw [← e,this,wlen_one]
   rw [ew] at e1
   have:=q H1 s1
   rw [e1] at this
   have e:tot+0=tot:=by omega
   refine ⟨_,rfl,?_⟩
   show Q (.int tot) H1
   rw [← e]
   exact this
end
end K52
namespace K52
open PySem L2 PyProof.Rows
section
variable {P:Program} {w:World} {K:PySem.W.Frag} {mg:Str→Option Value} {base:Heap} {t:Ad}
theorem Wl.wlen {L:List (Tk × Int)} (kn:(L.map (·.1)).Nodup) {goal x s:Int} {ws:List Int} (h:Wl L goal x ws s):wlen L ws=some s∧ws.getLast?=some goal:=by
 induction h with
 | done=>exact ⟨wlen_one _ _,rfl⟩
 | @step x e l s ws h w ih =>
  obtain ⟨t,rfl⟩:=w.head
  rw [wlen_two,(look_iff kn).mpr h,ih.1]
  exact ⟨rfl,by rw [List.getLast?_cons_cons];exact ih.2⟩
theorem Gr.down {L:List (Tk × Int)} {hv:Hv} {goal x:Int} {ws:List Int} (f:Fin L goal hv) (h:Gr L hv goal x ws):∃ n,lk hv x=some n∧(∀ y ∈ ws,∃ m,lk hv y=some m∧m≤n)∧ws.Nodup:=by
 induction h with
 | done=>exact ⟨0,f.h.g,fun y hy=>by rw [List.mem_singleton.mp hy];exact ⟨0,f.h.g,Int.le_refl _⟩,by simp⟩
 | @step x e ws ne nx g ih =>
  obtain ⟨n,h1,h2,h3⟩:=ih
  obtain ⟨⟨l,m,h4,h5,h6⟩,_⟩:=nx
  rw [h1] at h5
  cases h5
  have l1:=f.pos h4
  refine ⟨n+l,h6,fun y hy=>?_,List.nodup_cons.mpr ⟨fun hm=>?_,h3⟩⟩
  ·rcases List.mem_cons.mp hy with rfl | hy
   ·exact ⟨_,h6,Int.le_refl _⟩
   ·obtain ⟨m,a,b⟩:=h2 y hy
    exact ⟨m,a,by omega⟩
  ·obtain ⟨m,a,b⟩:=h2 x hm
   rw [h6] at a
   cases a
   omega
theorem edsP_ed {ts:List T3} {p:Int × Int} (h:p ∈ edsP ts):∃ l,([p.1,p.2],l) ∈ eds ts:=by
 obtain ⟨t,ht,z⟩:=edsP_mem.mp h
 refine ⟨t.2.2,eds_mem.mpr ⟨t,ht,?_⟩⟩
 rcases z with rfl | rfl
 ·exact .inl rfl
 ·exact .inr rfl
theorem ed_edsP {ts:List T3} {a b l:Int} (h:([a,b],l) ∈ eds ts):(a,b) ∈ edsP ts:=by
 obtain ⟨t,ht,z⟩:=eds_mem.mp h
 refine edsP_mem.mpr ⟨t,ht,?_⟩
 rcases z with z | z
 ·have e:=(Prod.mk.inj z).1
  simp only [List.cons.injEq,and_true] at e
  exact .inl (Prod.ext e.1 e.2)
 ·have e:=(Prod.mk.inj z).1
  simp only [List.cons.injEq,and_true] at e
  exact .inr (Prod.ext e.1 e.2)
theorem waysF_mem {ts:List T3} {goal:Int}:∀ (n:Nat) {pre:List Int} {z:Int} {v:List Int},(pre ++ [z]).Nodup→v ∈ waysF ts goal n (pre ++ [z])→∃ s tot,v=pre ++ z :: s∧Wl (eds ts) goal z (z :: s) tot∧v.Nodup
 | 0,_,_,_,_,h=>by rw [waysF] at h;exact absurd h List.not_mem_nil
 | n+1,pre,z,v,nd,h=>by
  rw [waysF_succ] at h
  by_cases c:(pre ++ [z]).getLast?=some goal
  ·rw [if_pos c] at h
   rw [List.getLast?_concat] at c
   cases c
   rw [List.mem_singleton.mp h]
   exact ⟨[],0,rfl,.done,nd⟩
  ·rw [if_neg c] at h
   obtain ⟨p,hp,hv⟩:=List.mem_flatMap.mp h
   unfold stepW at hv
   split at hv
   ·rename_i hc
    have h1:=hc.1
    rw [List.getLast?_concat] at h1
    have h1:=Option.some.inj h1
    obtain ⟨s,tot,e,w,nv⟩:=waysF_mem n (pre:=pre ++ [z]) (z:=p.2) (List.nodup_append.mpr ⟨nd,by simp,fun a ha b hb=>by rw [List.mem_singleton.mp hb];rintro rfl;exact hc.2 ha⟩) hv
    obtain ⟨l,hl⟩:=edsP_ed hp
    rw [← h1] at hl
    exact ⟨p.2 :: s,l+tot,by rw [e];simp,.step hl w,nv⟩
   ·exact absurd hv List.not_mem_nil
theorem waysF_has {ts:List T3} {goal:Int} {z:Int} {ws:List Int} {tot:Int} (w:Wl (eds ts) goal z ws tot):∀ (n:Nat) (pre:List Int),ws.length≤n→(pre ++ ws).Nodup→pre ++ ws ∈ waysF ts goal n (pre ++ [z]):=by
 induction w with
 | done =>
  intro n pre hn nd
  obtain ⟨m,rfl⟩:∃ m,n=m+1:=⟨n - 1,by have:1≤n:=hn;omega⟩
  rw [waysF_succ,if_pos (by rw [List.getLast?_concat])]
  exact List.mem_singleton.mpr rfl
 | @step x e l s ws h w ih =>
  intro n pre hn nd
  rw [List.length_cons] at hn
  obtain ⟨m,rfl⟩:∃ m,n=m+1:=⟨n - 1,by omega⟩
  obtain ⟨t,rfl⟩:=w.head
  have gl:(e :: t).getLast?=some goal:=by
   clear ih hn nd h
   generalize e :: t=vs at w
   induction w with
   | done=>rfl
   | @step x e l s ws h w ih =>
    obtain ⟨t,rfl⟩:=w.head
    rw [List.getLast?_cons_cons];exact ih
  have gm:goal ∈ e :: t:=List.mem_of_getLast? gl
  have nd2:=(List.nodup_append.mp nd).2.1
  have xg:x≠goal:=fun z=>(List.nodup_cons.mp nd2).1 (by rw [z];exact gm)
  rw [waysF_succ,if_neg (by rw [List.getLast?_concat];intro z;exact xg (Option.some.inj z))]
  refine List.mem_flatMap.mpr ⟨(x,e),ed_edsP h,?_⟩
  have ne:e ∉ pre ++ [x]:=fun hm=>by
   rcases List.mem_append.mp hm with hm | hm
   ·exact (List.nodup_append.mp nd).2.2 _ hm _ (List.mem_cons_of_mem _ List.mem_cons_self) rfl
   ·rw [List.mem_singleton.mp hm] at nd2
    exact (List.nodup_cons.mp nd2).1 List.mem_cons_self
  unfold stepW
  rw [if_pos ⟨by rw [List.getLast?_concat],ne⟩]
  have:=ih m (pre ++ [x]) (by omega) (by simpa using nd)
  simpa using this
theorem Wl.all {ts:List T3} {goal x tot:Int} {ws:List Int} (w:Wl (eds ts) goal x ws tot):∀ y ∈ ws,y=x∨∃ t ∈ ts,y=t.1∨y=t.2.1:=by
 induction w with
 | done=>intro y hy;exact .inl (List.mem_singleton.mp hy)
 | @step x e l s ws h w ih =>
  intro y hy
  rcases List.mem_cons.mp hy with rfl | hy
  ·exact .inl rfl
  ·rcases ih y hy with rfl | z
   ·obtain ⟨t,ht,z⟩:=eds_mem.mp h
    refine .inr ⟨t,ht,?_⟩
    rcases z with z | z
    ·have e:=(Prod.mk.inj z).1
     simp only [List.cons.injEq,and_true] at e
     exact .inr e.2
    ·have e:=(Prod.mk.inj z).1
     simp only [List.cons.injEq,and_true] at e
     exact .inl e.2
   ·exact .inr z
theorem HHold.le {L:List (Tk × Int)} {goal:Int} {ps:Hv} (h:HHold L goal ps) {x s:Int} (w:Wk L goal x s):∃ n,lk ps x=some n∧n≤s:=by
 induction w with
 | nil=>exact ⟨0,h.g,Int.le_refl _⟩
 | @cons x e l s he w ih =>
  obtain ⟨n,h1,h2⟩:=ih
  obtain ⟨m,h3⟩:=lk_some ((h.k x).mpr ⟨_,.cons he w⟩)
  have:=h.e x e l he m n h3 h1
  exact ⟨m,h3,by omega⟩
theorem HHold.in {L:List (Tk × Int)} {goal:Int} {ps:Hv} (h:HHold L goal ps) {x n:Int}:(x,n) ∈ ps↔lk ps x=some n:=by
 have nd:(ps.map (·.1)).Nodup:=h.r.imp fun z e=>by omega
 unfold lk
 constructor
 ·intro hm
  cases e:ps.find? fun p=>decide (p.1=x) with
  | none=>exact absurd (List.find?_eq_none.mp e _ hm) (by simp)
  | some q =>
   have h1:=List.mem_of_find?_eq_some e
   have h2:q.1=x:=by simpa using List.find?_some e
   obtain ⟨i,il,rfl⟩:=List.getElem_of_mem h1
   obtain ⟨j,jl,ej⟩:=List.getElem_of_mem hm
   have:i=j:=(List.getElem_inj (xs:=ps.map (·.1)) (h₀:=by simpa using il) (h₁:=by simpa using jl) nd).mp (by simp [ej,h2])
   subst this
   rw [ej]
   rfl
 ·intro hm
  obtain ⟨q,e,rfl⟩:=Option.map_eq_some_iff.mp hm
  have h2:q.1=x:=by simpa using List.find?_some e
  rw [← h2]
  exact List.mem_of_find?_eq_some e
theorem lk_pairs {hv:Hv} {ns:List Int} (hp:ns.Perm (hv.map (·.1))) (x:Int):lk (pairsH hv ns) x=lk hv x:=by
 by_cases c:x ∈ ns
 ·obtain ⟨n,hn⟩:=lk_some (hp.mem_iff.mp c)
  rw [hn]
  unfold lk pairsH
  rw [List.find?_map]
  cases e:ns.find? ((fun p:Int × Int=>decide (p.1=x)) ∘ fun h=>(h,(lk hv h).getD 0)) with
  | none=>exact absurd (List.find?_eq_none.mp e x c) (by simp)
  | some y =>
   have h2:y=x:=by simpa using List.find?_some e
   subst h2
   show some ((lk hv y).getD 0)=some n
   rw [hn]
   rfl
 ·rw [lk_none.mpr (fun z=>c (hp.mem_iff.mpr z))]
  refine lk_none.mpr ?_
  unfold pairsH
  rw [List.map_map]
  intro hm
  obtain ⟨y,hy,e⟩:=List.mem_map.mp hm
  exact c (by rw [← show y=x from e];exact hy)
theorem pairs_keys (hv:Hv) (ns:List Int):(pairsH hv ns).map (·.1)=ns:=by
 unfold pairsH
 rw [List.map_map]
 exact List.map_id'' (fun _=>rfl) _
theorem Fin.hold {L:List (Tk × Int)} {goal:Int} {hv:Hv} (f:Fin L goal hv) {ns:List Int} (hp:ns.Perm (hv.map (·.1))) (hs:ns.Pairwise (·≤·)):HHold L goal (pairsH hv ns):=by
 refine ⟨fun x=>?_,?_,?_,fun b e l he m n h1 h2=>?_⟩
 ·rw [pairs_keys,hp.mem_iff]
  exact f.keys x
 ·rw [pairs_keys]
  exact rise_of hs (hp.nodup_iff.mpr f.h.nd)
 ·rw [lk_pairs hp]
  exact f.h.g
 ·rw [lk_pairs hp] at h1 h2
  obtain ⟨k,h3,h4⟩:=f.c _ he b e rfl n h2
  rw [h1] at h3
  cases h3
  have h4:m≤n+l:=h4
  omega
theorem Wk.congr {L L':List (Tk × Int)} (h:∀ e,e ∈ L→e ∈ L') {goal x s:Int} (w:Wk L goal x s):Wk L' goal x s:=by
 induction w with
 | nil=>exact .nil
 | cons h1 _ ih=>exact .cons (h _ h1) ih
theorem wlen_congr {L L':List (Tk × Int)} (kn:(L.map (·.1)).Nodup) (kn':(L'.map (·.1)).Nodup) (h:∀ e,e ∈ L↔e ∈ L'):∀ ws,wlen L ws=wlen L' ws
 | []=>by rw [wlen,wlen] <;> (intro x y r z;cases z)
 | [x]=>by rw [wlen_one,wlen_one]
 | x :: y :: r=>by
  rw [wlen_two,wlen_two,wlen_congr kn kn' h (y :: r)]
  have:lookT L [x,y]=lookT L' [x,y]:=by
   cases e:lookT L [x,y] with
   | none =>
    cases e':lookT L' [x,y] with
    | none=>rfl
    | some l =>
     rw [(look_iff kn).mpr ((h _).mpr ((look_iff kn').mp e'))] at e
     cases e
   | some l=>exact ((look_iff kn').mpr ((h _).mp ((look_iff kn).mp e))).symm
  rw [this]
theorem HHold.congr {L L':List (Tk × Int)} (h:∀ e,e ∈ L↔e ∈ L') {goal:Int} {ps:Hv} (z:HHold L goal ps):HHold L' goal ps :=
 ⟨fun x=>(z.k x).trans ⟨fun ⟨s,w⟩=>⟨s,w.congr fun e=>(h e).mp⟩,fun ⟨s,w⟩=>⟨s,w.congr fun e=>(h e).mpr⟩⟩,z.r,z.g,fun b e l he=>z.e b e l ((h _).mpr he)⟩
theorem WHold.congr {L L':List (Tk × Int)} (kn:(L.map (·.1)).Nodup) (kn':(L'.map (·.1)).Nodup) (h:∀ e,e ∈ L↔e ∈ L') {one other:Int} {ws:List Int} {ps:Hv} (z:WHold L one other ws ps):WHold L' one other ws ps :=
 ⟨z.1,z.2.1.congr h,by rw [← wlen_congr kn kn' h];exact z.2.2⟩
theorem eds_congr {ts ts':List T3} (h:∀ t,t ∈ ts↔t ∈ ts') (e:Tk × Int):e ∈ eds ts↔e ∈ eds ts':=by
 rw [eds_mem,eds_mem]
 constructor
 ·rintro ⟨t,ht,z⟩;exact ⟨t,(h t).mp ht,z⟩
 ·rintro ⟨t,ht,z⟩;exact ⟨t,(h t).mpr ht,z⟩
end
end K52
namespace K52
open PySem L2 PyProof.Rows
section
variable {P:Program} {w:World} {K:PySem.W.Frag} {mg:Str→Option Value} {base:Heap} {t:Ad}
structure GoodW (ts:List T3) (one other:Int) (v:List Int) (tot:Int):Prop where
 w:Wl (eds ts) other one v tot
 n:v.Nodup
theorem GoodW.goes {ts:List T3} (td:Tsd ts) {one other tot:Int} {v:List Int} (g:GoodW ts one other v tot):GoesR v one other:=by
 obtain ⟨t,rfl⟩:=g.w.head
 exact ⟨rfl,(g.w.wlen (eds_keys td)).2,g.n⟩
theorem ways_good {ts:List T3} {one other:Int} {n:Nat} {v:List Int} (h:v ∈ waysF ts other n [one]):∃ tot,GoodW ts one other v tot:=by
 obtain ⟨s,tot,e,w,nd⟩:=waysF_mem n (pre:=[]) (z:=one) (by simp) h
 rw [List.nil_append] at e
 subst e
 exact ⟨tot,w,nd⟩
theorem good_len {ts:List T3} {one other tot:Int} {v hs6:List Int} (g:GoodW ts one other v tot) (h6:hs6.length=6) (en:∀ t ∈ ts,t.1 ∈ hs6∧t.2.1 ∈ hs6):v.length≤7:=by
 have:=pigeonW (one :: hs6) v g.n fun y hy=>by
  rcases g.w.all y hy with rfl | ⟨t,ht,rfl | rfl⟩
  ·exact List.mem_cons_self
  ·exact List.mem_cons_of_mem _ (en t ht).1
  ·exact List.mem_cons_of_mem _ (en t ht).2
 rw [List.length_cons,h6] at this
 exact this
theorem good_ways {ts:List T3} {one other tot:Int} {v hs6:List Int} (g:GoodW ts one other v tot) (h6:hs6.length=6) (en:∀ t ∈ ts,t.1 ∈ hs6∧t.2.1 ∈ hs6):v ∈ waysF ts other 7 [one]:=by
 have:=waysF_has g.w 7 [] (good_len g h6 en) (by simpa using g.n)
 simpa using this
theorem Wl.congr {L L':List (Tk × Int)} (h:∀ e,e ∈ L→e ∈ L') {goal x s:Int} {ws:List Int} (w:Wl L goal x ws s):Wl L' goal x ws s:=by
 induction w with
 | done=>exact .done
 | step h1 _ ih=>exact .step (h _ h1) ih
def sp__law_right (K:PySem.W.Frag) (C:Addr):Sp:=fun vs H Q _=>∃ (x d l cl:Addr) (one other:Int) (ms:Ms) (ts:List T3) (hs6 cs:List Int),vs=[.ref x,.ref l,.int one,.int other,.ref cl]∧MpAt K C H x d ms∧ms.length≤12∧MsOk ms∧WqOk ms∧WlAt K H l ts∧Tsd ts∧ts.length≤60∧(∀ t,t ∈ ts↔Stands ms t)∧hs6.length=6∧(∀ t ∈ ts,t.1 ∈ hs6∧t.2.1 ∈ hs6)∧SqL K H cl (cs.map V.int)∧∀ H',Same H H'→Q (.bl true) H'
theorem sc__law_right:FnScope ["known","wires","one","other","cells","ways","least","told","way","near","cell","lows","heights"] ["known","wires","one","other","cells"] (defScope s__law_right):=⟨rfl,rfl,rfl,by decide +kernel,rfl,by decide +kernel,by decide +kernel⟩
set_option maxHeartbeats 4000000 in
theorem ok__law_right (F:Site K mg "_law_right" s__law_right) (T:Txt K mg t) (D_way_of:Def P w K mg base 4 "way_of" ["chart","one","other"] (sp_way_of K t.Map)) (D_way_judged:Def P w K mg base 4 "way_judged" ["chart","one","other","answer"] (sp_way_judged K t.Map)) (D__law_ways:Def P w K mg base 8 "_law_ways" ["wires","way","goal"] (spWy K 7)) (D__law_length:Def P w K mg base 1 "_law_length" ["wires","way"] (sp__law_length K)) (D__law_drawn:Def P w K mg base 2 "_law_drawn" ["cell","bounds"] (sp__law_drawn K)):Def P w K mg base 9 "_law_right" ["known","wires","one","other","cells"] (sp__law_right K t.Map):=by
 refine F.def sc__law_right (fun _ _ _ _ _ _ us hl=>match us,hl with | [_,_,_,_,_],_=>rfl) (fun vs H Q E h=>?_) (fun f cdv A outer s H vs Q E hr h=>?_)
 ·obtain ⟨x,d,l,cl,one,other,ms,ts,hs6,cs,rfl,_⟩:=h
  rfl
 ·obtain ⟨x,d,l,cl,one,other,ms,ts,hs6,cs,rfl,hM,ml,okm,hq,hl,td,tl,hms,h6,en,hc,q⟩:=h
  refine ⟨_,pss_cons (ps_set (i:=5) sc__law_right.nd rfl (Or.inl rfl) (pe_def (D__law_ways.mono (by decide)) hr passN (pa_cons (pv 1) (pa_cons (pe_tup (pa_cons (pv 2) pa_nil)) (pa_cons (pv 3) pa_nil)))))
   (pss_cons (ps_if (pt_cmpR (op_eqGK K (hu16 hr)) (pv 5) (pe_lst pa_nil) (nomark _))
    (pss_one (ps_ret (pe_cmpR op_eq (pe_ix (ix_tupK K) (pe_def (D_way_of.mono (by decide)) hr passN (pa_cons (pv 0) (pa_cons (pv 2) (pa_cons (pv 3) pa_nil)))) pe_int (fun _ _=>rfl)) pe_str (nomark _))))
    (pss_nil))
   (pss_cons (ps_set (i:=6) sc__law_right.nd rfl (Or.inl rfl) (pe_callB (call_minK K) (by rfl) T.n_min boot_min (pa_cons (pe_lc rfl (Nc:=["way","wires"]) (ix:=[none,some 1]) (cscope (defScope s__law_right) ["known","wires","one","other","cells","ways","least","told","way","near","cell","lows","heights"] rfl rfl (by decide +kernel)) (pi_listK K (pv 5)) (fun C fp s H=>⟨(pg_name (i:=0) (show (["way","wires"]:List Str).Nodup by decide +kernel) rfl (Or.inl rfl)),pts_nil,(pe_def (D__law_length.mono (by decide)) hr passN (pa_cons (pv 1) (pa_cons (pv 0) pa_nil)))⟩)) pa_nil)))
   (pss_cons (ps_set (i:=7) sc__law_right.nd rfl (Or.inr rfl) (pe_def (D_way_of.mono (by decide)) hr passN (pa_cons (pv 0) (pa_cons (pv 2) (pa_cons (pv 3) pa_nil)))))
   (pss_cons (PS.nox (ps_for PassesOwn.never rfl (pi_listK K (pe_op (op_catK K) (pe_slice (sl_listK K) (pv 5) po_none (po_some pe_int)) (pe_lst (pa_cons (pe_ix (ix_tupK K) (pv 7) pe_int (fun _ _=>rfl)) pa_nil)))) (pg_name (i:=8) sc__law_right.nd rfl (Or.inl rfl))
    (pss_cons (ps_set (i:=9) sc__law_right.nd rfl (Or.inl rfl) (pe_cmpR op_eq (pe_def (D__law_length.mono (by decide)) hr passN (pa_cons (pv 1) (pa_cons (pv 8) pa_nil))) (pv 6) (nomark _)))
    (pss_cons (ps_if (pt_cmpR op_ne (pe_def (D_way_judged.mono (by decide)) hr passN (pa_cons (pv 0) (pa_cons (pv 2) (pa_cons (pv 3) (pa_cons (pe_tup (pa_cons pe_str (pa_cons (pv 8) (pa_cons (pe_ix (ix_tupK K) (pv 7) pe_int (fun _ _=>rfl)) pa_nil)))) pa_nil))))) (pv 9) (nomark _))
     (pss_one (ps_ret pe_bl))
     (pss_nil))
    (pss_one (ps_for PassesOwn.never rfl (pi_listK K (pv 4)) (pg_name (i:=10) sc__law_right.nd rfl (Or.inl rfl))
     (pss_cons (ps_set (i:=11) sc__law_right.nd rfl (Or.inr rfl) (pe_def (D__law_drawn.mono (by decide)) hr passN (pa_cons (pv 10) (pa_cons (pe_op op_rep (pe_lst (pa_cons pe_int pa_nil)) (pe_callB (call_lenK K) (by rfl) T.n_len boot_len (pa_cons (pe_ix (ix_tupK K) (pv 7) pe_int (fun _ _=>rfl)) pa_nil))) pa_nil))))
     (pss_cons (ps_setLC (i:=12) sc__law_right.nd rfl (Or.inl rfl) rfl (Nc:=["k","told","lows"]) (ix:=[none,some 7,some 11]) (cscope (defScope s__law_right) ["known","wires","one","other","cells","ways","least","told","way","near","cell","lows","heights"] rfl rfl (by decide +kernel)) (pi_range1 (by rfl) T.n_range (pa_cons (pe_callB (call_lenK K) (by rfl) T.n_len boot_len (pa_cons (pe_ix (ix_tupK K) (pv 7) pe_int (fun _ _=>rfl)) pa_nil)) pa_nil)) (fun C fp s H=>⟨(pg_name (i:=0) (show (["k","told","lows"]:List Str).Nodup by decide +kernel) rfl (Or.inl rfl)),pts_nil,(pe_tup (pa_cons (pe_ix (ix_tupK K) (pe_ix (ix_listK K) (pe_ix (ix_tupK K) (pv 1) pe_int (fun _ _=>rfl)) (pv 0) (fun _ _=>rfl)) pe_int (fun _ _=>rfl)) (pa_cons (pe_op op_sub (pe_op op_add (pe_ix (ix_tupK K) (pe_ix (ix_listK K) (pe_ix (ix_tupK K) (pv 1) pe_int (fun _ _=>rfl)) (pv 0) (fun _ _=>rfl)) pe_int (fun _ _=>rfl)) pe_int) (pe_ix (ix_listK K) (pv 2) (pv 0) (fun _ _=>rfl))) pa_nil)))⟩))
     (pss_one (ps_if (PW.pt (pw_and (pt_val (pe_def (D_way_judged.mono (by decide)) hr passN (pa_cons (pv 0) (pa_cons (pv 2) (pa_cons (pv 3) (pa_cons (pe_tup (pa_cons pe_str (pa_cons (pv 8) (pa_cons (pv 12) pa_nil)))) pa_nil)))))) (pw_and1 (pt_not (pt_val (pv 9))))))
      (pss_one (ps_ret pe_bl))
      (pss_nil)))))))))))
   (pss_one (ps_ret pe_bl)))))),?_⟩
  have hsz:(20000:Nat)≤sizeLine:=by decide
  have kn:=eds_keys td
  refine ⟨_,rfl,_,rfl,by show 1≤sizeLine;decide,fun t1 ht1=>?_⟩
  have s1:=(Same.refl H).new (o:=.tup [.int one]) ht1
  have e1:SqT K (upd H t1 (.tup [.int one])) t1 ([one].map V.int):=SqT.of upd_same
  generalize upd H t1 (.tup [.int one])=H1 at s1 e1 ⊢
  have wy:Wy ts (one :: hs6) 6 [one]:=⟨by simp,by simp,fun y hy=>by rw [List.mem_singleton.mp hy];exact List.mem_cons_self,fun t ht=>⟨List.mem_cons_of_mem _ (en t ht).1,List.mem_cons_of_mem _ (en t ht).2⟩,by show 1+6=hs6.length+1;omega⟩
  refine ⟨_,rfl,l,t1,other,ts,one :: hs6,[one],rfl,hl.same s1,td,e1,wy,by rw [List.length_cons,h6];decide,fun ra H2 s2 wA=>?_⟩
  have S2:=s1.trans s2
  obtain ⟨zs,z1,z2,z3⟩:=wA.ex
  have zlen:zs.length≤720:=by
   have h1:=congrArg List.length z3
   rw [List.length_map] at h1
   have h2:=waysF_len td (goal:=other) 6 wy
   have h3:=fac_720 6 (Nat.le_refl _)
   exact Nat.le_trans (Nat.le_of_eq h1) (Nat.le_trans h2 h3)
  refine ⟨_,rfl,by show 0≤sizeLine;decide,fun el hel=>?_⟩
  have s3:=(Same.refl H2).new (o:=.lst []) hel
  have e3:(upd H2 el (.lst [])) el=some (.lst []):=upd_same
  generalize upd H2 el (.lst [])=H3 at s3 e3 ⊢
  have S3:=S2.trans s3
  by_cases cz:zs=[]
  ·subst cz
   refine ⟨ra,el,_,_,rfl,rfl,SqL.of (s3 _ _ z1),SqL.of e3,.inl ⟨rfl,fun j u v hu=>(by cases hu),_,rfl,?_⟩⟩
   refine (show if (!false)=true then _ else _ from iteT ?_)
   refine ⟨_,rfl,_,rfl,_,rfl,x,d,one,other,ms,rfl,hM.same S3,ml,okm,hq,fun ts' hv hv2 ns r p H4 s4 hm tsd fin en' fin2 pn sn hr1 hp1=>?_,fun ts' hv n ns ws r p hl' H4 s4 hm tsd fin en' gr pn sn hr1 hp1 nhl pr=>?_⟩
   ·refine ⟨r,_,_,.str "side",rfl,rfl,hr1,rfl,rfl,?_⟩
    have e:decide (V.str "side"=V.str "side")=true:=by decide
    have:=q H4 (S3.trans s4)
    rw [← e] at this
    exact this
   ·obtain ⟨n',h1,w⟩:=gr.wl fin
    obtain ⟨_,_,_,nd⟩:=gr.down fin
    have g:GoodW ts one other ws n':=⟨w.congr fun e he=>(eds_congr (fun t=>(hm t).trans (hms t).symm) e).mp he,nd⟩
    have:=good_ways g h6 en
    rw [← z3] at this
    exact absurd this List.not_mem_nil
  ·refine ⟨ra,el,_,_,rfl,rfl,SqL.of (s3 _ _ z1),SqL.of e3,.inr ⟨fun z=>cz (by rw [List.length_map] at z;exact List.length_eq_zero_iff.mp z),_,rfl,?_⟩⟩
   refine iteF ?_
   have good:∀ z ∈ zs,∃ tot,GoodW ts one other z.2 tot:=fun z hz=>ways_good (n:=7) (by rw [← z3];exact List.mem_map.mpr ⟨z,hz,rfl⟩)
   refine ⟨_,rfl,ra,rfl,⟨_,SqL.of (s3 _ _ z1)⟩,fun D hD=>?_⟩
   let J:Nat→_→_→Prop:=fun i σ H'=>∃ v:Option V,σ=[v,some (.ref l)]∧Same H3 H'∧H' D=some (.lst (((zs.take i).map fun z=>(wlen (eds ts) z.2).getD 0).map V.int))
   refine lc_list (K:=K) (a:=ra) (xs:=zs.map fun z=>V.ref z.1) J ⟨none,rfl,(Same.refl _).new hD,upd_same⟩ (fun i σ H' _ ⟨_,_,s,_⟩=>SqL.of (s _ _ (s3 _ _ z1))) ?_ ?_
   ·rintro i y σ H4 N hN hi ⟨v,rfl,s4,e4⟩
    rw [List.getElem?_map] at hi
    cases ez:zs[i]? with
    | none=>rw [ez] at hi;cases hi
    | some z =>
     rw [ez] at hi
     cases hi
     have hz:=List.mem_of_getElem? ez
     have il:i < zs.length:=(List.getElem?_eq_some_iff.mp ez).1
     obtain ⟨tot,g⟩:=good z hz
     have gl:=good_len g h6 en
     have ew:=(g.w.wlen kn).1
     refine turn_do ?_
     refine ⟨_,rfl,_,rfl,l,z.1,ts,z.2,rfl,hl.same (S3.trans s4),td,tl,(s3.trans s4).tup (z2 z hz),by omega,fun H5 s5=>?_⟩
     rw [ew]
     refine ⟨_,s5 _ _ e4,by rw [List.length_map,List.length_map,List.length_take];omega,hN _ _ ⟨_,rfl,(s4.trans s5).put hD,?_⟩⟩
     rw [upd_same,take_succ ez,List.map_append,List.map_append,List.map_cons,ew]
     rfl
   rintro σ H4 ⟨v,rfl,s4,e4⟩
   rw [List.length_map,List.take_length] at e4
   refine ⟨D,_,rfl,SqL.of e4,fun e=>cz (List.map_eq_nil_iff.mp e),fun least hle hall=>?_⟩
   have S4:=S3.trans s4
   refine ⟨_,rfl,_,rfl,_,rfl,x,d,one,other,ms,rfl,hM.same S4,ml,okm,hq,fun ts' hv hv2 ns r p H5 s5 hm tsd fin en' fin2 pn sn hr1 hp1=>?_,fun ts' hv n ns ws r p hl' H5 s5 hm tsd fin en' gr pn sn hr1 hp1 nhl pr=>?_⟩
   ·obtain ⟨z,hz⟩:∃ z,z ∈ zs:=by
     cases zs with
     | nil=>exact absurd rfl cz
     | cons z _=>exact ⟨z,List.mem_cons_self⟩
    obtain ⟨tot,g⟩:=good z hz
    obtain ⟨n,h1,_⟩:=fin.le (g.w.congr fun e he=>(eds_congr (fun t=>(hm t).trans (hms t).symm) e).mpr he).wk
    rw [en'] at h1
    cases h1
   have ec:=eds_congr fun t=>(hm t).trans (hms t).symm
   have kn':=eds_keys tsd
   have hh0:=fin.hold pn sn
   have nl20:ns.length≤20:=by have f:=fin.h.few hm;rw [pn.length_eq,List.length_map];omega
   obtain ⟨n',hn',wt⟩:=gr.wl fin
   rw [en'] at hn'
   cases hn'
   obtain ⟨_,_,_,ndt⟩:=gr.down fin
   have gt:GoodW ts one other ws n:=⟨wt.congr fun e he=>(ec e).mp he,ndt⟩
   have le_n:∀ {v:List Int} {tot:Int},GoodW ts one other v tot→n≤tot:=fun {v tot} g=>by
    obtain ⟨m,h1,h2⟩:=fin.le (g.w.congr fun e he=>(ec e).mpr he).wk
    rw [en'] at h1
    cases h1
    exact h2
   have eln:least=n:=by
    obtain ⟨z,hz,e⟩:=List.mem_map.mp hle
    obtain ⟨tot,g⟩:=good z hz
    have h1:=le_n g
    rw [(g.w.wlen kn).1] at e
    have e:tot=least:=e
    have hw:=good_ways gt h6 en
    rw [← z3] at hw
    obtain ⟨z',hz',e'⟩:=List.mem_map.mp hw
    have h2:=hall _ (List.mem_map.mpr ⟨z',hz',rfl⟩)
    rw [show z'.2=ws from e',(gt.w.wlen kn).1] at h2
    have h2:least≤n:=h2
    omega
   subst eln
   have judge:∀ {v:List Int} {tot:Int} {ts2:List T3} {ps:Hv},GoodW ts one other v tot→(∀ t,t ∈ ts2↔Stands ms t)→Tsd ts2→WHold (eds ts2) one other v ps→tot=least:=fun {v tot ts2 ps} g hm2 td2 h=>by
    have h:=h.congr (eds_keys td2) kn' fun e=>eds_congr (fun t=>(hm2 t).trans (hm t).symm) e
    obtain ⟨_,hh,tot',e1,e2⟩:=h
    have e3:=(g.w.wlen kn).1
    rw [wlen_congr kn kn' fun e=>(ec e).symm,e1] at e3
    cases e3
    have e4:=(hh.in).mp e2
    obtain ⟨m,a1,a2⟩:=hh.le (fin.wk least.toNat (Nat.le_refl _) en')
    rw [e4] at a1
    cases a1
    have:=le_n g
    omega
   have judge0:∀ {v:List Int} {tot:Int} {ts2:List T3},GoodW ts one other v tot→(∀ t,t ∈ ts2↔Stands ms t)→Tsd ts2→(WHold (eds ts2) one other v (pairsH hv ns)↔tot=least):=fun {v tot ts2} g hm2 td2=>by
    refine ⟨judge g hm2 td2,fun e=>?_⟩
    have c2:∀ e,e ∈ eds ts'↔e ∈ eds ts2:=fun e=>eds_congr (fun t=>(hm t).trans (hm2 t).symm) e
    refine WHold.congr kn' (eds_keys td2) c2 ⟨g.goes td,hh0,tot,?_,?_⟩
    ·rw [wlen_congr kn' kn ec]
     exact (g.w.wlen kn).1
    ·rw [hh0.in,lk_pairs pn,en',e]
   have pl:(pairsH hv ns).length≤100:=by unfold pairsH;rw [List.length_map];omega
   have S5:=S4.trans s5
   have z15:=(s3.trans (s4.trans s5)) _ _ z1
   refine ⟨_,rfl,_,rfl,ra,_,rfl,SqL.of z15,fun sl hsl=>?_⟩
   have ecut:cutV (zs.map fun z=>V.ref z.1) none (some 12)=(zs.take 12).map fun z=>V.ref z.1:=by rw [cutV_ns (by decide),← List.map_take];rfl
   rw [ecut]
   have s6:=(Same.refl H5).new (o:=.lst ((zs.take 12).map fun z=>V.ref z.1)) hsl
   have e6:(upd H5 sl (.lst ((zs.take 12).map fun z=>V.ref z.1))) sl=some (.lst ((zs.take 12).map fun z=>V.ref z.1)):=upd_same
   generalize upd H5 sl (.lst ((zs.take 12).map fun z=>V.ref z.1))=H6 at s6 e6 ⊢
   refine ⟨_,rfl,r,_,_,.ref p,rfl,rfl,s6.tup hr1,rfl,by show 1≤sizeLine;decide,fun ol hol=>?_⟩
   have s7:=(Same.refl H6).new (o:=.lst [.ref p]) hol
   have e7:(upd H6 ol (.lst [.ref p])) ol=some (.lst [.ref p]):=upd_same
   generalize upd H6 ol (.lst [.ref p])=H7 at s7 e7 ⊢
   refine ⟨sl,ol,_,_,rfl,rfl,SqL.of (s7 _ _ e6),SqL.of e7,by rw [List.length_map,List.length_take];show _+1≤sizeLine;omega,fun wl hwl=>?_⟩
   have el2:(zs.take 12).map (fun z=>V.ref z.1) ++ [V.ref p]=(zs.take 12 ++ [(p,ws)]).map fun z=>V.ref z.1:=by rw [List.map_append];rfl
   rw [el2]
   have s8:=(Same.refl H7).new (o:=.lst ((zs.take 12 ++ [(p,ws)]).map fun z=>V.ref z.1)) hwl
   have e8:(upd H7 wl (.lst ((zs.take 12 ++ [(p,ws)]).map fun z=>V.ref z.1))) wl=some (.lst ((zs.take 12 ++ [(p,ws)]).map fun z=>V.ref z.1)):=upd_same
   generalize upd H7 wl (.lst ((zs.take 12 ++ [(p,ws)]).map fun z=>V.ref z.1))=H8 at s8 e8 ⊢
   have s58:=s6.trans (s7.trans s8)
   have S8:=S5.trans s58
   have vgood:∀ z ∈ zs.take 12 ++ [(p,ws)],(∃ tot,GoodW ts one other z.2 tot)∧SqT K H8 z.1 (z.2.map V.int):=fun z hz=>by
    rcases List.mem_append.mp hz with h | h
    ·have:=List.mem_of_mem_take h
     exact ⟨good z this,((s3.trans (s4.trans s5)).trans s58).tup (z2 z this)⟩
    ·rw [List.mem_singleton.mp h]
     exact ⟨⟨_,gt⟩,s58.tup hp1⟩
   generalize zs.take 12 ++ [(p,ws)]=vs at e8 vgood ⊢
   have pr8:=pr.same s58
   have hr8:=s58.tup hr1
   have hM8:=hM.same S8
   have hl8:=hl.same S8
   have hc8:=S8.seq hc
   let I:Nat→_→_→Prop:=fun i σ H'=>∃ v8 v9 v10 v11 v12:Option V,σ=[some (.ref x),some (.ref l),some (.int one),some (.int other),some (.ref cl),some (.ref ra),some (.int least),some (.ref r),v8,v9,v10,v11,v12]∧Same H8 H'
   refine ⟨wl,rfl,⟨_,SqL.of e8⟩,for_list (K:=K) (a:=wl) (xs:=vs.map fun z=>V.ref z.1) I ⟨none,none,none,none,none,rfl,.refl _⟩ (fun i σ H' _ ⟨_,_,_,_,_,_,s⟩=>SqL.of (s _ _ e8)) ?_ ?_⟩
   ·rintro i y σ H9 hi ⟨v8,v9,v10,v11,v12,rfl,s9⟩
    rw [List.getElem?_map] at hi
    cases ez:vs[i]? with
    | none=>rw [ez] at hi;cases hi
    | some z =>
     rw [ez] at hi
     cases hi
     obtain ⟨⟨tot,g⟩,hz⟩:=vgood z (List.mem_of_getElem? ez)
     have gl:=good_len g h6 en
     have ew:=(g.w.wlen kn).1
     refine ⟨_,rfl,_,rfl,l,z.1,ts,z.2,rfl,hl8.same s9,td,tl,s9.tup hz,by omega,fun HA sA=>?_⟩
     rw [ew]
     have SA:=s9.trans sA
     refine ⟨_,rfl,rfl,?_⟩
     refine ⟨_,rfl,_,rfl,_,rfl,_,rfl,_,rfl,r,_,_,.ref hl',rfl,rfl,SA.tup hr8,rfl,by show 3≤sizeLine;decide,fun an han=>?_⟩
     have sB:=(Same.refl HA).new (o:=.tup [.str "way",.ref z.1,.ref hl']) han
     have eB:SqT K (upd HA an (.tup [.str "way",.ref z.1,.ref hl'])) an [.str "way",.ref z.1,.ref hl']:=SqT.of upd_same
     generalize upd HA an (.tup [.str "way",.ref z.1,.ref hl'])=HB at sB eB ⊢
     have SB:=SA.trans sB
     refine ⟨x,d,an,z.1,hl',one,other,ms,z.2,pairsH hv ns,rfl,hM8.same SB,ml,okm,hq,eB,SB.tup hz,by omega,pr8.same SB,pl,fun b HC ts2 sC hm2 td2 hb=>?_⟩
     have SC:=SB.trans sC
     have eb:b=decide (V.int tot=V.int least):=by
      rw [Bool.eq_iff_iff,hb,judge0 g hm2 td2,decide_eq_true_iff]
      exact ⟨fun e=>congrArg V.int e,fun e=>V.int.inj e⟩
     refine ⟨_,rfl,rfl,_,rfl,?_⟩
     refine iteNN (congrArg V.bl eb) ?_
     let J:Nat→_→_→Prop:=fun i σ H'=>∃ v10 v11 v12:Option V,σ=[some (.ref x),some (.ref l),some (.int one),some (.int other),some (.ref cl),some (.ref ra),some (.int least),some (.ref r),some (.ref z.1),some (.bl (decide (V.int tot=V.int least))),v10,v11,v12]∧Same H8 H'
     refine ⟨_,rfl,cl,rfl,⟨_,SC.seq hc8⟩,for_list (K:=K) (a:=cl) (xs:=cs.map V.int) J ⟨_,_,_,rfl,SC⟩ (fun i σ H' _ ⟨_,_,_,_,s⟩=>s.seq hc8) ?_ ?_⟩
     ·rintro j y σ HD hj ⟨v10,v11,v12,rfl,sD⟩
      obtain ⟨c,_,rfl⟩:=item_of hj
      obtain ⟨ys,y1,y2,y3⟩:=(pr8.same sD).ex
      have yl:ys.length≤20:=by
       have:=congrArg List.length y3
       unfold pairsH at this
       rw [List.length_map,List.length_map] at this
       omega
      refine ⟨_,rfl,by show 1≤sizeLine;decide,fun p1 hp1'=>?_⟩
      have sE:=(Same.refl HD).new (o:=.lst [.int 4]) hp1'
      have eE:(upd HD p1 (.lst [.int 4])) p1=some (.lst [.int 4]):=upd_same
      generalize upd HD p1 (.lst [.int 4])=HE at sE eE ⊢
      have SE:=sD.trans sE
      have y1E:=sE _ _ y1
      refine ⟨_,rfl,r,_,_,.ref hl',rfl,rfl,SE.tup hr8,rfl,hl',_,rfl,.inl (SqL.of y1E),?_⟩
      have yn:(((ys.map fun z=>V.ref z.1).length:Nat):Int).toNat=ys.length:=by rw [List.length_map];omega
      refine ⟨p1,_,[.int 4],rfl,rfl,eE,by omega,by rw [List.length_map];omega,by rw [yn];show 1 * ys.length≤sizeLine;omega,fun p2 hp2=>?_⟩
      have er:(List.replicate (((ys.map fun z=>V.ref z.1).length:Nat):Int).toNat [V.int 4]).flatten=(List.replicate ys.length (4:Int)).map V.int:=by
       rw [yn]
       clear hp2 yn yl y3 y2 y1 y1E
       induction ys with
       | nil=>rfl
       | cons _ _ ih=>rw [List.length_cons,List.replicate_succ,List.replicate_succ,List.flatten_cons,ih];rfl
      rw [er]
      have sF:=(Same.refl HE).new (o:=.lst ((List.replicate ys.length (4:Int)).map V.int)) hp2
      have eF:(upd HE p2 (.lst ((List.replicate ys.length (4:Int)).map V.int))) p2=some (.lst ((List.replicate ys.length (4:Int)).map V.int)):=upd_same
      generalize upd HE p2 (.lst ((List.replicate ys.length (4:Int)).map V.int))=HF at sF eF ⊢
      refine ⟨c,p2,List.replicate ys.length 4,rfl,eF,by rw [List.length_replicate];omega,fun b' hb'=>by rw [List.eq_of_mem_replicate hb'];decide,fun lo HG lows sG nlo eG dk=>?_⟩
      have lol:lows.length=ys.length:=by rw [dk.1,List.length_replicate]
      have SG:=SE.trans (sF.trans sG)
      have SyG:=sE.trans (sF.trans sG)
      have y1G:=SyG _ _ y1
      refine ⟨_,rfl,r,_,_,.ref hl',rfl,rfl,SG.tup hr8,rfl,hl',_,rfl,.inl (SqL.of y1G),_,rfl,by rw [List.length_map];omega,by rw [List.length_map];omega,fun Dh hDh=>?_⟩
      let L':Nat→_→_→Prop:=fun k σ H'=>∃ (v:Option V) (qs:List (Addr × Int × Int)),σ=[v,some (.ref r),some (.ref lo)]∧Same HG H'∧H' Dh=some (.lst (qs.map fun z=>V.ref z.1))∧(∀ z ∈ qs,SqT K H' z.1 [.int z.2.1,.int z.2.2])∧qs.length=k
      refine lc_range (lo:=0) (n:=(((ys.map fun z=>V.ref z.1).length:Nat):Int).toNat) L' ⟨none,[],rfl,(Same.refl _).new hDh,upd_same,fun z hz=>absurd hz List.not_mem_nil,rfl⟩ ?_ ?_
      ·rintro k σ HI N hN hk ⟨v,qs,rfl,sI,eI,tI,ql⟩
       rw [yn] at hk
       obtain ⟨yk,eyk⟩:∃ y,ys[k]?=some y:=⟨ys[k],by simp [hk]⟩
       obtain ⟨lw,elw⟩:∃ m,lows[k]?=some m:=⟨lows[k]'(by omega),by simp [show k < lows.length by omega]⟩
       have aty:atI (ys.map fun z=>V.ref z.1) (0+(k:Nat):Int)=some (.ref yk.1):=by
        rw [show (0+(k:Nat):Int)=(k:Nat) by omega]
        exact atI_nat (by rw [List.getElem?_map,eyk];rfl)
       have atl:atI (lows.map V.int) (0+(k:Nat):Int)=some (.int lw):=by
        rw [show (0+(k:Nat):Int)=(k:Nat) by omega]
        exact atI_nat (by rw [List.getElem?_map,elw];rfl)
       have yI:=(SyG.trans sI).tup (y2 yk (List.mem_of_getElem? eyk))
       have rI:=(SG.trans sI).tup hr8
       have y1I:=sI _ _ y1G
       refine turn_do ?_
       refine ⟨_,rfl,r,_,_,.ref hl',rfl,rfl,rI,rfl,_,rfl,hl',_,_,.ref yk.1,rfl,rfl,SqL.of y1I,aty,yk.1,_,_,.int yk.2.1,rfl,rfl,yI,rfl,?_⟩
       refine ⟨_,rfl,r,_,_,.ref hl',rfl,rfl,rI,rfl,_,rfl,hl',_,_,.ref yk.1,rfl,rfl,SqL.of y1I,aty,yk.1,_,_,.int yk.2.2,rfl,rfl,yI,rfl,_,_,rfl,rfl,?_⟩
       refine ⟨_,rfl,_,rfl,lo,_,_,.int lw,rfl,rfl,SqL.of (sI _ _ eG),atl,_,_,rfl,rfl,by show 2≤sizeLine;decide,fun tp htp=>?_⟩
       have sJ:=(Same.refl HI).new (o:=.tup [.int yk.2.1,.int (yk.2.2+1 - lw)]) htp
       have eJ:SqT K (upd HI tp (.tup [.int yk.2.1,.int (yk.2.2+1 - lw)])) tp [.int yk.2.1,.int (yk.2.2+1 - lw)]:=SqT.of upd_same
       generalize upd HI tp (.tup [.int yk.2.1,.int (yk.2.2+1 - lw)])=HJ at sJ eJ ⊢
       have eI':=sJ _ _ eI
       have kp:=kept_of (o:=.lst (qs.map (fun z=>V.ref z.1) ++ [V.ref tp])) (NTu.lst eI')
       refine ⟨_,eI',by rw [List.length_map];omega,hN _ _ ⟨_,qs ++ [(tp,yk.2.1,yk.2.2+1 - lw)],rfl,(sI.trans sJ).put hDh,by rw [upd_same,List.map_append];rfl,fun z hz=>?_,by rw [List.length_append,ql];rfl⟩⟩
       rcases List.mem_append.mp hz with h | h
       ·exact kp.tup (sJ.tup (tI z h))
       ·rw [List.mem_singleton.mp h];exact kp.tup eJ
      rintro σ HI ⟨v,qs,rfl,sI,eI,tI,ql⟩
      have SI:=SG.trans sI
      refine ⟨_,rfl,_,rfl,_,rfl,_,rfl,_,rfl,by show 3≤sizeLine;decide,fun an2 han2=>?_⟩
      have sJ:=(Same.refl HI).new (o:=.tup [.str "way",.ref z.1,.ref Dh]) han2
      have eJ:SqT K (upd HI an2 (.tup [.str "way",.ref z.1,.ref Dh])) an2 [.str "way",.ref z.1,.ref Dh]:=SqT.of upd_same
      generalize upd HI an2 (.tup [.str "way",.ref z.1,.ref Dh])=HJ at sJ eJ ⊢
      have SJ:=SI.trans sJ
      refine ⟨x,d,an2,z.1,Dh,one,other,ms,z.2,qs.map (·.2),rfl,hM8.same SJ,ml,okm,hq,eJ,SJ.tup hz,by omega,⟨qs,sJ _ _ eI,fun y hy=>sJ.tup (tI y hy),rfl⟩,by rw [List.length_map,ql,yn];omega,fun b2 HK ts3 sK hm3 td3 hb2=>?_⟩
      have SK:=SJ.trans sK
      refine ⟨b2,rfl,?_⟩
      cases b2 with
      | false=>exact iteF ⟨_,_,_,rfl,SK⟩
      | true =>
       have e:=judge g hm3 td3 (hb2.mp rfl)
       refine iteT ?_
       refine ⟨_,rfl,_,rfl,?_⟩
       subst e
       exact iteNN rfl ⟨_,_,_,rfl,SK⟩
     ·rintro σ HD ⟨v10,v11,v12,rfl,sD⟩
      exact ⟨_,_,_,_,_,rfl,sD⟩
   ·rintro σ H9 ⟨v8,v9,v10,v11,v12,rfl,s9⟩
    exact q H9 (S8.trans s9)
end
end K52
namespace K52
open PySem L2 PyProof.Rows
section
variable {P:Program} {w:World} {K:PySem.W.Frag} {mg:Str→Option Value} {base:Heap} {t:Ad}
theorem sc_law:FnScope ["script","houses","many","near","known","wires","other","one"] ["script"] (defScope s_law):=⟨rfl,rfl,rfl,by decide +kernel,rfl,by decide +kernel,by decide +kernel⟩
set_option maxHeartbeats 4000000 in
theorem law_fn {f:Addr} {fd:FuncData} (T:Txt K mg t) (F:Fun K "law" "law" s_law f fd) (D__law_cell_at:Def P w K mg base 1 "_law_cell_at" ["script","k"] (sp__law_cell_at K)) (D__law_mixed:Def P w K mg base 1 "_law_mixed" ["cell","k"] sp__law_mixed) (D__law_news:Def P w K mg base 4 "_law_news" ["script","extra"] (sp__law_news K)) (D__law_map:Def P w K mg base 6 "_law_map" ["houses","many","near"] (sp__law_map K t.Map)) (D__law_wires:Def P w K mg base 1 "_law_wires" ["houses","many","near"] (sp__law_wires K)) (D__law_right:Def P w K mg base 9 "_law_right" ["known","wires","one","other","cells"] (sp__law_right K t.Map)):FnOk P w K mg base (CX1 P w) 10 f fd ["script"] (spLaw K):=by
 refine F.ok1 sc_law (fun vs H Q E h=>?_) (fun f cdv A outer s H vs Q E hr h=>?_)
 ·obtain ⟨a,ns,rfl,_⟩:=h
  rfl
 ·obtain ⟨sc,cs,rfl,hS,hlen,q⟩:=h
  refine ⟨_,pss_cons (ps_asg (pe_def (D__law_news.mono (by decide)) hr passN (pa_cons (pv 0) (pa_cons pe_int pa_nil))) (pg_tup rfl (pgs_cons (pg_name (i:=1) sc_law.nd rfl (Or.inl rfl)) (pgs_cons (pg_name (i:=2) sc_law.nd rfl (Or.inl rfl)) (pgs_cons (pg_name (i:=3) sc_law.nd rfl (Or.inl rfl)) pgs_nil)))))
   (pss_cons (ps_set (i:=4) sc_law.nd rfl (Or.inl rfl) (pe_def (D__law_map.mono (by decide)) hr passN (pa_cons (pv 1) (pa_cons (pv 2) (pa_cons (pv 3) pa_nil)))))
   (pss_cons (ps_set (i:=5) sc_law.nd rfl (Or.inl rfl) (pe_def (D__law_wires.mono (by decide)) hr passN (pa_cons (pv 1) (pa_cons (pv 2) (pa_cons (pv 3) pa_nil)))))
   (pss_cons (ps_set (i:=6) sc_law.nd rfl (Or.inl rfl) (pe_ix (ix_listK K) (pv 1) (pe_op op_mod (pe_def (D__law_mixed.mono (by decide)) hr passN (pa_cons (pe_def (D__law_cell_at.mono (by decide)) hr passN (pa_cons (pv 0) (pa_cons pe_int pa_nil))) (pa_cons pe_int pa_nil))) (pv 2)) (fun _ _=>rfl)))
   (pss_cons (PS.nox (ps_for PassesOwn.never rfl (pi_listK K (pe_slice (sl_listK K) (pv 1) po_none (po_some (pv 2)))) (pg_name (i:=7) sc_law.nd rfl (Or.inl rfl))
    (pss_one (ps_if (pt_not (pt_val (pe_def (D__law_right.mono (by decide)) hr passN (pa_cons (pv 4) (pa_cons (pv 5) (pa_cons (pv 7) (pa_cons (pv 6) (pa_cons (pe_op (op_catK K) (pe_slice (sl_listK K) (pv 0) po_none (po_some pe_int)) (pe_lst (pa_cons pe_int pa_nil))) pa_nil))))))))
     (pss_one (ps_ret pe_bl))
     (pss_nil)))))
   (pss_one (ps_ret pe_bl)))))),?_⟩
  have hsz:(20000:Nat)≤sizeLine:=by decide
  refine ⟨_,rfl,sc,cs,2,rfl,hS,by omega,by decide,by decide,fun r0 nl hl H1 os ds s1 hr0 nr nk hh hos ol d1 d6=>?_⟩
  refine ⟨r0,_,rfl,hr0,rfl,_,_,rfl,_,_,rfl,_,_,rfl,rfl,?_⟩
  refine ⟨_,rfl,_,rfl,_,rfl,nl,hl,os,ds,rfl,nr,nk,hh,hos,ol,d1,d6,fun x d H2 ms s2 nx ndd hM mo=>?_⟩
  have mf:=mo.f hM.nd
  have ml:ms.length≤6:=by rw [mo.l];exact d6
  obtain ⟨okm,hq⟩:=mf.ok fun k y hy=>⟨(nr.d y (List.mem_of_getElem? hy)).nd,nk.five d6 (List.getElem?_eq_some_iff.mp hy).1 hy (nr.d y (List.mem_of_getElem? hy)).nd,fun p hp=>(nk k y hy p hp).2⟩
  have hh2:=s2 _ _ hh
  refine ⟨_,rfl,_,rfl,_,rfl,nl,hl,os,ds,rfl,nr.same s2,hh2,hos,ol,d6,fun l H3 ts s3 w3 tm tp tl=>?_⟩
  have hms:∀ t,t ∈ ts↔Stands ms t:=fun t=>(tm t).trans (mf.stands t).symm
  have td:Tsd ts:=⟨fun t ht=>((tm t).mp ht).1,tp.imp_of_mem fun {a b} ha hb h e=>by
   have:=stands_uniq hM.nd okm ((hms a).mp ha) ((hms b).mp hb) e.1 e.2
   rw [this] at h
   exact List.lt_irrefl _ h⟩
  have en:∀ t ∈ ts,t.1 ∈ os.take 6∧t.2.1 ∈ os.take 6:=fun t ht=>by
   obtain ⟨_,i,j,e1,e2,h1,h2,⟨x1,g1,_⟩,⟨x2,g2,_⟩,_⟩:=(tm t).mp ht
   have i1:i < ds.length:=(List.getElem?_eq_some_iff.mp g1).1
   have j1:j < ds.length:=(List.getElem?_eq_some_iff.mp g2).1
   have tk:∀ {k:Nat} {h:Int},k < ds.length→os[k]?=some h→h ∈ os.take 6:=fun {k h} hk e=>List.mem_of_getElem? (show (os.take 6)[k]?=some h by rw [List.getElem?_take_of_lt (by omega)];exact e)
   exact ⟨tk i1 h1,tk j1 h2⟩
  have h6:(os.take 6).length=6:=by rw [List.length_take];omega
  have S3:=s1.trans (s2.trans s3)
  have hh3:=s3 _ _ hh2
  have mp:(0:Int) < (ds.length:Nat):=by omega
  refine ⟨_,rfl,_,rfl,sc,cs,0,rfl,S3.seq hS,by decide,fun c0=>?_⟩
  refine ⟨c0,80,rfl,by decide,by decide,fun m m0=>?_⟩
  obtain ⟨k,hk,kl⟩:∃ k:Nat,m % (ds.length:Nat)=(k:Int)∧k < ds.length:=by
   have h0:=Int.emod_nonneg m (show ((ds.length:Nat):Int)≠0 by omega)
   have h1:=Int.emod_lt_of_pos m mp
   exact ⟨(m % (ds.length:Nat)).toNat,by omega,by omega⟩
  obtain ⟨other,eo⟩:∃ h,os[k]?=some h:=⟨os[k]'(by omega),by simp [show k < os.length by omega]⟩
  refine ⟨_,rfl,_,_,rfl,rfl,mp,hl,_,_,.int other,rfl,rfl,SqL.of hh3,by rw [hk];exact atI_nat (by rw [List.getElem?_map,eo];rfl),?_⟩
  have ec:cutV (os.map V.int) none (some ((ds.length:Nat):Int))=(os.take ds.length).map V.int:=by rw [cutV_ns (by omega),← List.map_take];rfl
  refine ⟨_,rfl,_,rfl,_,rfl,hl,_,rfl,SqL.of hh3,fun sl hsl=>?_⟩
  rw [ec]
  have s4:=(Same.refl H3).new (o:=.lst ((os.take ds.length).map V.int)) hsl
  have e4:(upd H3 sl (.lst ((os.take ds.length).map V.int))) sl=some (.lst ((os.take ds.length).map V.int)):=upd_same
  generalize upd H3 sl (.lst ((os.take ds.length).map V.int))=H4 at s4 e4 ⊢
  let I:Nat→_→_→Prop:=fun i σ H'=>∃ v:Option V,σ=[some (.ref sc),some (.ref hl),some (.int (ds.length:Nat)),some (.ref nl),some (.ref x),some (.ref l),some (.int other),v]∧Same H4 H'
  refine ⟨sl,rfl,⟨_,SqL.of e4⟩,for_list (K:=K) (a:=sl) (xs:=(os.take ds.length).map V.int) I ⟨none,rfl,.refl _⟩ (fun i σ H' _ ⟨_,_,s⟩=>SqL.of (s _ _ e4)) ?_ ?_⟩
  ·rintro i y σ H5 hi ⟨v,rfl,s5⟩
   obtain ⟨one,_,rfl⟩:=item_of hi
   have S5:=S3.trans (s4.trans s5)
   refine ⟨_,rfl,_,rfl,_,rfl,_,rfl,_,rfl,_,rfl,sc,_,rfl,S5.seq hS,fun p1 hp1=>?_⟩
   obtain ⟨ys,ey,_,yl⟩:=cut_ints cs none (some 3)
   rw [ey]
   have s6:=(Same.refl H5).new (o:=.lst (ys.map V.int)) hp1
   have e6:(upd H5 p1 (.lst (ys.map V.int))) p1=some (.lst (ys.map V.int)):=upd_same
   generalize upd H5 p1 (.lst (ys.map V.int))=H6 at s6 e6 ⊢
   refine ⟨by show 1≤sizeLine;decide,fun p2 hp2=>?_⟩
   have s7:=(Same.refl H6).new (o:=.lst [.int 0]) hp2
   have e7:(upd H6 p2 (.lst [.int 0])) p2=some (.lst [.int 0]):=upd_same
   generalize upd H6 p2 (.lst [.int 0])=H7 at s7 e7 ⊢
   refine ⟨p1,p2,_,_,rfl,rfl,SqL.of (s7 _ _ e6),SqL.of e7,by rw [List.length_map];show _+1≤sizeLine;omega,fun p3 hp3=>?_⟩
   have el:ys.map V.int ++ [V.int 0]=(ys ++ [0]).map V.int:=by rw [List.map_append];rfl
   rw [el]
   have s8:=(Same.refl H7).new (o:=.lst ((ys ++ [0]).map V.int)) hp3
   have e8:(upd H7 p3 (.lst ((ys ++ [0]).map V.int))) p3=some (.lst ((ys ++ [0]).map V.int)):=upd_same
   generalize upd H7 p3 (.lst ((ys ++ [0]).map V.int))=H8 at s8 e8 ⊢
   have s58:=s6.trans (s7.trans s8)
   have Sx:=s3.trans (s4.trans (s5.trans s58))
   refine ⟨x,d,l,p3,one,other,ms,ts,os.take 6,ys ++ [0],rfl,hM.same Sx,by omega,okm,hq,w3.same (s4.trans (s5.trans s58)),td,by omega,hms,h6,en,SqL.of e8,fun H9 s9=>⟨true,rfl,?_⟩⟩
   refine (show if (!true)=true then _ else _ from iteF ?_)
   exact ⟨_,rfl,s5.trans (s58.trans s9)⟩
  ·rintro σ H5 ⟨v,rfl,s5⟩
   exact q _
end
end K52
namespace K52
open PySem L2 PyProof.Rows
section
variable {P:Program} {w:World} {K:PySem.W.Frag} {mg:Str→Option Value} {base:Heap} {t:Ad}
theorem law_all {f:Addr} {fd:FuncData} (T:Txt K mg t) (F:Fun K "law" "law" s_law f fd) (S_is_house:Site K mg "is_house" s_is_house) (S_lengths_of:Site K mg "lengths_of" s_lengths_of) (S_heights_to:Site K mg "heights_to" s_heights_to) (S_next_house:Site K mg "next_house" s_next_house) (S_least_way:Site K mg "least_way" s_least_way) (S_way_of:Site K mg "way_of" s_way_of) (S_way_length:Site K mg "way_length" s_way_length) (S_goes_from_to:Site K mg "goes_from_to" s_goes_from_to) (S_heights_hold:Site K mg "heights_hold" s_heights_hold) (S_way_holds:Site K mg "way_holds" s_way_holds) (S_side_holds:Site K mg "side_holds" s_side_holds) (S_way_judged:Site K mg "way_judged" s_way_judged) (S_look_house:Site K mg "look_house" s_look_house) (S_look_bounds:Site K mg "look_bounds" s_look_bounds) (S_look_unlike:Site K mg "look_unlike" s_look_unlike) (S_is_name:Site K mg "is_name" s_is_name) (S_look_names:Site K mg "look_names" s_look_names) (S_made_wire:Site K mg "made_wire" s_made_wire) (S_made_near:Site K mg "made_near" s_made_near) (S_made_news:Site K mg "made_news" s_made_news) (S__law_cell_at:Site K mg "_law_cell_at" s__law_cell_at) (S__law_mixed:Site K mg "_law_mixed" s__law_mixed) (S__law_drawn:Site K mg "_law_drawn" s__law_drawn) (S__law_houses:Site K mg "_law_houses" s__law_houses) (S__law_told:Site K mg "_law_told" s__law_told) (S__law_news:Site K mg "_law_news" s__law_news) (S__law_map:Site K mg "_law_map" s__law_map) (S__law_wires:Site K mg "_law_wires" s__law_wires) (S__law_ways:Site K mg "_law_ways" s__law_ways) (S__law_length:Site K mg "_law_length" s__law_length) (S__law_right:Site K mg "_law_right" s__law_right):FnOk P w K mg base (CX1 P w) 10 f fd ["script"] (spLaw K):=by
 obtain ⟨fd_init,Fun_init⟩:=T.fi
 obtain ⟨fd_hear,Fun_hear⟩:=T.f_hear
 obtain ⟨fd_news,Fun_news⟩:=T.f_news
 obtain ⟨fd_wires,Fun_wires⟩:=T.f_wires
 have D_is_house:=ok_is_house (P:=P) (w:=w) (base:=base) S_is_house T
 have D_look_house:=ok_look_house S_look_house T D_is_house
 have D_look_bounds:=ok_look_bounds (P:=P) (w:=w) (base:=base) S_look_bounds T
 have D_look_unlike:=ok_look_unlike (P:=P) (w:=w) (base:=base) S_look_unlike T
 have D_is_name:=ok_is_name (P:=P) (w:=w) (base:=base) S_is_name T
 have D_look_names:=ok_look_names S_look_names T D_look_unlike D_is_name
 have D_made_wire:=ok_made_wire S_made_wire T D_look_house D_look_bounds
 have D_made_near:=ok_made_near S_made_near T D_made_wire D_look_unlike
 have D_made_news:=ok_made_news S_made_news T D_look_house D_look_bounds D_look_names D_made_near
 obtain ⟨F_init,B_init⟩:=ok_init (P:=P) (w:=w) (base:=base) T Fun_init
 obtain ⟨F_hear,B_hear⟩:=ok_hear (P:=P) (w:=w) (base:=base) T Fun_hear
 obtain ⟨F_news,B_news⟩:=ok_news (P:=P) (w:=w) (base:=base) T Fun_news
 obtain ⟨F_wires,B_wires⟩:=ok_wires T Fun_wires F_news B_news
 have D_lengths_of:=ok_lengths_of S_lengths_of T F_wires B_wires
 have D_heights_to:=ok_heights_to (P:=P) (w:=w) (base:=base) S_heights_to T
 have D_next_house:=ok_next_house (P:=P) (w:=w) (base:=base) S_next_house T
 have D_least_way:=ok_least_way S_least_way T D_next_house
 have D_way_of:=ok_way_of S_way_of T D_lengths_of D_heights_to D_least_way
 have D__law_cell_at:=ok__law_cell_at (P:=P) (w:=w) (base:=base) S__law_cell_at T
 have D__law_mixed:=ok__law_mixed (P:=P) (w:=w) (base:=base) S__law_mixed T
 have D__law_drawn:=ok__law_drawn S__law_drawn T D__law_mixed
 have D__law_houses:=ok__law_houses (P:=P) (w:=w) (base:=base) S__law_houses T
 have D__law_told:=ok__law_told S__law_told T D__law_drawn
 have D__law_news:=ok__law_news S__law_news T D__law_cell_at D__law_mixed D__law_drawn D__law_houses D__law_told
 have D__law_map:=ok__law_map S__law_map T F_init B_init F_hear B_hear D_made_news
 have D__law_wires:=ok__law_wires (P:=P) (w:=w) (base:=base) S__law_wires T
 have D_way_length:=ok_way_length (P:=P) (w:=w) (base:=base) S_way_length T
 have D_goes_from_to:=ok_goes_from_to (P:=P) (w:=w) (base:=base) S_goes_from_to T
 have D_heights_hold:=ok_heights_hold S_heights_hold T D_heights_to
 have D_way_holds:=ok_way_holds S_way_holds T D_goes_from_to D_heights_hold D_way_length
 have D_side_holds:=no_side_holds (P:=P) (w:=w) (base:=base) S_side_holds
 have D_way_judged:=ok_way_judged S_way_judged T D_lengths_of D_way_holds D_side_holds
 have D__law_ways:=ok__law_ways (P:=P) (w:=w) (base:=base) S__law_ways T
 have D__law_length:=ok__law_length (P:=P) (w:=w) (base:=base) S__law_length T
 have D__law_right:=ok__law_right S__law_right T D_way_of D_way_judged D__law_ways D__law_length D__law_drawn
 exact law_fn T F D__law_cell_at D__law_mixed D__law_news D__law_map D__law_wires D__law_right
end
end K52
namespace K52
open PySem L2 PyProof.Rows
theorem txt_mk {K:PySem.W.Frag} {h:Heap} {mg:Str→Option Value} {a_BadNews a_Map a_init a_m_hear a_m_news a_m_wires a_m_holder a_m_copy:Addr} {tk_cHOUSES tk_cLONGEST_NAME tk_cMOST_BIRTH tk_cMOST_NAMES tk_cMOST_NEAR tk_cMOST_NUMBER tk_cMOST_QUIET:Tok} {ioc:Value} {iod ian:Option Addr} {iosl:Array (Option Value)} {ikV idoc ipm icdv ict:Value} {oc_hear:Value} {od_hear an_hear:Option Addr} {osl_hear:Array (Option Value)} {kV_hear doc_hear pm_hear cdv_hear ct_hear:Value} {oc_news:Value} {od_news an_news:Option Addr} {osl_news:Array (Option Value)} {kV_news doc_news pm_news cdv_news ct_news:Value} {oc_wires:Value} {od_wires an_wires:Option Addr} {osl_wires:Array (Option Value)} {kV_wires doc_wires pm_wires cdv_wires ct_wires:Value} {oc_holder:Value} {od_holder an_holder:Option Addr} {osl_holder:Array (Option Value)} {kV_holder doc_holder pm_holder cdv_holder ct_holder:Value} {oc_copy:Value} {od_copy an_copy:Option Addr} {osl_copy:Array (Option Value)} {kV_copy doc_copy pm_copy cdv_copy ct_copy:Value} (KX:K.In h) (G:h.Ns mainGlobals mg)
  (h_mBadNews:PySem.W.nsIn K mainGlobals "BadNews"=some (some (.ref a_BadNews)))
  (h_mMap:PySem.W.nsIn K mainGlobals "Map"=some (some (.ref a_Map)))
  (h_cHOUSES:PySem.W.nsIn K mainGlobals "HOUSES"=some (some (.int 32 tk_cHOUSES)))
  (h_cLONGEST_NAME:PySem.W.nsIn K mainGlobals "LONGEST_NAME"=some (some (.int 4 tk_cLONGEST_NAME)))
  (h_cMOST_BIRTH:PySem.W.nsIn K mainGlobals "MOST_BIRTH"=some (some (.int 9000 tk_cMOST_BIRTH)))
  (h_cMOST_NAMES:PySem.W.nsIn K mainGlobals "MOST_NAMES"=some (some (.int 4 tk_cMOST_NAMES)))
  (h_cMOST_NEAR:PySem.W.nsIn K mainGlobals "MOST_NEAR"=some (some (.int 5 tk_cMOST_NEAR)))
  (h_cMOST_NUMBER:PySem.W.nsIn K mainGlobals "MOST_NUMBER"=some (some (.int 900000 tk_cMOST_NUMBER)))
  (h_cMOST_QUIET:PySem.W.nsIn K mainGlobals "MOST_QUIET"=some (some (.int 10 tk_cMOST_QUIET)))
  (h_n_all:PySem.W.nsIn K mainGlobals "all"=some none)
  (h_n_any:PySem.W.nsIn K mainGlobals "any"=some none)
  (h_n_dict:PySem.W.nsIn K mainGlobals "dict"=some none)
  (h_n_len:PySem.W.nsIn K mainGlobals "len"=some none)
  (h_n_list:PySem.W.nsIn K mainGlobals "list"=some none)
  (h_n_max:PySem.W.nsIn K mainGlobals "max"=some none)
  (h_n_min:PySem.W.nsIn K mainGlobals "min"=some none)
  (h_n_range:PySem.W.nsIn K mainGlobals "range"=some none)
  (h_n_set:PySem.W.nsIn K mainGlobals "set"=some none)
  (h_n_sorted:PySem.W.nsIn K mainGlobals "sorted"=some none)
  (h_n_tuple:PySem.W.nsIn K mainGlobals "tuple"=some none)
  (h_n_zip:PySem.W.nsIn K mainGlobals "zip"=some none)
  (h_xBadNews:PySem.W.excIn K a_BadNews [.type "ValueError",.type "Exception",.type "BaseException",.type "object"] "ValueError.__new__"=true)
  (h_eBadNews_ga:PySem.W.findIn K (.ref a_BadNews) "__getattribute__"=some (some (.builtin "BaseException.__getattribute__")))
  (h_eBadNews_nga:PySem.W.findIn K (.ref a_BadNews) "__getattr__"=some none)
  (h_eBadNews_at_:PySem.W.findIn K (.ref a_BadNews) "__class__"=some (some (.builtin "object.__class__")))
  (h_eBadNews_cls:PySem.W.isClsIn K a_BadNews=true)
  (h_eBadNews_obj:PySem.W.mroIn K a_BadNews (.type "object")=some true)
  (h_eBadNews_base:PySem.W.subIn K (.ref a_BadNews) (.type "BaseException")=some true)
  (h_k_makes:PySem.W.makesIn K a_Map=true)
  (h_k_init:PySem.W.findIn K (.ref a_Map) "__init__"=some (some (.ref a_init)))
  (h_k_fn:PySem.W.isFn K (.ref a_init)=true)
  (h_k_kp:PySem.W.keepIn K (.ref a_Map)=true)
  (h_fi_l:K.lookup a_init=some ⟨ioc,iod,.func (PySem.W.fnOf "__init__" "Map.__init__" (defArgs s_init) (defBody s_init) (defScope s_init) .none ikV idoc ipm ian icdv ict),iosl⟩)
  (h_fi_c:PySem.W.codeIn K icdv "Map.__init__"=true)
  (h_fi_k:PySem.W.keepIn K (.ref a_init)=true)
  (h_cMap_pg:PySem.W.plainGet K a_Map Str.empty=true)
  (h_cMap_hd:PySem.W.hasDictIn K a_Map=true)
  (h_cMap_po:PySem.W.plainOver K a_Map=true)
  (h_cMap_sa:PySem.W.findIn K (.ref a_Map) "__setattr__"=some (some (.builtin "object.__setattr__")))
  (h_na_latest:PySem.W.findIn K (.ref a_Map) "latest"=some none)
  (h_me_hear_at_:PySem.W.findIn K (.ref a_Map) "hear"=some (some (.ref a_m_hear)))
  (h_me_hear_fn:PySem.W.isFn K (.ref a_m_hear)=true)
  (h_me_hear_kp:PySem.W.keepIn K (.ref a_m_hear)=true)
  (h_f_hear_l:K.lookup a_m_hear=some ⟨oc_hear,od_hear,.func (PySem.W.fnOf "hear" "Map.hear" (defArgs s_hear) (defBody s_hear) (defScope s_hear) .none kV_hear doc_hear pm_hear an_hear cdv_hear ct_hear),osl_hear⟩)
  (h_f_hear_c:PySem.W.codeIn K cdv_hear "Map.hear"=true)
  (h_f_hear_k:PySem.W.keepIn K (.ref a_m_hear)=true)
  (h_me_news_at_:PySem.W.findIn K (.ref a_Map) "news"=some (some (.ref a_m_news)))
  (h_me_news_fn:PySem.W.isFn K (.ref a_m_news)=true)
  (h_me_news_kp:PySem.W.keepIn K (.ref a_m_news)=true)
  (h_f_news_l:K.lookup a_m_news=some ⟨oc_news,od_news,.func (PySem.W.fnOf "news" "Map.news" (defArgs s_news) (defBody s_news) (defScope s_news) .none kV_news doc_news pm_news an_news cdv_news ct_news),osl_news⟩)
  (h_f_news_c:PySem.W.codeIn K cdv_news "Map.news"=true)
  (h_f_news_k:PySem.W.keepIn K (.ref a_m_news)=true)
  (h_me_wires_at_:PySem.W.findIn K (.ref a_Map) "wires"=some (some (.ref a_m_wires)))
  (h_me_wires_fn:PySem.W.isFn K (.ref a_m_wires)=true)
  (h_me_wires_kp:PySem.W.keepIn K (.ref a_m_wires)=true)
  (h_f_wires_l:K.lookup a_m_wires=some ⟨oc_wires,od_wires,.func (PySem.W.fnOf "wires" "Map.wires" (defArgs s_wires) (defBody s_wires) (defScope s_wires) .none kV_wires doc_wires pm_wires an_wires cdv_wires ct_wires),osl_wires⟩)
  (h_f_wires_c:PySem.W.codeIn K cdv_wires "Map.wires"=true)
  (h_f_wires_k:PySem.W.keepIn K (.ref a_m_wires)=true)
  (h_me_holder_at_:PySem.W.findIn K (.ref a_Map) "holder"=some (some (.ref a_m_holder)))
  (h_me_holder_fn:PySem.W.isFn K (.ref a_m_holder)=true)
  (h_me_holder_kp:PySem.W.keepIn K (.ref a_m_holder)=true)
  (h_f_holder_l:K.lookup a_m_holder=some ⟨oc_holder,od_holder,.func (PySem.W.fnOf "holder" "Map.holder" (defArgs s_holder) (defBody s_holder) (defScope s_holder) .none kV_holder doc_holder pm_holder an_holder cdv_holder ct_holder),osl_holder⟩)
  (h_f_holder_c:PySem.W.codeIn K cdv_holder "Map.holder"=true)
  (h_f_holder_k:PySem.W.keepIn K (.ref a_m_holder)=true)
  (h_me_copy_at_:PySem.W.findIn K (.ref a_Map) "copy"=some (some (.ref a_m_copy)))
  (h_me_copy_fn:PySem.W.isFn K (.ref a_m_copy)=true)
  (h_me_copy_kp:PySem.W.keepIn K (.ref a_m_copy)=true)
  (h_f_copy_l:K.lookup a_m_copy=some ⟨oc_copy,od_copy,.func (PySem.W.fnOf "copy" "Map.copy" (defArgs s_copy) (defBody s_copy) (defScope s_copy) .none kV_copy doc_copy pm_copy an_copy cdv_copy ct_copy),osl_copy⟩)
  (h_f_copy_c:PySem.W.codeIn K cdv_copy "Map.copy"=true)
  (h_f_copy_k:PySem.W.keepIn K (.ref a_m_copy)=true)
  : ∃ t,Txt K mg t:=⟨⟨a_BadNews,a_Map,a_init,a_m_hear,a_m_news,a_m_wires,a_m_holder,a_m_copy⟩,⟨⟨_,PySem.W.mg_of KX G h_cHOUSES⟩,⟨_,PySem.W.mg_of KX G h_cLONGEST_NAME⟩,⟨_,PySem.W.mg_of KX G h_cMOST_BIRTH⟩,⟨_,PySem.W.mg_of KX G h_cMOST_NAMES⟩,⟨_,PySem.W.mg_of KX G h_cMOST_NEAR⟩,⟨_,PySem.W.mg_of KX G h_cMOST_NUMBER⟩,⟨_,PySem.W.mg_of KX G h_cMOST_QUIET⟩,PySem.W.mg_none_of KX G h_n_all,PySem.W.mg_none_of KX G h_n_any,PySem.W.mg_none_of KX G h_n_dict,PySem.W.mg_none_of KX G h_n_len,PySem.W.mg_none_of KX G h_n_list,PySem.W.mg_none_of KX G h_n_max,PySem.W.mg_none_of KX G h_n_min,PySem.W.mg_none_of KX G h_n_range,PySem.W.mg_none_of KX G h_n_set,PySem.W.mg_none_of KX G h_n_sorted,PySem.W.mg_none_of KX G h_n_tuple,PySem.W.mg_none_of KX G h_n_zip,PySem.W.mg_of KX G h_mBadNews,PySem.W.mg_of KX G h_mMap,h_xBadNews,⟨h_eBadNews_ga,h_eBadNews_nga,h_eBadNews_at_,h_eBadNews_cls,h_eBadNews_obj,h_eBadNews_base⟩,⟨h_k_makes,h_k_init,h_k_fn,h_k_kp⟩,⟨_,fun_mk h_fi_l h_fi_c h_fi_k⟩,⟨h_cMap_pg,h_cMap_hd,h_cMap_po,h_cMap_sa⟩,h_na_latest,⟨h_me_hear_at_,h_me_hear_fn,h_me_hear_kp⟩,⟨_,fun_mk h_f_hear_l h_f_hear_c h_f_hear_k⟩,⟨h_me_news_at_,h_me_news_fn,h_me_news_kp⟩,⟨_,fun_mk h_f_news_l h_f_news_c h_f_news_k⟩,⟨h_me_wires_at_,h_me_wires_fn,h_me_wires_kp⟩,⟨_,fun_mk h_f_wires_l h_f_wires_c h_f_wires_k⟩,⟨h_me_holder_at_,h_me_holder_fn,h_me_holder_kp⟩,⟨_,fun_mk h_f_holder_l h_f_holder_c h_f_holder_k⟩,⟨h_me_copy_at_,h_me_copy_fn,h_me_copy_kp⟩,⟨_,fun_mk h_f_copy_l h_f_copy_c h_f_copy_k⟩⟩⟩
end K52
open PySem PySem.W PyProof.Rows
def PySem.W.Fast.tw14603584076193094291:Nat:=0
def PySem.W.Fast.tw13531854216355253978:Nat:=0
def PySem.W.Fast.tw7010631882291676654:Nat:=0
def PySem.W.Fast.tw5919263012580292588:Nat:=0
def PySem.W.Fast.tw8874647144496074100:Nat:=0
def PySem.W.Fast.tw6939846888627509726:Nat:=0
def PySem.W.Fast.tw4698224316826112428:Nat:=0
def PySem.W.Fast.tw17071184814448137203:Nat:=0
def PySem.W.Fast.tw5648497505235372646:Nat:=0
set_option maxRecDepth 100000 in
set_option maxHeartbeats 0 in
theorem PySem.Challenge.cw_stormpost_k52_whole_no_way_is_shorter_holds : PySem.Challenge.rw_stormpost_k52_whole_no_way_is_shorter.Holds := by
 w_on;o_law;k_head;(case hw=>w_witness2)
 k_fill
 refine L2.walk_ofS (l:=PySem.Challenge.rw_stormpost_k52_whole_no_way_is_shorter) (k:=10) ⟨rfl,by decide,by decide⟩ rfl rfl (fun w h Y=>PySem.W.kIn_of Y) ?F
 case F =>
  intro w mg fa h KX G hmg
  have S_is_house:L2.Site (L2.KOf KX) mg "is_house" K52.s_is_house:=by
   dsimp only [L2.KOf]
   refine' L2.Site.mk' KX G ?a ?l ?c ?k
   (case a=>k_is);(case l=>k_is);(case c=>k_is);(case k=>k_is)
  have S_lengths_of:L2.Site (L2.KOf KX) mg "lengths_of" K52.s_lengths_of:=by
   dsimp only [L2.KOf]
   refine' L2.Site.mk' KX G ?a ?l ?c ?k
   (case a=>k_is);(case l=>k_is);(case c=>k_is);(case k=>k_is)
  have S_heights_to:L2.Site (L2.KOf KX) mg "heights_to" K52.s_heights_to:=by
   dsimp only [L2.KOf]
   refine' L2.Site.mk' KX G ?a ?l ?c ?k
   (case a=>k_is);(case l=>k_is);(case c=>k_is);(case k=>k_is)
  have S_next_house:L2.Site (L2.KOf KX) mg "next_house" K52.s_next_house:=by
   dsimp only [L2.KOf]
   refine' L2.Site.mk' KX G ?a ?l ?c ?k
   (case a=>k_is);(case l=>k_is);(case c=>k_is);(case k=>k_is)
  have S_least_way:L2.Site (L2.KOf KX) mg "least_way" K52.s_least_way:=by
   dsimp only [L2.KOf]
   refine' L2.Site.mk' KX G ?a ?l ?c ?k
   (case a=>k_is);(case l=>k_is);(case c=>k_is);(case k=>k_is)
  have S_way_of:L2.Site (L2.KOf KX) mg "way_of" K52.s_way_of:=by
   dsimp only [L2.KOf]
   refine' L2.Site.mk' KX G ?a ?l ?c ?k
   (case a=>k_is);(case l=>k_is);(case c=>k_is);(case k=>k_is)
  have S_way_length:L2.Site (L2.KOf KX) mg "way_length" K52.s_way_length:=by
   dsimp only [L2.KOf]
   refine' L2.Site.mk' KX G ?a ?l ?c ?k
   (case a=>k_is);(case l=>k_is);(case c=>k_is);(case k=>k_is)
  have S_goes_from_to:L2.Site (L2.KOf KX) mg "goes_from_to" K52.s_goes_from_to:=by
   dsimp only [L2.KOf]
   refine' L2.Site.mk' KX G ?a ?l ?c ?k
   (case a=>k_is);(case l=>k_is);(case c=>k_is);(case k=>k_is)
  have S_heights_hold:L2.Site (L2.KOf KX) mg "heights_hold" K52.s_heights_hold:=by
   dsimp only [L2.KOf]
   refine' L2.Site.mk' KX G ?a ?l ?c ?k
   (case a=>k_is);(case l=>k_is);(case c=>k_is);(case k=>k_is)
  have S_way_holds:L2.Site (L2.KOf KX) mg "way_holds" K52.s_way_holds:=by
   dsimp only [L2.KOf]
   refine' L2.Site.mk' KX G ?a ?l ?c ?k
   (case a=>k_is);(case l=>k_is);(case c=>k_is);(case k=>k_is)
  have S_side_holds:L2.Site (L2.KOf KX) mg "side_holds" K52.s_side_holds:=by
   dsimp only [L2.KOf]
   refine' L2.Site.mk' KX G ?a ?l ?c ?k
   (case a=>k_is);(case l=>k_is);(case c=>k_is);(case k=>k_is)
  have S_way_judged:L2.Site (L2.KOf KX) mg "way_judged" K52.s_way_judged:=by
   dsimp only [L2.KOf]
   refine' L2.Site.mk' KX G ?a ?l ?c ?k
   (case a=>k_is);(case l=>k_is);(case c=>k_is);(case k=>k_is)
  have S_look_house:L2.Site (L2.KOf KX) mg "look_house" K52.s_look_house:=by
   dsimp only [L2.KOf]
   refine' L2.Site.mk' KX G ?a ?l ?c ?k
   (case a=>k_is);(case l=>k_is);(case c=>k_is);(case k=>k_is)
  have S_look_bounds:L2.Site (L2.KOf KX) mg "look_bounds" K52.s_look_bounds:=by
   dsimp only [L2.KOf]
   refine' L2.Site.mk' KX G ?a ?l ?c ?k
   (case a=>k_is);(case l=>k_is);(case c=>k_is);(case k=>k_is)
  have S_look_unlike:L2.Site (L2.KOf KX) mg "look_unlike" K52.s_look_unlike:=by
   dsimp only [L2.KOf]
   refine' L2.Site.mk' KX G ?a ?l ?c ?k
   (case a=>k_is);(case l=>k_is);(case c=>k_is);(case k=>k_is)
  have S_is_name:L2.Site (L2.KOf KX) mg "is_name" K52.s_is_name:=by
   dsimp only [L2.KOf]
   refine' L2.Site.mk' KX G ?a ?l ?c ?k
   (case a=>k_is);(case l=>k_is);(case c=>k_is);(case k=>k_is)
  have S_look_names:L2.Site (L2.KOf KX) mg "look_names" K52.s_look_names:=by
   dsimp only [L2.KOf]
   refine' L2.Site.mk' KX G ?a ?l ?c ?k
   (case a=>k_is);(case l=>k_is);(case c=>k_is);(case k=>k_is)
  have S_made_wire:L2.Site (L2.KOf KX) mg "made_wire" K52.s_made_wire:=by
   dsimp only [L2.KOf]
   refine' L2.Site.mk' KX G ?a ?l ?c ?k
   (case a=>k_is);(case l=>k_is);(case c=>k_is);(case k=>k_is)
  have S_made_near:L2.Site (L2.KOf KX) mg "made_near" K52.s_made_near:=by
   dsimp only [L2.KOf]
   refine' L2.Site.mk' KX G ?a ?l ?c ?k
   (case a=>k_is);(case l=>k_is);(case c=>k_is);(case k=>k_is)
  have S_made_news:L2.Site (L2.KOf KX) mg "made_news" K52.s_made_news:=by
   dsimp only [L2.KOf]
   refine' L2.Site.mk' KX G ?a ?l ?c ?k
   (case a=>k_is);(case l=>k_is);(case c=>k_is);(case k=>k_is)
  have S__law_cell_at:L2.Site (L2.KOf KX) mg "_law_cell_at" K52.s__law_cell_at:=by
   dsimp only [L2.KOf]
   refine' L2.Site.mk' KX G ?a ?l ?c ?k
   (case a=>k_is);(case l=>k_is);(case c=>k_is);(case k=>k_is)
  have S__law_mixed:L2.Site (L2.KOf KX) mg "_law_mixed" K52.s__law_mixed:=by
   dsimp only [L2.KOf]
   refine' L2.Site.mk' KX G ?a ?l ?c ?k
   (case a=>k_is);(case l=>k_is);(case c=>k_is);(case k=>k_is)
  have S__law_drawn:L2.Site (L2.KOf KX) mg "_law_drawn" K52.s__law_drawn:=by
   dsimp only [L2.KOf]
   refine' L2.Site.mk' KX G ?a ?l ?c ?k
   (case a=>k_is);(case l=>k_is);(case c=>k_is);(case k=>k_is)
  have S__law_houses:L2.Site (L2.KOf KX) mg "_law_houses" K52.s__law_houses:=by
   dsimp only [L2.KOf]
   refine' L2.Site.mk' KX G ?a ?l ?c ?k
   (case a=>k_is);(case l=>k_is);(case c=>k_is);(case k=>k_is)
  have S__law_told:L2.Site (L2.KOf KX) mg "_law_told" K52.s__law_told:=by
   dsimp only [L2.KOf]
   refine' L2.Site.mk' KX G ?a ?l ?c ?k
   (case a=>k_is);(case l=>k_is);(case c=>k_is);(case k=>k_is)
  have S__law_news:L2.Site (L2.KOf KX) mg "_law_news" K52.s__law_news:=by
   dsimp only [L2.KOf]
   refine' L2.Site.mk' KX G ?a ?l ?c ?k
   (case a=>k_is);(case l=>k_is);(case c=>k_is);(case k=>k_is)
  have S__law_map:L2.Site (L2.KOf KX) mg "_law_map" K52.s__law_map:=by
   dsimp only [L2.KOf]
   refine' L2.Site.mk' KX G ?a ?l ?c ?k
   (case a=>k_is);(case l=>k_is);(case c=>k_is);(case k=>k_is)
  have S__law_wires:L2.Site (L2.KOf KX) mg "_law_wires" K52.s__law_wires:=by
   dsimp only [L2.KOf]
   refine' L2.Site.mk' KX G ?a ?l ?c ?k
   (case a=>k_is);(case l=>k_is);(case c=>k_is);(case k=>k_is)
  have S__law_ways:L2.Site (L2.KOf KX) mg "_law_ways" K52.s__law_ways:=by
   dsimp only [L2.KOf]
   refine' L2.Site.mk' KX G ?a ?l ?c ?k
   (case a=>k_is);(case l=>k_is);(case c=>k_is);(case k=>k_is)
  have S__law_length:L2.Site (L2.KOf KX) mg "_law_length" K52.s__law_length:=by
   dsimp only [L2.KOf]
   refine' L2.Site.mk' KX G ?a ?l ?c ?k
   (case a=>k_is);(case l=>k_is);(case c=>k_is);(case k=>k_is)
  have S__law_right:L2.Site (L2.KOf KX) mg "_law_right" K52.s__law_right:=by
   dsimp only [L2.KOf]
   refine' L2.Site.mk' KX G ?a ?l ?c ?k
   (case a=>k_is);(case l=>k_is);(case c=>k_is);(case k=>k_is)
  have S_law:L2.Site (L2.KOf KX) mg "law" K52.s_law:=by
   dsimp only [L2.KOf]
   refine' L2.Site.mk' KX G ?a ?l ?c ?k
   (case a=>k_is);(case l=>k_is);(case c=>k_is);(case k=>k_is)
  have T:∃ t,K52.Txt (L2.KOf KX) mg t:=by
   dsimp only [L2.KOf]
   refine' K52.txt_mk KX G ?h_mBadNews ?h_mMap ?h_cHOUSES ?h_cLONGEST_NAME ?h_cMOST_BIRTH ?h_cMOST_NAMES ?h_cMOST_NEAR ?h_cMOST_NUMBER ?h_cMOST_QUIET ?h_n_all ?h_n_any ?h_n_dict ?h_n_len ?h_n_list ?h_n_max ?h_n_min ?h_n_range ?h_n_set ?h_n_sorted ?h_n_tuple ?h_n_zip ?h_xBadNews ?h_eBadNews_ga ?h_eBadNews_nga ?h_eBadNews_at_ ?h_eBadNews_cls ?h_eBadNews_obj ?h_eBadNews_base ?h_k_makes ?h_k_init ?h_k_fn ?h_k_kp ?h_fi_l ?h_fi_c ?h_fi_k ?h_cMap_pg ?h_cMap_hd ?h_cMap_po ?h_cMap_sa ?h_na_latest ?h_me_hear_at_ ?h_me_hear_fn ?h_me_hear_kp ?h_f_hear_l ?h_f_hear_c ?h_f_hear_k ?h_me_news_at_ ?h_me_news_fn ?h_me_news_kp ?h_f_news_l ?h_f_news_c ?h_f_news_k ?h_me_wires_at_ ?h_me_wires_fn ?h_me_wires_kp ?h_f_wires_l ?h_f_wires_c ?h_f_wires_k ?h_me_holder_at_ ?h_me_holder_fn ?h_me_holder_kp ?h_f_holder_l ?h_f_holder_c ?h_f_holder_k ?h_me_copy_at_ ?h_me_copy_fn ?h_me_copy_kp ?h_f_copy_l ?h_f_copy_c ?h_f_copy_k
   (case h_mBadNews=>k_is)
   (case h_mMap=>k_is)
   (case h_cHOUSES=>k_is)
   (case h_cLONGEST_NAME=>k_is)
   (case h_cMOST_BIRTH=>k_is)
   (case h_cMOST_NAMES=>k_is)
   (case h_cMOST_NEAR=>k_is)
   (case h_cMOST_NUMBER=>k_is)
   (case h_cMOST_QUIET=>k_is)
   (case h_n_all=>k_is)
   (case h_n_any=>k_is)
   (case h_n_dict=>k_is)
   (case h_n_len=>k_is)
   (case h_n_list=>k_is)
   (case h_n_max=>k_is)
   (case h_n_min=>k_is)
   (case h_n_range=>k_is)
   (case h_n_set=>k_is)
   (case h_n_sorted=>k_is)
   (case h_n_tuple=>k_is)
   (case h_n_zip=>k_is)
   (case h_xBadNews=>k_exc)
   (case h_eBadNews_ga=>k_is)
   (case h_eBadNews_nga=>k_is)
   (case h_eBadNews_at_=>k_is)
   (case h_eBadNews_cls=>k_is)
   (case h_eBadNews_obj=>k_is)
   (case h_eBadNews_base=>k_is)
   (case h_k_makes=>k_is)
   (case h_k_init=>k_is)
   (case h_k_fn=>k_is)
   (case h_k_kp=>k_is)
   (case h_fi_l=>k_is)
   (case h_fi_c=>k_is)
   (case h_fi_k=>k_is)
   (case h_cMap_pg=>k_is)
   (case h_cMap_hd=>k_is)
   (case h_cMap_po=>k_is)
   (case h_cMap_sa=>k_is)
   (case h_na_latest=>k_is)
   (case h_me_hear_at_=>k_is)
   (case h_me_hear_fn=>k_is)
   (case h_me_hear_kp=>k_is)
   (case h_f_hear_l=>k_is)
   (case h_f_hear_c=>k_is)
   (case h_f_hear_k=>k_is)
   (case h_me_news_at_=>k_is)
   (case h_me_news_fn=>k_is)
   (case h_me_news_kp=>k_is)
   (case h_f_news_l=>k_is)
   (case h_f_news_c=>k_is)
   (case h_f_news_k=>k_is)
   (case h_me_wires_at_=>k_is)
   (case h_me_wires_fn=>k_is)
   (case h_me_wires_kp=>k_is)
   (case h_f_wires_l=>k_is)
   (case h_f_wires_c=>k_is)
   (case h_f_wires_k=>k_is)
   (case h_me_holder_at_=>k_is)
   (case h_me_holder_fn=>k_is)
   (case h_me_holder_kp=>k_is)
   (case h_f_holder_l=>k_is)
   (case h_f_holder_c=>k_is)
   (case h_f_holder_k=>k_is)
   (case h_me_copy_at_=>k_is)
   (case h_me_copy_fn=>k_is)
   (case h_me_copy_kp=>k_is)
   (case h_f_copy_l=>k_is)
   (case h_f_copy_c=>k_is)
   (case h_f_copy_k=>k_is)
  obtain ⟨t,T⟩:=T
  exact L2.law_site S_law (fun _ _ _ _ _ _ us hl=>match us,hl with | [_],_=>rfl) hmg fun f fd base F=>K52.law_all T F S_is_house S_lengths_of S_heights_to S_next_house S_least_way S_way_of S_way_length S_goes_from_to S_heights_hold S_way_holds S_side_holds S_way_judged S_look_house S_look_bounds S_look_unlike S_is_name S_look_names S_made_wire S_made_near S_made_news S__law_cell_at S__law_mixed S__law_drawn S__law_houses S__law_told S__law_news S__law_map S__law_wires S__law_ways S__law_length S__law_right
#print axioms PySem.Challenge.cw_stormpost_k52_whole_no_way_is_shorter_holds
