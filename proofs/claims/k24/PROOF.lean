import PyProof.Rows.All
import Wide.All
import OpenK.AllK
import Wide.FinOn
import Lean
import PyProof.EqAt
import PyProof.EqKinds
import PyProof.TupleCall
import PySem.Challenge.RW_stormpost_k24_models_refused
set_option genSizeOf false
set_option Elab.async false
set_option linter.all false
set_option maxRecDepth 100000
/-! THE HAND LAYER, for ints, bools, texts, own classes, LISTS and tuples (index, slices, in, append, pop ..), calls, loops. Paste it whole ahead of your own text; what your proof does not reach may be deleted. -/
namespace L2
open PySem PySem.Spec PyProof.Rows

/-- a key: an int or a str -/
abbrev Key := Sum Int Str
def keyIs : Key → Value → Bool
  | .inl k, v => Value.isInt k v
  | .inr x, v => Value.isStrOf x v
def keyH (w : World) : Key → Int
  | .inl k => hashInt k
  | .inr x => hashStr w x
theorem keyIs_shape : ∀ {k : Key} {v : Value}, keyIs k v = true → (∃ i t, k = Sum.inl i ∧ v = Value.int i t) ∨ (∃ x t, k = Sum.inr x ∧ v = Value.str x t)
  | .inl i, v, h => by
    obtain ⟨t, e⟩ := Value.isInt_shape (k := i) (v := v) h
    exact .inl ⟨i, t, rfl, e⟩
  | .inr x, v, h => by
    obtain ⟨t, e⟩ := Value.isStrOf_shape (x := x) (v := v) h
    exact .inr ⟨x, t, rfl, e⟩
theorem key_ll (a b : Int) : decide ((Sum.inl a : Key) = Sum.inl b) = (a == b) := by
  by_cases e : a = b
  · subst e; simp
  · have h : ¬ (Sum.inl a : Key) = Sum.inl b := fun q => e (Sum.inl.inj q)
    rw [decide_eq_false h]
    exact (beq_eq_false_iff_ne.mpr e).symm
theorem key_rr (a b : Str) : decide ((Sum.inr a : Key) = Sum.inr b) = decide (a = b) := by
  by_cases e : a = b
  · subst e; simp
  · have h : ¬ (Sum.inr a : Key) = Sum.inr b := fun q => e (Sum.inr.inj q)
    rw [decide_eq_false h, decide_eq_false e]
theorem key_lr (a : Int) (b : Str) : decide ((Sum.inl a : Key) = Sum.inr b) = false := decide_eq_false (fun q => nomatch q)
theorem key_rl (a : Str) (b : Int) : decide ((Sum.inr a : Key) = Sum.inl b) = false := decide_eq_false (fun q => nomatch q)

def mixKind (prog : Program) (w : World) : PySem.KeyKind prog w Key where
  is := keyIs
  hash := keyH w
  inj := fun v a b ha hb => by
    rcases keyIs_shape ha with ⟨i, t, rfl, rfl⟩ | ⟨x, t, rfl, rfl⟩
    · rcases keyIs_shape hb with ⟨j, u, rfl, e⟩ | ⟨y, u, rfl, e⟩
      · injection e with e1 _; rw [e1]
      · exact nomatch e
    · rcases keyIs_shape hb with ⟨j, u, rfl, e⟩ | ⟨y, u, rfl, e⟩
      · exact nomatch e
      · injection e with e1 _; rw [e1]
  byValue := fun k v h => by
    rcases keyIs_shape h with ⟨i, t, rfl, rfl⟩ | ⟨x, t, rfl, rfl⟩ <;> rfl
  pyHash := fun hv h => by
    rcases keyIs_shape hv with ⟨i, t, rfl, rfl⟩ | ⟨x, t, rfl, rfl⟩
    · exact wpAny_pyHash_int h
    · exact wpAny_pyHash_str h
  eqBool := fun hu hv h => by
    rcases keyIs_shape hu with ⟨i, t, rfl, rfl⟩ | ⟨x, t, rfl, rfl⟩
    · rcases keyIs_shape hv with ⟨j, u, rfl, rfl⟩ | ⟨y, u, rfl, rfl⟩
      · rw [key_ll] at h; exact wpAny_eqBool_int h
      · rw [key_lr] at h; exact SeqAt.EqAt.int_str i t y u _ _ _ _ h
    · rcases keyIs_shape hv with ⟨j, u, rfl, rfl⟩ | ⟨y, u, rfl, rfl⟩
      · rw [key_rl] at h; exact SeqAt.EqAt.str_int x t j u _ _ _ _ h
      · rw [key_rr] at h; exact wpAny_eqBool_str h
  «strs» := fun k x t v h => by
    rcases keyIs_shape h with ⟨i, u, rfl, e⟩ | ⟨y, u, rfl, e⟩
    · exact nomatch e
    · injection e with e1 _
      subst e1
      cases v <;> rfl

end L2

namespace L2
open PySem PySem.Spec PyProof.Rows

/-- a value, without the heap -/
inductive V where
  | non | bl (b : Bool) | int (i : Int) | str (x : Str) | byt (b : Array UInt8) | flt (b : UInt64) | ref (a : Addr) | ty (n : String)
  deriving DecidableEq

def RelV : V → Value → Prop
  | .non, u => u = Value.none
  | .bl b, u => u = Value.bool b
  | .int i, u => ∃ t, u = Value.int i t
  | .str x, u => ∃ t, u = Value.str x t
  | .byt b, u => ∃ t, u = Value.bytes b t
  | .flt b, u => ∃ t, u = Value.float b t
  | .ref a, u => u = Value.ref a
  | .ty n, u => u = Value.type n

abbrev Vals : List V → List Value → Prop := Paired RelV
theorem Vals.length {xs : List V} {us : List Value} (r : Vals xs us) : xs.length = us.length := Paired.length r
theorem Vals.get : ∀ {xs : List V} {us : List Value} {i : Nat} {x : V}, Vals xs us → xs[i]? = some x → ∃ u, us[i]? = some u ∧ RelV x u
  | _, _, _, _, .nil, e => by simp at e
  | _, _, 0, _, .cons r _, e => by simp at e; subst e; exact ⟨_, rfl, r⟩
  | _, _, i + 1, x, .cons _ t, e => by
    obtain ⟨u, h1, h2⟩ := Vals.get (i := i) (x := x) t (by simpa using e)
    exact ⟨u, by simpa using h1, h2⟩
theorem Vals.set {x : V} {u : Value} (r : RelV x u) : ∀ {xs : List V} {us : List Value} (i : Nat), Vals xs us → Vals (xs.set i x) (us.set i u)
  | _, _, _, .nil => .nil
  | _, _, 0, .cons _ t => .cons r t
  | _, _, i + 1, .cons q t => .cons q (Vals.set r i t)
theorem Vals.append : ∀ {xs ys : List V} {us ws : List Value}, Vals xs us → Vals ys ws → Vals (xs ++ ys) (us ++ ws)
  | _, _, _, _, .nil, s => s
  | _, _, _, _, .cons r t, s => .cons r (Vals.append t s)
theorem Vals.take : ∀ {xs : List V} {us : List Value} (n : Nat), Vals xs us → Vals (xs.take n) (us.take n)
  | _, _, 0, _ => .nil
  | _, _, _ + 1, .nil => .nil
  | _, _, n + 1, .cons r t => .cons r (Vals.take n t)
theorem Vals.drop : ∀ {xs : List V} {us : List Value} (n : Nat), Vals xs us → Vals (xs.drop n) (us.drop n)
  | _, _, 0, r => r
  | _, _, _ + 1, .nil => .nil
  | _, _, n + 1, .cons _ t => Vals.drop n t
def RelO : Option V → Option Value → Prop
  | some v, some u => RelV v u
  | none, none => True
  | _, _ => False
def KV {κ : Type} : List (κ × V) → List (κ × Value) → Prop := Paired fun (p : κ × V) (q : κ × Value) => p.1 = q.1 ∧ RelV p.2 q.2

/-- a key of a dict (00_mix): an int or a text -/
def kV : Key → V
  | .inl i => .int i
  | .inr x => .str x

/-- what stands at a tracked address -/
inductive HO where
  /-- a list -/
  | lst (xs : List V)
  /-- a tuple (never changes) -/
  | tup (xs : List V)
  /-- a dict whose keys are ints and texts; one whose keys are tuples of ints and texts (the empty one is both) -/
  | dK (kvs : List (Key × V)) | dT (kvs : List (List Key × V))
  /-- a set of ints: its members, its size -/
  | set (S : Int → Bool) (n : Nat)
  /-- an instance of the class at C, its dict at dx, its attributes -/
  | ins (C dx : Addr) (fs : List (Str × V))
  /-- the dict of the instance at x -/
  | own (x : Addr)
  /-- the dict of an exception -/
  | xd (fs : List (Str × V))
  /-- a bound method, f of x -/
  | met (f x : Addr)
  /-- a range object lo, lo + 1, .. below hi -/
  | rng (lo hi : Int)
  /-- a thing that is known to the object (the script; a dict while a loop walks it): read, never written while it is so -/
  | frz (o : Obj) (u : HO)
  /-- a code object's table -/
  | tbl (ps : Array Value)
  /-- any other thing, by what is true of its one object (a def of one's own: SetO a S n := HO.ext fun h => ..) -/
  | ext (φ : Heap → Prop)

abbrev Hp := Addr → Option HO
def upd (H : Hp) (a : Addr) (o : HO) : Hp := fun b => if b = a then some o else H b
theorem upd_same {H : Hp} {a : Addr} {o : HO} : upd H a o a = some o := by unfold upd; rw [if_pos rfl]
theorem upd_ne {H : Hp} {a b : Addr} {o : HO} (h : b ≠ a) : upd H a o b = H b := by unfold upd; rw [if_neg h]
theorem ne_of_none {H : Hp} {a b : Addr} {o : HO} (h : H a = some o) (h' : H b = none) : a ≠ b := by
  intro e; subst e; rw [h] at h'; cases h'

section
variable (P : Program) (w : World)
def ObjOk (H : Hp) (h : Heap) (a : Addr) : HO → Prop
  | .lst xs => xs.length ≤ sizeLine ∧ ∃ (its : List Value) (n : Nat), Vals xs its ∧ h.get? a = some { cls := .type "list", data := .seq its.toArray n }
  | .tup xs => xs.length ≤ sizeLine ∧ ∃ its : List Value, Vals xs its ∧ IsTup h a its.toArray
  | .dK kvs => kvs.length ≤ sizeLine ∧ (a == sysModules) = false ∧ ∃ vs, KV kvs vs ∧ h.DictOf (mixKind P w) a vs
  | .dT kvs => kvs.length ≤ sizeLine ∧ (a == sysModules) = false ∧ ∃ xs : List (List Key × Addr × Value),
      Paired (fun (p : List Key × V) (q : List Key × Addr × Value) => p.1 = q.1 ∧ H q.2.1 = some (.tup (p.1.map kV)) ∧ RelV p.2 q.2.2) kvs xs ∧
      ∃ o es ep, h.get? a = some o ∧ o.ExactDict ∧ o.data = .dict es ep ∧ es.toList = xs.map (entryOfKey (tupleKind (mixKind P w))) ∧ (xs.map (·.1)).Nodup
  | .set S n => h.SetOf (intKind P w) a S n
  | .ins C dx fs => H dx = some (.own a) ∧ fs.length ≤ 1000 ∧ dx ≠ a ∧ h.get? a = some (PySem.W.instObj C dx) ∧
      ∃ mA, h.Ns1 dx mA ∧ (∀ f, RelO (fs.lookup f) (mA f)) ∧ PySem.Within mA (fs.map (·.1))
  | .own _ => ∃ o, h.get? a = some o
  | .xd fs => ∃ mA, h.Ns1 a mA ∧ ∀ f, RelO (fs.lookup f) (mA f)
  | .rng lo hi => ∃ t u v, h.get? a = some { cls := .type "range", data := .fields #[.int lo t, .int hi u, .int 1 v] }
  | .frz o u => h.get? a = some o ∧ ObjOk H h a u
  | .tbl ps => h.get? a = some { cls := .none, data := .fields ps }
  | .met f x => h.get? a = some (PySem.W.methodObj (.ref f) (.ref x))
  | .ext φ => φ h ∧ (∃ o, h.get? a = some o) ∧ ∀ h1 h2 : Heap, φ h1 → (∀ o, h1.get? a = some o → h2.get? a = some o) → φ h2
/-- the abstract heap is held -/
def HOk (H : Hp) (h : Heap) : Prop := ∀ a o, H a = some o → ObjOk P w H h a o
end

section
variable {P : Program} {w : World} {H H' : Hp} {h h' : Heap} {a : Addr} {o : HO}
theorem ObjOk.lt (x : ObjOk P w H h a o) : a < h.objs.size := by
  cases o with
  | lst xs => obtain ⟨_, _, _, _, e⟩ := x; exact Heap.lt_size e
  | tup xs => obtain ⟨_, _, _, p⟩ := x; exact p.lt
  | dK kvs => obtain ⟨_, _, _, _, o, _, _, e, _⟩ := x; exact Heap.lt_size e
  | dT kvs => obtain ⟨_, _, _, _, o, _, _, e, _⟩ := x; exact Heap.lt_size e
  | set S n => obtain ⟨o, _, _, _, e, _⟩ := x; exact Heap.lt_size e
  | ins C dx fs => obtain ⟨_, _, _, e, _⟩ := x; exact Heap.lt_size e
  | own y => obtain ⟨_, e⟩ := x; exact Heap.lt_size e
  | xd fs => obtain ⟨_, ⟨_, _, _, e, _⟩, _⟩ := x; exact Heap.lt_size e
  | rng lo hi => obtain ⟨_, _, _, e⟩ := x; exact Heap.lt_size e
  | frz ob u => obtain ⟨e, _⟩ := x; exact Heap.lt_size e
  | tbl ps => exact Heap.lt_size (show h.get? a = some _ from x)
  | met f y => exact Heap.lt_size (show h.get? a = some _ from x)
  | ext φ => obtain ⟨_, ⟨_, e⟩, _⟩ := x; exact Heap.lt_size e
theorem Paired.mapP {α β : Type} {F G : α → β → Prop} : ∀ {l₁ : List α} {l₂ : List β}, Paired F l₁ l₂ → (∀ a b, F a b → G a b) → Paired G l₁ l₂
  | _, _, .nil, _ => .nil
  | _, _, .cons r t, f => .cons (f _ _ r) (Paired.mapP t f)
/-- what an object's description leans on: its own object, its own dict, the tuples -/
theorem ObjOk.stay (x : ObjOk P w H h a o) (k : ∀ b u, (b = a ∨ H b = some (.own a)) → h.get? b = some u → h'.get? b = some u)
    (ho : ∀ b, H b = some (.own a) → H' b = some (.own a)) (ht : ∀ b xs, H b = some (.tup xs) → H' b = some (.tup xs)) : ObjOk P w H' h' a o := by
  induction o with
  | lst xs => obtain ⟨z, its, n, r, e⟩ := x; exact ⟨z, its, n, r, k _ _ (.inl rfl) e⟩
  | tup xs => obtain ⟨z, its, r, ob, e, c⟩ := x; exact ⟨z, its, r, ob, k _ _ (.inl rfl) e, c⟩
  | dK kvs => obtain ⟨z, y, vs, r, ob, es, ep, e, c⟩ := x; exact ⟨z, y, vs, r, ob, es, ep, k _ _ (.inl rfl) e, c⟩
  | dT kvs =>
    obtain ⟨z, y, xs, r, ob, es, ep, e, c⟩ := x
    exact ⟨z, y, xs, Paired.mapP r fun p q z => ⟨z.1, ht _ _ z.2.1, z.2.2⟩, ob, es, ep, k _ _ (.inl rfl) e, c⟩
  | set S n => obtain ⟨ob, es, ep, t, e, c⟩ := x; exact ⟨ob, es, ep, t, k _ _ (.inl rfl) e, c⟩
  | ins C dx fs =>
    obtain ⟨d, z, ne, e, mA, ⟨od, es, ep, e2, c⟩, r⟩ := x
    exact ⟨ho _ d, z, ne, k _ _ (.inl rfl) e, mA, ⟨od, es, ep, k _ _ (.inr d) e2, c⟩, r⟩
  | own y => obtain ⟨ob, e⟩ := x; exact ⟨ob, k _ _ (.inl rfl) e⟩
  | xd fs => obtain ⟨mA, ⟨od, es, ep, e, c⟩, r⟩ := x; exact ⟨mA, ⟨od, es, ep, k _ _ (.inl rfl) e, c⟩, r⟩
  | rng lo hi => obtain ⟨t, u, v, e⟩ := x; exact ⟨t, u, v, k _ _ (.inl rfl) e⟩
  | frz ob u ih => obtain ⟨e, q⟩ := x; exact ⟨k _ _ (.inl rfl) e, ih q⟩
  | tbl ps =>
    have e : h.get? a = some { cls := .none, data := .fields ps } := x
    show h'.get? a = some { cls := .none, data := .fields ps }
    exact k a _ (.inl rfl) e
  | met f y =>
    have e : h.get? a = some (PySem.W.methodObj (.ref f) (.ref y)) := x
    show h'.get? a = some (PySem.W.methodObj (.ref f) (.ref y))
    exact k a _ (.inl rfl) e
  | ext φ => obtain ⟨p, ⟨o, e⟩, st⟩ := x; exact ⟨st _ _ p fun o q => k _ _ (.inl rfl) q, ⟨o, k _ _ (.inl rfl) e⟩, st⟩
theorem HOk.lt (x : HOk P w H h) (e : H a = some o) : a < h.objs.size := (x a o e).lt
theorem HOk.fresh (x : HOk P w H h) (e : h.objs.size ≤ a) : H a = none := by
  cases q : H a with
  | none => rfl
  | some u => exact absurd (Nat.lt_of_lt_of_le (x.lt q) e) (Nat.lt_irrefl _)
/-- every object of the heap is kept -/
theorem HOk.kept (x : HOk P w H h) (k : ∀ b u, h.get? b = some u → h'.get? b = some u) : HOk P w H h' := fun a o e =>
  (x a o e).stay (fun b u _ q => k b u q) (fun _ q => q) fun _ _ q => q
/-- a new object is laid and tracked -/
theorem HOk.laid (x : HOk P w H h) (k : ∀ b u, h.get? b = some u → h'.get? b = some u) (hp : h.objs.size ≤ a) (new : ObjOk P w (upd H a o) h' a o) : HOk P w (upd H a o) h' := fun b u e => by
  have hn := x.fresh hp
  by_cases hb : b = a
  · subst hb; rw [upd_same] at e; cases e; exact new
  · rw [upd_ne hb] at e
    exact (x b u e).stay (fun c v _ q => k c v q) (fun c q => by rw [upd_ne (ne_of_none q hn)]; exact q) fun c xs q => by rw [upd_ne (ne_of_none q hn)]; exact q
end

/-- what may be read as u: it is u, or a known u -/
def Rd (H : Hp) (a : Addr) (u : HO) : Prop := H a = some u ∨ ∃ o, H a = some (.frz o u)
theorem Rd.of {H : Hp} {a : Addr} {u : HO} (h : H a = some u) : Rd H a u := .inl h
theorem Rd.ok {P : Program} {w : World} {H : Hp} {h : Heap} {a : Addr} {u : HO} (r : Rd H a u) (x : HOk P w H h) : ObjOk P w H h a u := by
  rcases r with r | ⟨o, r⟩
  · exact x a u r
  · obtain ⟨_, q⟩ := x a _ r
    exact q
/-- what may be written -/
def Mut : Option HO → Prop
  | some (.lst _) => True
  | some (.dK _) => True
  | some (.dT _) => True
  | some (.set _ _) => True
  | some (.ins _ _ _) => True
  | some (.ext _) => True
  | _ => False
section
variable {P : Program} {w : World} {H : Hp} {h h' : Heap} {x e : Addr} {o' : HO}
/-- the object at e is changed: x itself, or the dict of the instance x -/
theorem HOk.write (ok : HOk P w H h) (mu : Mut (H x)) (he : e = x ∨ H e = some (.own x)) (k : ∀ b u, b ≠ e → h.get? b = some u → h'.get? b = some u) (heo : ∃ u, h'.get? e = some u)
    (new : ObjOk P w (upd H x o') h' x o') : HOk P w (upd H x o') h' := fun b u q => by
  have nown : ∀ c y, H c = some (.own y) → c ≠ x := fun c y r z => by subst z; rw [r] at mu; exact mu
  have ntup : ∀ c xs, H c = some (.tup xs) → c ≠ x := fun c xs r z => by subst z; rw [r] at mu; exact mu
  by_cases hb : b = x
  · subst hb; rw [upd_same] at q; cases q; exact new
  · rw [upd_ne hb] at q
    by_cases hbe : b = e
    · have q' : H b = some (.own x) := by
        rcases he with z | z
        · exact absurd (hbe.trans z) hb
        · rw [hbe]; exact z
      rw [q] at q'; cases q'
      obtain ⟨v, hv⟩ := heo
      exact ⟨v, by rw [hbe]; exact hv⟩
    · refine (ok b u q).stay (fun c v hc r => k c v ?_ r) (fun c r => by rw [upd_ne (nown c b r)]; exact r) fun c xs r => by rw [upd_ne (ntup c xs r)]; exact r
      rcases hc with rfl | hc
      · exact hbe
      · rintro rfl
        rcases he with z | z
        · exact nown c b hc z
        · rw [hc] at z; cases z; exact hb rfl
end

/-! ### kept unless tracked; of the frames at fs (the callers') the slots may change (an exception that passes writes there); of the records at ex (iterators) nothing is said -/
structure Un (fs ex : List Addr) (H H' : Hp) (h h' : Heap) : Prop where
  keep : ∀ b o, h.get? b = some o → H b = none → b ∉ fs → b ∉ ex → h'.get? b = some o
  slot : ∀ b o, h.get? b = some o → H b = none → b ∈ fs → b ∉ ex → ∃ sl, h'.get? b = some { o with slots := sl }
  free : ∀ b o, h.get? b = some o → H b = none → b ∉ ex → H' b = none
  there : ∀ b o, h.get? b = some o → b ∉ ex → ∃ o', h'.get? b = some o'
  tups : ∀ b xs, H b = some (.tup xs) → H' b = some (.tup xs)
  frzs : ∀ b o u, H b = some (.frz o u) → H' b = some (.frz o u)
  tbls : ∀ b ps, H b = some (.tbl ps) → ∃ more, H' b = some (.tbl (ps ++ more))
section
variable {fs fs' ex ex' : List Addr} {H H1 H2 : Hp} {h h1 h2 h' : Heap} {a x e : Addr} {o : HO}
theorem Un.any (u : Un fs ex H H1 h h1) {b : Addr} {ob : Obj} (q : h.get? b = some ob) (n : H b = none) (hx : b ∉ ex) : ∃ sl, h1.get? b = some { ob with slots := sl } := by
  by_cases hb : b ∈ fs
  · exact u.slot b ob q n hb hx
  · exact ⟨ob.slots, u.keep b ob q n hb hx⟩
theorem Un.trans (a : Un fs ex H H1 h h1) (b : Un fs ex H1 H2 h1 h2) : Un fs ex H H2 h h2 where
  keep := fun c ob q n hc hx => b.keep c ob (a.keep c ob q n hc hx) (a.free c ob q n hx) hc hx
  slot := fun c ob q n hc hx => by
    obtain ⟨sl, e1⟩ := a.slot c ob q n hc hx
    obtain ⟨sl', e2⟩ := b.slot c _ e1 (a.free c ob q n hx) hc hx
    exact ⟨sl', e2⟩
  free := fun c ob q n hx => by
    obtain ⟨o', e1⟩ := a.there c ob q hx
    exact b.free c o' e1 (a.free c ob q n hx) hx
  there := fun c ob q hx => by
    obtain ⟨o', e1⟩ := a.there c ob q hx
    exact b.there c o' e1 hx
  tups := fun c xs q => b.tups c xs (a.tups c xs q)
  frzs := fun c ob xs q => b.frzs c ob xs (a.frzs c ob xs q)
  tbls := fun c ps q => by
    obtain ⟨m1, e1⟩ := a.tbls c ps q
    obtain ⟨m2, e2⟩ := b.tbls c _ e1
    exact ⟨m1 ++ m2, by rw [e2, Array.append_assoc]⟩
theorem Un.kept (k : ∀ b u, h.get? b = some u → h'.get? b = some u) : Un fs ex H H h h' :=
  ⟨fun b ob q _ _ _ => k b ob q, fun b ob q _ _ _ => ⟨ob.slots, k b ob q⟩, fun _ _ _ n _ => n, fun b ob q _ => ⟨ob, k b ob q⟩, fun _ _ q => q, fun _ _ _ q => q, fun _ ps q => ⟨#[], by rw [q]; simp⟩⟩
theorem Un.refl : Un fs ex H H h h := Un.kept fun _ _ q => q
theorem Un.laid (k : ∀ b u, h.get? b = some u → h'.get? b = some u) (hp : h.objs.size ≤ a) (hn : H a = none) : Un fs ex H (upd H a o) h h' where
  keep := fun b u q _ _ _ => k b u q
  slot := fun b u q _ _ _ => ⟨u.slots, k b u q⟩
  free := fun b u q n _ => by rw [upd_ne (Nat.ne_of_lt (Nat.lt_of_lt_of_le (Heap.lt_size q) hp))]; exact n
  there := fun b u q _ => ⟨u, k b u q⟩
  tups := fun b xs q => by rw [upd_ne (ne_of_none q hn)]; exact q
  frzs := fun b u xs q => by rw [upd_ne (ne_of_none q hn)]; exact q
  tbls := fun b ps q => ⟨#[], by rw [upd_ne (ne_of_none q hn), q]; simp⟩
theorem Un.write (mu : Mut (H x)) (he : e = x ∨ H e = some (.own x)) (k : ∀ b u, b ≠ e → h.get? b = some u → h'.get? b = some u) (heo : ∃ u, h'.get? e = some u) : Un fs ex H (upd H x o) h h' := by
  have hx : ∀ b, H b = none → b ≠ x := fun b n z => by subst z; rw [n] at mu; exact mu
  have hb : ∀ b, H b = none → b ≠ e := fun b n z => by
    subst z
    rcases he with r | r
    · exact hx b n r
    · rw [n] at r; cases r
  have hm : ∀ b u, H b = some u → ¬ Mut (some u) → b ≠ x := fun b u q nm z => by subst z; rw [q] at mu; exact nm mu
  refine ⟨fun b u q n _ _ => k b u (hb b n) q, fun b u q n _ _ => ⟨u.slots, k b u (hb b n) q⟩, fun b u q n _ => by rw [upd_ne (hx b n)]; exact n, fun b u q _ => ?_,
    fun b xs q => by rw [upd_ne (hm b _ q fun z => z)]; exact q, fun b u xs q => by rw [upd_ne (hm b _ q fun z => z)]; exact q, fun b ps q => ⟨#[], by rw [upd_ne (hm b _ q fun z => z), q]; simp⟩⟩
  by_cases hbe : b = e
  · subst hbe; exact heo
  · exact ⟨u, k b u hbe q⟩
theorem Un.mono (u : Un fs ex H H1 h h1) (hs : ∀ b ∈ fs, b ∈ fs') (hx : ∀ b ∈ ex, b ∈ ex') : Un fs' ex' H H1 h h1 :=
  ⟨fun b ob q n hb he => u.keep b ob q n (fun z => hb (hs b z)) fun z => he (hx b z), fun _ _ q n _ he => u.any q n fun z => he (hx _ z), fun b ob q n he => u.free b ob q n fun z => he (hx b z), fun b ob q he => u.there b ob q fun z => he (hx b z), u.tups, u.frzs, u.tbls⟩
end

/-! ### the heap without what is tracked -/
def trk (h : Heap) (H : Hp) : List Addr := (List.range h.objs.size).filter fun a => (H a).isSome
def hidT (h : Heap) (H : Hp) : Heap := PySem.W.hideAll h (trk h H)
theorem hidT_size (h : Heap) (H : Hp) : (hidT h H).objs.size = h.objs.size := PySem.W.hideAll_size _ _
theorem hidT_get {h : Heap} {H : Hp} {b : Addr} {o : Obj} (e : h.get? b = some o) (n : H b = none) : (hidT h H).get? b = some o :=
  PySem.W.hideAll_get _ e fun hm => by
    have q : (H b).isSome = true := (List.mem_filter.mp hm).2
    rw [n] at q; simp at q
theorem of_hidT {h : Heap} {H : Hp} {b : Addr} {o : Obj} (e : (hidT h H).get? b = some o) : h.get? b = some o ∧ H b = none := by
  have e' : h.get? b = some o := PySem.W.of_hideAll (trk h H) e
  refine ⟨e', ?_⟩
  cases q : H b with
  | none => rfl
  | some x =>
    have hm : b ∈ trk h H := List.mem_filter.mpr ⟨List.mem_range.mpr (Heap.lt_size e'), by simp [q]⟩
    have z : (hidT h H).get? b = none := PySem.W.hideAll_none (trk h H) hm
    rw [z] at e; cases e

/-! ### OpenK's ledger, filled with every new object but one -/
def allNews (g h : Heap) (L : Addr) : List (Addr × Obj) := (List.range h.objs.size).filterMap fun a => if a = L ∨ (g.get? a).isSome = true then none else (h.get? a).map fun o => (a, o)
def rest (g h : Heap) (L d : Addr) : List (Addr × Obj) := (allNews g h L).filter fun p => decide (p.1 ≠ d)
end L2

namespace L2
open PySem PySem.Spec PyProof.Rows

/-- the module's facts, over the base: the heap at the law's entry without what is tracked there -/
structure Mod (K : PySem.W.Frag) (mg : Str → Option Value) (base : Heap) : Prop where
  kin : K.In base
  glob : base.Ns mainGlobals mg
  blt : ∃ mb, base.Ns builtinsNs mb ∧ ∀ x : Str, x ≠ "__name__" → mb x = bootBuiltins x
  nolimit : base.NoLimit

/-- the context: a def's body (or a comprehension's block) running. base: fixed through the whole law; s₀, H₀: the entry; outer: the frames whose slots others may change (a def's callers); stack: all frames that run;
   ex: iterators that were made ahead of the entry and are walked here (a comprehension's); fn: the names whose cells were made at the entry (a def: all; a comprehension's block: its own); calm: not within an except suite; pn: pins that every state bears; xe: what is wanted of an exception that leaves the code -/
structure Cx where
  prog : Program
  w : World
  K : PySem.W.Frag
  mg : Str → Option Value
  base : Heap
  A : Around
  N : List Str
  s₀ : Shared
  H₀ : Hp
  env : Env
  outer : List Env
  stack : List Env
  ex : List Addr
  fn : Str → Bool
  calm : Bool
  pn : List (Addr × Obj)
  xe : Value → Shared → Prop
/-- the callers' frames -/
def frs (l : List Env) : List Addr := l.filterMap (·.frame)
abbrev Cx.fs (X : Cx) : List Addr := frs X.outer

def Vis (sc : Scope) (x : Str) : Prop := sc.names.lookup x = some .local ∨ sc.names.lookup x = some .cell ∨ sc.names.lookup x = some .free
def Loc (sc : Scope) (x : Str) : Prop := sc.names.lookup x = some .local ∨ sc.names.lookup x = some .cell
def Look (env : Env) (h : Heap) (m : Str → Option Value) (x : Str) (u : Value) : Prop :=
  (env.kindOf x = some .local ∧ m x = some u) ∨ ((env.kindOf x = some .cell ∨ env.kindOf x = some .free) ∧ ∃ c, env.cells.lookup x = some c ∧ h.IsCell c (some u))

structure Cx.Ok (X : Cx) : Prop where
  mod : Mod X.K X.mg X.base
  kind : X.env.scope.kind = .function
  glob : X.env.globals = mainGlobals
  blt : X.env.builtins = builtinsNs
  above : X.s₀.heap.objs.size ≤ X.env.locals
  inj : ∀ x y c, X.env.cells.lookup x = some c → X.env.cells.lookup y = some c → x = y
  has : ∀ x, (X.env.kindOf x = some .cell ∨ X.env.kindOf x = some .free) → ∃ c, X.env.cells.lookup x = some c
  cab : ∀ x c, X.fn x = true → X.env.cells.lookup x = some c → X.s₀.heap.objs.size ≤ c
  hd : X.calm = true → X.A.handled = none
  frames : X.A.frames = some X.stack
  stk : X.stack = X.outer ∨ (X.stack = X.env :: X.outer ∧ X.env.frame = some X.env.locals)
  exf : ∀ b ∈ X.ex, b ≠ X.env.locals ∧ ∀ x c, X.env.cells.lookup x = some c → c ≠ b
  bs : ∀ b o, X.base.get? b = some o → X.s₀.heap.get? b = some o ∧ X.H₀ b = none
  bsz : X.base.objs.size ≤ X.s₀.heap.objs.size
  noex : ∀ b o, X.base.get? b = some o → b ∉ X.ex
  exfs : ∀ b ∈ X.ex, b ∉ X.fs
  funs : X.s₀.heap.FunFrames X.base X.outer
  frf : ∀ b ∈ X.fs, X.H₀ b = none

structure Inv (X : Cx) (pins : List (Addr × Obj)) (σ : List (Option V)) (H : Hp) (s : Shared) : Prop where
  ok : X.Ok
  os : s.os = X.s₀.os
  bare : AllBare s.gens
  base : Un X.fs X.ex X.H₀ H X.s₀.heap s.heap
  loc : ∃ m, s.heap.Ns X.env.locals m ∧ ∀ (i : Nat) (x : Str) (v : V), X.N[i]? = some x → σ[i]? = some (some v) → Vis X.env.scope x → ∃ u, RelV v u ∧ Look X.env s.heap m x u
  cell : ∀ x c, X.env.cells.lookup x = some c → ∃ v, s.heap.IsCell c v
  free : H X.env.locals = none
  freeC : ∀ x c, X.env.cells.lookup x = some c → H c = none
  pin : ∀ p ∈ X.pn ++ pins, s.heap.get? p.1 = some p.2 ∧ H p.1 = none ∧ p.1 ≠ X.env.locals ∧ p.1 ∉ X.fs ∧ ∀ v, p.2.data ≠ .cell v
  hok : HOk X.prog X.w H s.heap
  len : σ.length = X.N.length

section
variable {X : Cx} {pins : List (Addr × Obj)} {σ : List (Option V)} {H H' : Hp} {s : Shared} {h' : Heap}

theorem Cx.Ok.nofr (ok : X.Ok) {b : Addr} {o : Obj} (e : X.base.get? b = some o) : b ∉ X.fs := fun hb => by
  have := (ok.funs.mem hb).1
  rw [e] at this; cases this
theorem Inv.bs (I : Inv X pins σ H s) : ∀ b o, X.base.get? b = some o → s.heap.get? b = some o ∧ H b = none := fun b o e =>
  ⟨I.base.keep b o (I.ok.bs b o e).1 (I.ok.bs b o e).2 (I.ok.nofr e) (I.ok.noex b o e), I.base.free b o (I.ok.bs b o e).1 (I.ok.bs b o e).2 (I.ok.noex b o e)⟩
theorem Inv.bk (I : Inv X pins σ H s) : ∀ b o, X.base.get? b = some o → s.heap.get? b = some o := fun b o e => (I.bs b o e).1
theorem Inv.mod (I : Inv X pins σ H s) : Mod X.K X.mg X.base := I.ok.mod
theorem Inv.kIn (I : Inv X pins σ H s) : X.K.In s.heap := I.ok.mod.kin.keeps I.bk
theorem Inv.nolimit (I : Inv X pins σ H s) : s.heap.NoLimit := I.ok.mod.nolimit.keeps I.bk
/-- the frame over the base: for OpenK's rules (K.In X.base is I.mod.kin) -/
theorem Inv.fr (I : Inv X pins σ H s) : ∃ m, Fr X.base X.env.locals s.heap m :=
  let ⟨m, hn, _⟩ := I.loc
  ⟨m, hn, I.bk, Nat.le_trans I.ok.bsz I.ok.above⟩
theorem Inv.lt (I : Inv X pins σ H s) : X.env.locals < s.heap.objs.size := let ⟨_, hn, _⟩ := I.loc; hn.lt
theorem Inv.sz (I : Inv X pins σ H s) : X.s₀.heap.objs.size ≤ s.heap.objs.size := Nat.le_trans I.ok.above (Nat.le_of_lt I.lt)
theorem Inv.nofs (I : Inv X pins σ H s) {a : Addr} (h : s.heap.objs.size ≤ a) : a ∉ X.fs := fun hb => by
  obtain ⟨_, o, ho, _⟩ := I.ok.funs.mem hb
  exact absurd (Nat.lt_of_lt_of_le (Heap.lt_size ho) (Nat.le_trans I.sz h)) (Nat.lt_irrefl _)
theorem Inv.cne (I : Inv X pins σ H s) : ∀ x c, X.env.cells.lookup x = some c → c ≠ X.env.locals := fun x c e z => by
  obtain ⟨v, o, ho, hd⟩ := I.cell x c e
  obtain ⟨m, ⟨o', es, ep, ho', hd', _⟩, _⟩ := I.loc
  rw [z, ho'] at ho; cases ho; rw [hd'] at hd; cases hd
theorem Inv.funs (I : Inv X pins σ H s) : s.heap.FunFrames X.base X.outer := by
  have all : ∀ (l : List Env), (∀ b ∈ frs l, b ∈ X.fs) → X.s₀.heap.FunFrames X.base l → s.heap.FunFrames X.base l := by
    intro l
    induction l with
    | nil => intro _ _; trivial
    | cons env r ih =>
      intro hs hl
      obtain ⟨hk, ⟨L, o, hf, hn, ho, hd⟩, hr⟩ := hl
      have hL : L ∈ X.fs := hs L (by unfold frs; rw [List.filterMap_cons, hf]; exact List.mem_cons_self)
      obtain ⟨sl, e⟩ := I.base.slot L o ho (I.ok.frf L hL) hL fun z => I.ok.exfs L z hL
      exact ⟨hk, ⟨L, _, hf, hn, e, hd⟩, ih (fun b hb => hs b (by unfold frs; rw [List.filterMap_cons, hf]; exact List.mem_cons_of_mem _ hb)) hr⟩
  exact all X.outer (fun _ hb => hb) I.ok.funs

/-- the frames that run, for a call -/
theorem Inv.stack (I : Inv X pins σ H s) : s.heap.FunFrames X.base X.stack := by
  rcases I.ok.stk with e | ⟨e, hf⟩
  · rw [e]; exact I.funs
  · rw [e]
    obtain ⟨m, hn, _⟩ := I.loc
    refine .cons (by rw [I.ok.kind]; decide) hf hn ?_ I.funs
    exact Heap.get?_none_of_le (Nat.le_trans I.ok.bsz I.ok.above)
theorem Inv.stkSub (I : Inv X pins σ H s) : ∀ b ∈ frs X.stack, b ∈ X.env.locals :: X.fs := fun b hb => by
  rcases I.ok.stk with e | ⟨e, hf⟩
  · rw [e] at hb; exact List.mem_cons_of_mem _ hb
  · rw [e] at hb
    unfold frs at hb
    rw [List.filterMap_cons, hf] at hb
    exact hb
theorem Inv.stkFree (I : Inv X pins σ H s) : ∀ b ∈ frs X.stack, H b = none := fun b hb => by
  rcases List.mem_cons.mp (I.stkSub b hb) with e | hb
  · rw [e]; exact I.free
  · obtain ⟨_, o, ho, _⟩ := I.ok.funs.mem hb
    exact I.base.free b o ho (I.ok.frf b hb) fun z => I.ok.exfs b z hb

/-- THE STEP: the untracked objects but the frame and the records at ch are kept (the callers' frames up to slots), the frame's map is kept, the new abstract heap is held -/
theorem Inv.step {g' : Array GenState} {t' : Nat} {d' : Drawn} {ch : List Addr} (I : Inv X pins σ H s)
    (hch : ∀ b ∈ ch, (b ∈ X.ex ∨ X.s₀.heap.objs.size ≤ b) ∧ b ≠ X.env.locals ∧ (∀ x c, X.env.cells.lookup x = some c → c ≠ b) ∧ ∀ p ∈ X.pn ++ pins, p.1 ≠ b)
    (keep : ∀ b o, b ≠ X.env.locals → b ∉ X.fs → b ∉ ch → s.heap.get? b = some o → H b = none → h'.get? b = some o)
    (slot : ∀ b o, b ≠ X.env.locals → b ∈ X.fs → b ∉ ch → s.heap.get? b = some o → H b = none → ∃ sl, h'.get? b = some { o with slots := sl }) (free : ∀ b o, b ∉ ch → s.heap.get? b = some o → H b = none → H' b = none)
    (there : ∀ b o, b ∉ ch → s.heap.get? b = some o → ∃ o', h'.get? b = some o')
    (tups : ∀ b xs, H b = some (.tup xs) → H' b = some (.tup xs)) (frzs : ∀ b o u, H b = some (.frz o u) → H' b = some (.frz o u)) (tbls : ∀ b ps, H b = some (.tbl ps) → ∃ more, H' b = some (.tbl (ps ++ more)))
    (ns : ∀ m, s.heap.Ns X.env.locals m → h'.Ns X.env.locals m) (hok : HOk X.prog X.w H' h') (hg : AllBare g') :
    Inv X pins σ H' { s with heap := h', gens := g', drawn := d', toks := t' } := by
  have neL : ∀ b o, X.s₀.heap.get? b = some o → b ≠ X.env.locals := fun b o e => Nat.ne_of_lt (Nat.lt_of_lt_of_le (Heap.lt_size e) I.ok.above)
  have neC : ∀ b o, X.s₀.heap.get? b = some o → b ∉ X.ex → b ∉ ch := fun b o e hx hb => by
    rcases (hch b hb).1 with z | z
    · exact hx z
    · exact absurd (Nat.lt_of_lt_of_le (Heap.lt_size e) z) (Nat.lt_irrefl _)
  have cellK : ∀ x c, X.env.cells.lookup x = some c → ∀ v, s.heap.IsCell c v → h'.IsCell c v := fun x c e v ⟨o, ho, hd⟩ => by
    have nch : c ∉ ch := fun z => (hch c z).2.2.1 x c e rfl
    by_cases hc : c ∈ X.fs
    · obtain ⟨sl, q⟩ := slot c o (I.cne x c e) hc nch ho (I.freeC x c e)
      exact ⟨_, q, hd⟩
    · exact ⟨o, keep c o (I.cne x c e) hc nch ho (I.freeC x c e), hd⟩
  refine ⟨I.ok, I.os, hg, ⟨fun b o e n hb hx => ?_, fun b o e n hb hx => ?_, fun b o e n hx => ?_, fun b o e hx => ?_, fun b xs e => tups b xs (I.base.tups b xs e), fun b o xs e => frzs b o xs (I.base.frzs b o xs e), fun b ps e => ?_⟩, ?_, fun x c e => ?_, ?_, fun x c e => ?_, fun p hp => ?_, hok, I.len⟩
  · exact keep b o (neL b o e) hb (neC b o e hx) (I.base.keep b o e n hb hx) (I.base.free b o e n hx)
  · obtain ⟨sl, e1⟩ := I.base.slot b o e n hb hx
    obtain ⟨sl', e2⟩ := slot b _ (neL b o e) hb (neC b o e hx) e1 (I.base.free b o e n hx)
    exact ⟨sl', e2⟩
  · obtain ⟨o', e1⟩ := I.base.there b o e hx
    exact free b o' (neC b o e hx) e1 (I.base.free b o e n hx)
  · obtain ⟨o', e1⟩ := I.base.there b o e hx
    exact there b o' (neC b o e hx) e1
  · obtain ⟨m1, e1⟩ := I.base.tbls b ps e
    obtain ⟨m2, e2⟩ := tbls b _ e1
    exact ⟨m1 ++ m2, by rw [e2, Array.append_assoc]⟩
  · obtain ⟨m, hn, hl⟩ := I.loc
    refine ⟨m, ns m hn, fun i x v e1 e2 e3 => ?_⟩
    obtain ⟨u, r, l⟩ := hl i x v e1 e2 e3
    refine ⟨u, r, ?_⟩
    rcases l with l | ⟨k, c, e, z⟩
    · exact .inl l
    · exact .inr ⟨k, c, e, cellK x c e _ z⟩
  · obtain ⟨v, z⟩ := I.cell x c e
    exact ⟨v, cellK x c e v z⟩
  · obtain ⟨m, ⟨o, _, _, ho, _⟩, _⟩ := I.loc
    exact free _ o (fun z => (hch _ z).2.1 rfl) ho I.free
  · obtain ⟨v, o, ho, hd⟩ := I.cell x c e
    exact free c o (fun z => (hch c z).2.2.1 x c e rfl) ho (I.freeC x c e)
  · obtain ⟨e, n, ne, nf, d⟩ := I.pin p hp
    have nch : p.1 ∉ ch := fun z => (hch p.1 z).2.2.2 p hp rfl
    exact ⟨keep p.1 p.2 ne nf nch e n, free p.1 p.2 nch e n, ne, nf, d⟩
/-- .. where the frame's own object is kept too -/
theorem Inv.un {t' : Nat} (I : Inv X pins σ H s) (u : Un X.fs [] H H' s.heap h') (hok : HOk X.prog X.w H' h') : Inv X pins σ H' { s with heap := h', toks := t' } := by
  obtain ⟨m, ⟨o, es, ep, ho, r⟩, _⟩ := id I.loc
  obtain ⟨sl, hL⟩ := u.any ho I.free (by simp)
  exact I.step (g' := s.gens) (d' := s.drawn) (ch := []) (fun _ z => nomatch z) (fun b o _ hb _ e n => u.keep b o e n hb (by simp)) (fun b o _ hb _ e n => u.slot b o e n hb (by simp)) (fun b o _ e n => u.free b o e n (by simp)) (fun b o _ e => u.there b o e (by simp)) u.tups u.frzs u.tbls (fun m' hm => by
    obtain ⟨o', es', ep', ho', r'⟩ := hm
    rw [ho] at ho'; cases ho'
    exact ⟨_, es', ep', hL, r'⟩) hok I.bare
/-- behind a call (or a comprehension's block): the slots of this frame may have changed too, the records at ch may have turned -/
theorem Inv.call {g' : Array GenState} {t' : Nat} {d' : Drawn} {ch : List Addr} (I : Inv X pins σ H s) (u : Un (frs X.stack) ch H H' s.heap h') (hok : HOk X.prog X.w H' h') (hg : AllBare g')
    (hch : ∀ b ∈ ch, (b ∈ X.ex ∨ X.s₀.heap.objs.size ≤ b) ∧ b ≠ X.env.locals ∧ (∀ x c, X.env.cells.lookup x = some c → c ≠ b) ∧ ∀ p ∈ X.pn ++ pins, p.1 ≠ b) :
    Inv X pins σ H' { s with heap := h', gens := g', drawn := d', toks := t' } := by
  obtain ⟨m, ⟨o, es, ep, ho, r⟩, _⟩ := id I.loc
  obtain ⟨sl, hL⟩ := u.any ho I.free fun z => (hch _ z).2.1 rfl
  exact I.step (ch := ch) hch (fun b o hL hb hc e n => u.keep b o e n (fun z => (List.mem_cons.mp (I.stkSub b z)).elim hL hb) hc) (fun b o _ _ hc e n => u.any e n hc) (fun b o hc e n => u.free b o e n hc) (fun b o hc e => u.there b o e hc) u.tups u.frzs u.tbls (fun m' hm => by
    obtain ⟨o', es', ep', ho', r'⟩ := hm
    rw [ho] at ho'; cases ho'
    exact ⟨_, es', ep', hL, r'⟩) hok hg
/-- an untracked record of ours (an iterator) has turned -/
theorem Inv.turned {t' : Nat} {it : Addr} (I : Inv X pins σ H s) (k : ∀ b o, b ≠ it → s.heap.get? b = some o → h'.get? b = some o) (hn : H it = none) (hL : it ≠ X.env.locals)
    (h1 : it ∈ X.ex ∨ X.s₀.heap.objs.size ≤ it) (h2 : ∀ x c, X.env.cells.lookup x = some c → c ≠ it) (h3 : ∀ p ∈ X.pn ++ pins, p.1 ≠ it) : Inv X pins σ H { s with heap := h', toks := t' } := by
  have nit : ∀ b u, H b = some u → b ≠ it := fun b u e z => by rw [z, hn] at e; cases e
  refine I.step (g' := s.gens) (d' := s.drawn) (ch := [it]) (fun b hb => ?_) (fun b o _ _ hc e _ => k b o (fun z => hc (by simp [z])) e) (fun b o _ _ hc e _ => ⟨o.slots, k b o (fun z => hc (by simp [z])) e⟩) (fun _ _ _ _ n => n)
    (fun b o hc e => ⟨o, k b o (fun z => hc (by simp [z])) e⟩) (fun _ _ e => e) (fun _ _ _ e => e) (fun b ps e => ⟨#[], by rw [e]; simp⟩) (fun m hm => ?_) (fun b u e => ?_) I.bare
  · have e : b = it := by simpa using hb
    subst e
    exact ⟨h1, hL, h2, h3⟩
  · obtain ⟨o, es, ep, ho, r⟩ := hm
    exact ⟨o, es, ep, k _ o (Ne.symm hL) ho, r⟩
  · refine (I.hok b u e).stay (fun c v hc q => k c v ?_ q) (fun _ q => q) fun _ _ q => q
    rcases hc with z | z
    · rw [z]; exact nit b u e
    · exact nit c _ z
theorem Inv.tok (I : Inv X pins σ H s) (t : Nat) : Inv X pins σ H { s with toks := t } := I.un (h' := s.heap) (t' := t) Un.refl I.hok
/-- all objects kept -/
theorem Inv.kept {t' : Nat} (I : Inv X pins σ H s) (k : ∀ b u, s.heap.get? b = some u → h'.get? b = some u) : Inv X pins σ H { s with heap := h', toks := t' } := I.un (Un.kept k) (I.hok.kept k)
/-- a new object laid and tracked -/
theorem Inv.laid {a : Addr} {o : HO} {t' : Nat} (I : Inv X pins σ H s) (k : ∀ b u, s.heap.get? b = some u → h'.get? b = some u) (hp : s.heap.objs.size ≤ a) (new : ObjOk X.prog X.w (upd H a o) h' a o) :
    Inv X pins σ (upd H a o) { s with heap := h', toks := t' } := I.un (Un.laid k hp (I.hok.fresh hp)) (I.hok.laid k hp new)
/-- an object written -/
theorem Inv.write {x e : Addr} {o : HO} {t' : Nat} (I : Inv X pins σ H s) (mu : Mut (H x)) (he : e = x ∨ H e = some (.own x)) (k : ∀ b u, b ≠ e → s.heap.get? b = some u → h'.get? b = some u) (heo : ∃ u, h'.get? e = some u)
    (new : ObjOk X.prog X.w (upd H x o) h' x o) : Inv X pins σ (upd H x o) { s with heap := h', toks := t' } := I.un (Un.write mu he k heo) (I.hok.write mu he k heo new)
theorem Inv.pins_of {pins' : List (Addr × Obj)} (I : Inv X pins σ H s) (h : ∀ p ∈ pins', s.heap.get? p.1 = some p.2 ∧ H p.1 = none ∧ p.1 ≠ X.env.locals ∧ p.1 ∉ X.fs ∧ ∀ v, p.2.data ≠ .cell v) : Inv X pins' σ H s :=
  ⟨I.ok, I.os, I.bare, I.base, I.loc, I.cell, I.free, I.freeC, fun p hp => (List.mem_append.mp hp).elim (fun z => I.pin p (List.mem_append_left _ z)) (h p), I.hok, I.len⟩

theorem nodup_ix {N : List Str} (hN : N.Nodup) {i j : Nat} {x : Str} (a : N[i]? = some x) (b : N[j]? = some x) : i = j := by
  obtain ⟨h1, e1⟩ := List.getElem?_eq_some_iff.mp a
  obtain ⟨h2, e2⟩ := List.getElem?_eq_some_iff.mp b
  exact (List.getElem_inj hN).mp (e1.trans e2.symm)

/-- a name is stored; what changed -/
theorem store_ok2 {M : Model} {A : Around} {E : Value → Shared → Prop} {i : Nat} {x : Str} {v : V} {u : Value} {Q : Unit → Shared → Prop} (I : Inv X pins σ H s) (hN : X.N.Nodup) (hi : X.N[i]? = some x) (hx : Loc X.env.scope x) (r : RelV v u)
    (h : ∀ s', Inv X pins (σ.set i (some v)) H s' → (∃ a, Heap.SameBut a s.heap s'.heap ∧ (a = X.env.locals ∨ X.env.cells.lookup x = some a)) → Q () s') (hf : X.fn x = true ∨ X.env.scope.names.lookup x = some .local := by first | exact .inl rfl | exact .inr rfl | assumption) : wpAny M A (storeName X.env x u) Q E s := by
  obtain ⟨m, hn, hl⟩ := id I.loc
  have hcls : (X.env.scope.kind == .class || (X.env.scope.kind == .module && X.env.locals != X.env.globals)) = false := by rw [I.ok.kind]; rfl
  have hiσ : i < σ.length := by rw [I.len]; exact (List.getElem?_eq_some_iff.mp hi).1
  have cne := I.cne
  have tracked : ∀ {a : Addr} {h' : Heap}, (∃ o, s.heap.get? a = some o ∧ H a = none) → Heap.SameBut a s.heap h' → HOk X.prog X.w H h' := fun {a h'} ha hs b ob e => by
    obtain ⟨_, _, hfree⟩ := ha
    refine (I.hok b ob e).stay (fun c w' hc q => (hs.2 c ?_).trans q) (fun _ q => q) fun _ _ q => q
    rintro rfl
    rcases hc with rfl | hc
    · rw [hfree] at e; cases e
    · rw [hfree] at hc; cases hc
  rcases hx with hk | hk
  · refine wpAny_storeName_local hk hn (fun h' hn' hs => ?_) hcls
    obtain ⟨oL, _, _, hoL, _⟩ := id hn
    refine h _ ⟨I.ok, I.os, I.bare, ⟨fun b o e n hb hx => ?_, fun b o e n hb hx => ?_, I.base.free, fun b o e hx => ?_, I.base.tups, I.base.frzs, I.base.tbls⟩, ⟨_, hn', fun j y v' e1 e2 e3 => ?_⟩, fun y c e => ?_, I.free, I.freeC, fun p hp => ?_, tracked ⟨oL, hoL, I.free⟩ hs, by simpa using I.len⟩ ⟨_, hs, .inl rfl⟩
    · exact (hs.2 b (Nat.ne_of_lt (Nat.lt_of_lt_of_le (Heap.lt_size e) I.ok.above))).trans (I.base.keep b o e n hb hx)
    · obtain ⟨sl, e1⟩ := I.base.slot b o e n hb hx
      exact ⟨sl, (hs.2 b (Nat.ne_of_lt (Nat.lt_of_lt_of_le (Heap.lt_size e) I.ok.above))).trans e1⟩
    · obtain ⟨o', e1⟩ := I.base.there b o e hx
      exact ⟨o', (hs.2 b (Nat.ne_of_lt (Nat.lt_of_lt_of_le (Heap.lt_size e) I.ok.above))).trans e1⟩
    · by_cases hj : j = i
      · subst hj
        rw [hi] at e1; cases e1
        rw [List.getElem?_set_self hiσ] at e2
        cases e2
        exact ⟨u, r, .inl ⟨hk, by simp⟩⟩
      · rw [List.getElem?_set_ne (Ne.symm hj)] at e2
        obtain ⟨u', r', q⟩ := hl j y v' e1 e2 e3
        refine ⟨u', r', ?_⟩
        rcases q with ⟨k, e⟩ | ⟨k, c, e, z⟩
        · refine .inl ⟨k, ?_⟩
          have : y ≠ x := fun e => hj (nodup_ix hN e1 (e ▸ hi))
          simp [this, e]
        · exact .inr ⟨k, c, e, z.sameBut hs (cne y c e)⟩
    · obtain ⟨w', z⟩ := I.cell y c e
      exact ⟨w', z.sameBut hs (cne y c e)⟩
    · obtain ⟨e, n, ne, nf, d⟩ := I.pin p hp
      exact ⟨(hs.2 p.1 ne).trans e, n, ne, nf, d⟩
  · have hfn : X.fn x = true := by
      rcases hf with z | z
      · exact z
      · rw [z] at hk; cases hk
    obtain ⟨c, hc⟩ := I.ok.has x (.inl hk)
    obtain ⟨w', z⟩ := I.cell x c hc
    refine wpAny_storeName_cell I.ok.kind hk hc z (fun h' hc' hs => ?_)
    obtain ⟨oc, hoc, hocd⟩ := id z
    refine h { s with heap := h' } ⟨I.ok, I.os, I.bare, ⟨fun b o e n hb hx => ?_, fun b o e n hb hx => ?_, I.base.free, fun b o e hx => ?_, I.base.tups, I.base.frzs, I.base.tbls⟩, ⟨m, hn.sameBut hs (Ne.symm (cne x c hc)), fun j y v' e1 e2 e3 => ?_⟩, fun y c' e => ?_, I.free, I.freeC, fun p hp => ?_, tracked ⟨oc, hoc, I.freeC x c hc⟩ hs, by simpa using I.len⟩ ⟨c, hs, .inr hc⟩
    · exact (hs.2 b (Nat.ne_of_lt (Nat.lt_of_lt_of_le (Heap.lt_size e) (I.ok.cab x c hfn hc)))).trans (I.base.keep b o e n hb hx)
    · obtain ⟨sl, e1⟩ := I.base.slot b o e n hb hx
      exact ⟨sl, (hs.2 b (Nat.ne_of_lt (Nat.lt_of_lt_of_le (Heap.lt_size e) (I.ok.cab x c hfn hc)))).trans e1⟩
    · obtain ⟨o', e1⟩ := I.base.there b o e hx
      exact ⟨o', (hs.2 b (Nat.ne_of_lt (Nat.lt_of_lt_of_le (Heap.lt_size e) (I.ok.cab x c hfn hc)))).trans e1⟩
    · by_cases hj : j = i
      · subst hj
        rw [hi] at e1; cases e1
        rw [List.getElem?_set_self hiσ] at e2
        cases e2
        exact ⟨u, r, .inr ⟨.inl hk, c, hc, hc'⟩⟩
      · rw [List.getElem?_set_ne (Ne.symm hj)] at e2
        obtain ⟨u', r', q⟩ := hl j y v' e1 e2 e3
        refine ⟨u', r', ?_⟩
        rcases q with q | ⟨k, c', e, z'⟩
        · exact .inl q
        · refine .inr ⟨k, c', e, z'.sameBut hs ?_⟩
          rintro rfl
          exact hj (nodup_ix hN e1 (I.ok.inj _ _ _ e hc ▸ hi))
    · by_cases hcc : c' = c
      · subst hcc; exact ⟨_, hc'⟩
      · obtain ⟨w2, z2⟩ := I.cell y c' e
        exact ⟨w2, z2.sameBut hs hcc⟩
    · obtain ⟨e, n, ne, nf, d⟩ := I.pin p hp
      refine ⟨(hs.2 p.1 ?_).trans e, n, ne, nf, d⟩
      intro q
      rw [q, hoc] at e
      have q' : oc = p.2 := Option.some.inj e
      exact d w' (by rw [← q']; exact hocd)
theorem store_ok {M : Model} {A : Around} {E : Value → Shared → Prop} {i : Nat} {x : Str} {v : V} {u : Value} {Q : Unit → Shared → Prop} (I : Inv X pins σ H s) (hN : X.N.Nodup) (hi : X.N[i]? = some x) (hx : Loc X.env.scope x) (r : RelV v u)
    (h : ∀ s', Inv X pins (σ.set i (some v)) H s' → Q () s') (hf : X.fn x = true ∨ X.env.scope.names.lookup x = some .local := by first | exact .inl rfl | exact .inr rfl | assumption) : wpAny M A (storeName X.env x u) Q E s :=
  store_ok2 I hN hi hx r (fun s' I' _ => h s' I') hf
/-- behind a call or a block, the state as it is -/
theorem Inv.call' {s' : Shared} {ch : List Addr} (I : Inv X pins σ H s) (ho : s'.os = s.os) (u : Un (frs X.stack) ch H H' s.heap s'.heap) (hok : HOk X.prog X.w H' s'.heap) (hg : AllBare s'.gens)
    (hch : ∀ b ∈ ch, (b ∈ X.ex ∨ X.s₀.heap.objs.size ≤ b) ∧ b ≠ X.env.locals ∧ (∀ x c, X.env.cells.lookup x = some c → c ≠ b) ∧ ∀ p ∈ X.pn ++ pins, p.1 ≠ b) : Inv X pins σ H' s' := by
  obtain ⟨h', g', d', t', o'⟩ := s'
  have e : o' = s.os := ho
  subst e
  exact I.call (g' := g') (t' := t') (d' := d') u hok hg hch
end

/-! ### the judgements -/
/-- an exception: its class, its own dict's address (where it has one), the abstract heap behind it -/
abbrev XK := Value → Option Addr → Hp → Prop
abbrev St := List (Option V)
abbrev VK := V → Hp → Prop
/-- an expression's reading; a test's; an argument list's -/
abbrev TE := St → Hp → VK → Prop
abbrev TT := St → Hp → (Bool → Hp → Prop) → Prop
abbrev TA := St → Hp → (List V → Hp → Prop) → Prop
/-- what is wanted behind a statement -/
structure Ends where
  nx : St → Hp → Prop
  rt : VK
  bk : St → Hp → Prop := fun _ _ => False
  ct : St → Hp → Prop := fun _ _ => False
abbrev TS := Ends → St → Hp → Prop

def EP (X : Cx) (pins : List (Addr × Obj)) (σ : St) (Q : VK) (u : Value) (s' : Shared) : Prop := ∃ v H', Inv X pins σ H' s' ∧ RelV v u ∧ Q v H'
def TP (X : Cx) (pins : List (Addr × Obj)) (σ : St) (Q : Bool → Hp → Prop) (b : Bool) (s' : Shared) : Prop := ∃ H', Inv X pins σ H' s' ∧ Q b H'
def AP (X : Cx) (pins : List (Addr × Obj)) (σ : St) (Q : List V → Hp → Prop) (us : List Value) (s' : Shared) : Prop := ∃ vs H', Inv X pins σ H' s' ∧ Vals vs us ∧ Q vs H'
def SP (X : Cx) (pins : List (Addr × Obj)) (D : Ends) (f : Flow) (s' : Shared) : Prop :=
  match f with
  | .next => ∃ σ' H', Inv X pins σ' H' s' ∧ D.nx σ' H'
  | .brk => ∃ σ' H', Inv X pins σ' H' s' ∧ D.bk σ' H'
  | .cont => ∃ σ' H', Inv X pins σ' H' s' ∧ D.ct σ' H'
  | .ret u => ∃ v σ' H', Inv X pins σ' H' s' ∧ RelV v u ∧ D.rt v H'

def PE (X : Cx) (e : Expr) (t : TE) : Prop :=
  ∀ (pins : List (Addr × Obj)) (s : Shared) (σ : St) (H : Hp) (Q : VK), Inv X pins σ H s → t σ H Q → wpAny (model X.prog X.w) X.A (eval e X.env) (EP X pins σ Q) X.xe s
def PT (X : Cx) (e : Expr) (t : TT) : Prop :=
  ∀ (pins : List (Addr × Obj)) (s : Shared) (σ : St) (H : Hp) (Q : Bool → Hp → Prop), Inv X pins σ H s → t σ H Q → wpAny (model X.prog X.w) X.A (isTrue e X.env (eval e X.env)) (TP X pins σ Q) X.xe s
/-- a test whatever its 'whole' is (and, or) -/
def PW (X : Cx) (e : Expr) (t : TT) : Prop :=
  ∀ (whole : Sem Value) (pins : List (Addr × Obj)) (s : Shared) (σ : St) (H : Hp) (Q : Bool → Hp → Prop), Inv X pins σ H s → t σ H Q → wpAny (model X.prog X.w) X.A (isTrue e X.env whole) (TP X pins σ Q) X.xe s
theorem PW.pt {X : Cx} {e : Expr} {t : TT} (h : PW X e t) : PT X e t := h _
/-- an argument list (no star), from the left -/
def PA (X : Cx) (es : List Expr) (t : TA) : Prop :=
  ∀ (pos : Pos) (pins : List (Addr × Obj)) (s : Shared) (σ : St) (H : Hp) (Q : List V → Hp → Prop), Inv X pins σ H s → t σ H Q → wpAny (model X.prog X.w) X.A (spliced (backTo pos (starEach es X.env))) (AP X pins σ Q) X.xe s
def PS (X : Cx) (st : Stmt) (t : TS) : Prop :=
  ∀ (pins : List (Addr × Obj)) (s : Shared) (σ : St) (H : Hp) (D : Ends), Inv X pins σ H s → t D σ H → wpAny (model X.prog X.w) X.A (exec st X.env) (SP X pins D) X.xe s
def PSs (X : Cx) (st : List Stmt) (t : TS) : Prop :=
  ∀ (pins : List (Addr × Obj)) (s : Shared) (σ : St) (H : Hp) (D : Ends), Inv X pins σ H s → t D σ H → wpAny (model X.prog X.w) X.A (execs st X.env) (SP X pins D) X.xe s
/-- weaken the end -/
theorem thn {α : Type} {t : Sem α} {Q Q' : α → Shared → Prop} {M : Model} {A : Around} {E : Value → Shared → Prop} {s : Shared} (h : wpAny M A t Q E s) (hQ : ∀ a s, Q a s → Q' a s) : wpAny M A t Q' E s := wpAny_mono h hQ fun _ _ x => x
end L2

namespace L2
open PySem PySem.Spec PyProof.Rows
section
variable {X : Cx}

/-! ### names and constants -/
def tVar (i : Nat) : TE := fun σ H Q => ∃ v, σ[i]? = some (some v) ∧ Q v H
def tC (v : V) : TE := fun _ H Q => Q v H
theorem pe_var {i : Nat} {x : Str} {pos : Pos} (hN : X.N[i]? = some x) (hv : Vis X.env.scope x) (hd : (x == ("__debug__" : Str)) = false := by decide) (hcd : (x == ("__classdict__" : Str)) = false := by decide) : PE X (.Name x pos) (tVar i) := by
  intro pins s σ H Q I h
  obtain ⟨v, e, h⟩ := h
  obtain ⟨m, hn, hl⟩ := I.loc
  obtain ⟨u, r, l⟩ := hl i x v hN e hv
  have fin : EP X pins σ Q u s := ⟨v, H, I, r, h⟩
  rcases l with ⟨hk, hm⟩ | ⟨hk, c, hc, hcell⟩
  · exact wpAny_Name (wpAny_loadName_local I.ok.kind hk hn hm fin) hd
  · rcases hk with hk | hk
    · exact wpAny_Name (wpAny_loadName_cell I.ok.kind hk hc hcell fin) hd
    · exact wpAny_Name (wpAny_loadName_free I.ok.kind hk hc hcell fin hcd) hd
theorem pe_int {i j pos} : PE X (.Constant (.int i) j pos) (tC (.int i)) := fun _ _ _ H _ I h => wpAny_Constant_int ⟨.int i, H, I.tok _, ⟨_, rfl⟩, h⟩
theorem pe_bl {b j pos} : PE X (.Constant (.bool b) j pos) (tC (.bl b)) := fun _ _ _ H _ I h => Constant_bool ⟨.bl b, H, I, rfl, h⟩
theorem pe_non {j pos} : PE X (.Constant .none j pos) (tC .non) := fun _ _ _ H _ I h => Constant_none ⟨.non, H, I, rfl, h⟩
theorem pe_str {x j pos} : PE X (.Constant (.str x) j pos) (tC (.str x)) := fun _ _ _ H _ I h => Calls.Constant_str ⟨.str x, H, I.tok _, ⟨_, rfl⟩, h⟩

/-- a global name of the def -/
def Gl (X : Cx) (x : Str) : Prop := X.env.kindOf x = some .globalImplicit
theorem ld_glob {E : Value → Shared → Prop} {pins : List (Addr × Obj)} {s : Shared} {σ : St} {H : Hp} {x : Str} {u : Value} {pos : Pos} {Q : Value → Shared → Prop} (I : Inv X pins σ H s) (hg : Gl X x) (hm : X.mg x = some u) (h : Q u s)
    (hd : (x == ("__debug__" : Str)) = false := by decide) : wpAny (model X.prog X.w) X.A (eval (.Name x pos) X.env) Q E s :=
  Calls.Name_function_global I.ok.kind hg (Calls.loadGlobal_global (by rw [I.ok.glob]; exact I.mod.glob.keeps I.bk) hm h) hd
theorem ld_blt {E : Value → Shared → Prop} {pins : List (Addr × Obj)} {s : Shared} {σ : St} {H : Hp} {x : Str} {u : Value} {pos : Pos} {Q : Value → Shared → Prop} (I : Inv X pins σ H s) (hg : Gl X x) (hm : X.mg x = none) (hv : bootBuiltins x = some u) (h : Q u s)
    (hn : x ≠ "__name__" := by decide) (hd : (x == ("__debug__" : Str)) = false := by decide) : wpAny (model X.prog X.w) X.A (eval (.Name x pos) X.env) Q E s := by
  obtain ⟨mb, h1, h2⟩ := I.mod.blt
  exact Calls.Name_function_global I.ok.kind hg (Calls.loadGlobal_builtin (by rw [I.ok.glob]; exact I.mod.glob.keeps I.bk) hm (by rw [I.ok.blt]; exact h1.keeps I.bk) ((h2 x hn).trans hv) h) hd
/-- a module's constant, a class, a function, as a value -/
theorem pe_glob {x : Str} {v : V} {u : Value} {pos : Pos} (hg : Gl X x) (hm : X.mg x = some u) (r : RelV v u) (hd : (x == ("__debug__" : Str)) = false := by decide) : PE X (.Name x pos) (tC v) :=
  fun _ _ _ H _ I h => ld_glob I hg hm ⟨v, H, I, r, h⟩ hd
theorem pe_bltn {x : Str} {v : V} {u : Value} {pos : Pos} (hg : Gl X x) (hm : X.mg x = none) (hv : bootBuiltins x = some u) (r : RelV v u) (hn : x ≠ "__name__" := by decide) (hd : (x == ("__debug__" : Str)) = false := by decide) : PE X (.Name x pos) (tC v) :=
  fun _ _ _ H _ I h => ld_blt I hg hm hv ⟨v, H, I, r, h⟩ hn hd

/-! ### arithmetic -/
variable {a b : Expr} {ta tb : TE} {pos : Pos}
/-! ### comparisons -/
/-- a comparison as a value, as a test -/
def tB (t : TE) : TT := fun σ H Q => t σ H fun x H1 => ∃ c, x = .bl c ∧ Q c H1
/-- an expression whose value is a bool, as a test -/
theorem pt_val {e : Expr} {t : TE} (h : PE X e t) (he : ∀ whole, isTrue e X.env whole = (do let v ← whole; standAt e.pos; holding [v] (truthy v)) := by intro _; rfl) : PT X e (tB t) := by
  intro pins s σ H Q I hw
  refine isTrue_plain (thn (h pins s σ H _ I hw) fun v s1 ⟨x, H1, I1, r1, q1⟩ => ?_) (he _)
  obtain ⟨d, rfl, q⟩ := q1
  cases r1
  exact wpAny_truthy_bool ⟨H1, I1, q⟩

/-! ### and, or, not -/
variable {tA tB' : TT} {rest : List Expr}
def tAnd (t u : TT) : TT := fun σ H Q => t σ H fun c H1 => if c = true then u σ H1 Q else Q false H1
def tOr (t u : TT) : TT := fun σ H Q => t σ H fun c H1 => if c = true then Q true H1 else u σ H1 Q
def tNot (t : TT) : TT := fun σ H Q => t σ H fun c H1 => Q (!c) H1
theorem pw_and1 (ha : PT X a tA) : PW X (.BoolOp .And [a] pos) tA := by
  intro wh pins s σ H Q I h
  refine isTrue_and (thn (ha pins s σ H Q I h) fun c s1 e => ?_)
  cases c with
  | true => exact isTrue_and_nil e
  | false => exact e
theorem pw_or1 (ha : PT X a tA) : PW X (.BoolOp .Or [a] pos) tA := by
  intro wh pins s σ H Q I h
  refine isTrue_or (thn (ha pins s σ H Q I h) fun c s1 e => ?_)
  cases c with
  | false => exact isTrue_or_nil e
  | true => exact e
theorem pw_and (ha : PT X a tA) (hb : PW X (.BoolOp .And (b :: rest) pos) tB') : PW X (.BoolOp .And (a :: b :: rest) pos) (tAnd tA tB') := by
  intro wh pins s σ H Q I h
  refine isTrue_and (thn (ha pins s σ H _ I h) fun c s1 ⟨H1, I1, q1⟩ => ?_)
  cases c with
  | true => exact hb wh pins s1 σ H1 Q I1 q1
  | false => exact ⟨H1, I1, q1⟩
theorem pw_or (ha : PT X a tA) (hb : PW X (.BoolOp .Or (b :: rest) pos) tB') : PW X (.BoolOp .Or (a :: b :: rest) pos) (tOr tA tB') := by
  intro wh pins s σ H Q I h
  refine isTrue_or (thn (ha pins s σ H _ I h) fun c s1 ⟨H1, I1, q1⟩ => ?_)
  cases c with
  | true => exact ⟨H1, I1, q1⟩
  | false => exact hb wh pins s1 σ H1 Q I1 q1
theorem pt_not (ha : PT X a tA) : PT X (.UnaryOp .Not a pos) (tNot tA) := by
  intro pins s σ H Q I h
  exact isTrue_not (ha pins s σ H (fun c H1 => Q (!c) H1) I h)
/-- .. as values (bools) -/
def tAndV (ta tb : TE) : TE := fun σ H Q => ta σ H fun x H1 => ∃ c, x = .bl c ∧ if c = true then tb σ H1 Q else Q (.bl false) H1
def tOrV (ta tb : TE) : TE := fun σ H Q => ta σ H fun x H1 => ∃ c, x = .bl c ∧ if c = true then Q (.bl true) H1 else tb σ H1 Q
theorem pe_one {op} {t : TE} (h : PE X a t) : PE X (.BoolOp op [a] pos) t := fun pins s σ H Q I hw => BoolOp_one (h pins s σ H Q I hw)
theorem pe_and (ha : PE X a ta) (hb : PE X (.BoolOp .And (b :: rest) pos) tb) : PE X (.BoolOp .And (a :: b :: rest) pos) (tAndV ta tb) := by
  intro pins s σ H Q I h
  refine BoolOp_and (thn (ha pins s σ H _ I h) fun v s1 ⟨x, H1, I1, r1, q1⟩ => ?_)
  obtain ⟨c, rfl, q1⟩ := q1
  cases r1
  refine wpAny_truthy_bool ?_
  cases c with
  | true => exact hb pins s1 σ H1 Q I1 q1
  | false => exact ⟨.bl false, H1, I1, rfl, q1⟩
theorem pe_or (ha : PE X a ta) (hb : PE X (.BoolOp .Or (b :: rest) pos) tb) : PE X (.BoolOp .Or (a :: b :: rest) pos) (tOrV ta tb) := by
  intro pins s σ H Q I h
  refine BoolOp_or (thn (ha pins s σ H _ I h) fun v s1 ⟨x, H1, I1, r1, q1⟩ => ?_)
  obtain ⟨c, rfl, q1⟩ := q1
  cases r1
  refine wpAny_truthy_bool ?_
  cases c with
  | false => exact hb pins s1 σ H1 Q I1 q1
  | true => exact ⟨.bl true, H1, I1, rfl, q1⟩
/-- a if t else b -/
def tIf (t : TT) (ta tb : TE) : TE := fun σ H Q => t σ H fun c H1 => if c = true then ta σ H1 Q else tb σ H1 Q
theorem pe_ifExp {c : Expr} (hc : PT X c tA) (ha : PE X a ta) (hb : PE X b tb) : PE X (.IfExp c a b pos) (tIf tA ta tb) := by
  intro pins s σ H Q I h
  refine wpAny_IfExp (thn (hc pins s σ H _ I h) fun d s1 ⟨H1, I1, q1⟩ => ?_)
  cases d with
  | true => exact ha pins s1 σ H1 Q I1 q1
  | false => exact hb pins s1 σ H1 Q I1 q1
end
end L2

namespace L2
open PySem PySem.Spec PyProof.Rows

/-! ### a list, a tuple that is read: tracked, frozen, or an object of the module -/
def SqL (K : PySem.W.Frag) (H : Hp) (a : Addr) (xs : List V) : Prop :=
  Rd H a (.lst xs) ∨
    ∃ (o : Obj) (its : Array Value) (n : Nat), K.lookup a = some o ∧ o.cls = .type "list" ∧ o.dict = none ∧ o.data = .seq its n ∧ its.size ≤ sizeLine ∧ Vals xs its.toList
def SqT (K : PySem.W.Frag) (H : Hp) (a : Addr) (xs : List V) : Prop :=
  Rd H a (.tup xs) ∨
    ∃ (o : Obj) (its : Array Value) (n : Nat), K.lookup a = some o ∧ o.cls = .type "tuple" ∧ o.data = .seq its n ∧ its.size ≤ sizeLine ∧ Vals xs its.toList
def absV : Value → Option V
  | .none => some .non
  | .bool b => some (.bl b)
  | .int i _ => some (.int i)
  | .str x _ => some (.str x)
  | .bytes b _ => some (.byt b)
  | .float b _ => some (.flt b)
  | .ref a => some (.ref a)
  | .type n => some (.ty n)
  | _ => none
theorem RelV.abs {x : V} {u : Value} (r : RelV x u) : absV u = some x := by
  cases x with
  | non => cases r; rfl
  | bl _ => cases r; rfl
  | int _ => obtain ⟨t, rfl⟩ := r; rfl
  | str _ => obtain ⟨t, rfl⟩ := r; rfl
  | byt _ => obtain ⟨t, rfl⟩ := r; rfl
  | flt _ => obtain ⟨t, rfl⟩ := r; rfl
  | ref _ => cases r; rfl
  | ty _ => cases r; rfl
theorem RelV.inj {x y : V} {u : Value} (r : RelV x u) (q : RelV y u) : x = y := Option.some.inj (r.abs.symm.trans q.abs)
theorem Vals.inj : ∀ {xs ys : List V} {us : List Value}, Vals xs us → Vals ys us → xs = ys
  | _, _, _, .nil, .nil => rfl
  | _, _, _, .cons r t, .cons r' t' => by rw [r.inj r', Vals.inj t t']
section
variable {X : Cx} {pins : List (Addr × Obj)} {σ : St} {H : Hp} {s : Shared} {a : Addr} {xs ys : List V}
theorem SqL.of {K : PySem.W.Frag} (h : H a = some (.lst xs)) : SqL K H a xs := .inl (.inl h)
theorem SqT.of {K : PySem.W.Frag} (h : H a = some (.tup xs)) : SqT K H a xs := .inl (.inl h)
theorem Inv.list (I : Inv X pins σ H s) (h : SqL X.K H a xs) : ∃ its : List Value, Vals xs its ∧ PlainL s.heap a its.toArray ∧ xs.length ≤ sizeLine := by
  rcases h with h | ⟨o, its, n, hk, hc, hd, hs, hz, r⟩
  · obtain ⟨z, its, n, r, e⟩ := h.ok I.hok
    exact ⟨its, r, ⟨_, n, e, rfl, rfl, rfl⟩, z⟩
  · refine ⟨its.toList, r, ⟨o, n, I.kIn a o hk, hc, hd, by simpa using hs⟩, ?_⟩
    have e := r.length
    simp only [Array.length_toList] at e
    omega
theorem Inv.tuple (I : Inv X pins σ H s) (h : SqT X.K H a xs) : ∃ its : List Value, Vals xs its ∧ IsTup s.heap a its.toArray ∧ xs.length ≤ sizeLine := by
  rcases h with h | ⟨o, its, n, hk, hc, hs, hz, r⟩
  · obtain ⟨z, its, r, p⟩ := h.ok I.hok
    exact ⟨its, r, p, z⟩
  · refine ⟨its.toList, r, ⟨o, I.kIn a o hk, hc, n, by simpa using hs⟩, ?_⟩
    have e := r.length
    simp only [Array.length_toList] at e
    omega
theorem Inv.list_inj (I : Inv X pins σ H s) (h : SqL X.K H a xs) (h' : SqL X.K H a ys) : xs = ys := by
  obtain ⟨its, r, ⟨o, n, e, _, _, d⟩, _⟩ := I.list h
  obtain ⟨its', r', ⟨o', n', e', _, _, d'⟩, _⟩ := I.list h'
  rw [e] at e'; cases e'
  rw [d] at d'
  injection d' with d1 _
  have : its = its' := by simpa using congrArg Array.toList d1
  subst this
  exact r.inj r'
theorem Inv.tuple_inj (I : Inv X pins σ H s) (h : SqT X.K H a xs) (h' : SqT X.K H a ys) : xs = ys := by
  obtain ⟨its, r, ⟨o, e, _, n, d⟩, _⟩ := I.tuple h
  obtain ⟨its', r', ⟨o', e', _, n', d'⟩, _⟩ := I.tuple h'
  rw [e] at e'; cases e'
  rw [d] at d'
  injection d' with d1 _
  have : its = its' := by simpa using congrArg Array.toList d1
  subst this
  exact r.inj r'
end

/-! ### another wish about exceptions -/
abbrev Cx.wish (X : Cx) (E : Value → Shared → Prop) : Cx := { X with xe := E }
/-- no exception leaves -/
abbrev Cx.nox (X : Cx) : Cx := X.wish fun _ _ => False
theorem Cx.Ok.wish {X : Cx} (ok : X.Ok) (E : Value → Shared → Prop) : (X.wish E).Ok :=
  ⟨ok.mod, ok.kind, ok.glob, ok.blt, ok.above, ok.inj, ok.has, ok.cab, ok.hd, ok.frames, ok.stk, ok.exf, ok.bs, ok.bsz, ok.noex, ok.exfs, ok.funs, ok.frf⟩
theorem Cx.Ok.unwish {X : Cx} {E : Value → Shared → Prop} (ok : (X.wish E).Ok) : X.Ok :=
  ⟨ok.mod, ok.kind, ok.glob, ok.blt, ok.above, ok.inj, ok.has, ok.cab, ok.hd, ok.frames, ok.stk, ok.exf, ok.bs, ok.bsz, ok.noex, ok.exfs, ok.funs, ok.frf⟩
section
variable {X : Cx} {pins : List (Addr × Obj)} {σ : St} {H : Hp} {s : Shared} {E : Value → Shared → Prop}
theorem Inv.wish (I : Inv X pins σ H s) (E : Value → Shared → Prop) : Inv (X.wish E) pins σ H s := ⟨I.ok.wish E, I.os, I.bare, I.base, I.loc, I.cell, I.free, I.freeC, I.pin, I.hok, I.len⟩
theorem Inv.unwish (I : Inv (X.wish E) pins σ H s) : Inv X pins σ H s := ⟨I.ok.unwish, I.os, I.bare, I.base, I.loc, I.cell, I.free, I.freeC, I.pin, I.hok, I.len⟩
theorem SP.unwish {D : Ends} {f : Flow} {s' : Shared} (h : SP (X.wish E) pins D f s') : SP X pins D f s' := by
  cases f with
  | next => obtain ⟨σ', H', I, q⟩ := h; exact ⟨σ', H', I.unwish, q⟩
  | brk => obtain ⟨σ', H', I, q⟩ := h; exact ⟨σ', H', I.unwish, q⟩
  | cont => obtain ⟨σ', H', I, q⟩ := h; exact ⟨σ', H', I.unwish, q⟩
  | ret u => obtain ⟨v, σ', H', I, r, q⟩ := h; exact ⟨v, σ', H', I.unwish, r, q⟩
theorem PE.nox {e : Expr} {t : TE} (h : PE X.nox e t) : PE X e t := fun pins s σ H Q I hw =>
  wpAny_mono (h pins s σ H Q (I.wish _) hw) (fun _ _ ⟨v, H', I', r, q⟩ => ⟨v, H', I'.unwish, r, q⟩) fun _ _ z => False.elim z
theorem PT.nox {e : Expr} {t : TT} (h : PT X.nox e t) : PT X e t := fun pins s σ H Q I hw =>
  wpAny_mono (h pins s σ H Q (I.wish _) hw) (fun _ _ ⟨H', I', q⟩ => ⟨H', I'.unwish, q⟩) fun _ _ z => False.elim z
theorem PSs.nox {st : List Stmt} {t : TS} (h : PSs X.nox st t) : PSs X st t := fun pins s σ H D I hw =>
  wpAny_mono (h pins s σ H D (I.wish _) hw) (fun _ _ q => q.unwish) fun _ _ z => False.elim z
end

/-! ### blocks and small statements -/
section
variable {X : Cx} {st : Stmt} {rest : List Stmt} {t u : TS} {e : Expr} {te : TE} {pos : Pos}
def tNext : TS := fun D σ H => D.nx σ H
def tSeq (t u : TS) : TS := fun D σ H => t { D with nx := u D } σ H
theorem pss_nil : PSs X [] tNext := fun _ _ σ H _ I h => wpAny_execs_nil ⟨σ, H, I, h⟩
theorem pss_cons (h1 : PS X st t) (h2 : PSs X rest u) : PSs X (st :: rest) (tSeq t u) := by
  intro pins s σ H D I h
  refine wpAny_execs_cons (thn (h1 pins s σ H { D with nx := u D } I h) fun f s1 q => ?_)
  cases f with
  | next =>
    obtain ⟨σ', H', I', q⟩ := q
    exact h2 pins s1 σ' H' D I' q
  | ret v => exact q
  | brk => exact q
  | cont => exact q
theorem pss_one (h1 : PS X st t) : PSs X [st] t := by
  intro pins s σ H D I h
  refine wpAny_execs_cons (thn (h1 pins s σ H D I h) fun f s1 q => ?_)
  cases f with
  | next => exact wpAny_execs_nil q
  | ret v => exact q
  | brk => exact q
  | cont => exact q
/-- in a def's body nothing is shown -/
theorem Inv.quiet {pins : List (Addr × Obj)} {σ : St} {H : Hp} {s : Shared} (I : Inv X pins σ H s) : interactive X.env = false := by simp [interactive, I.ok.kind]
/-- an expression whose value is dropped -/
def tDrop (te : TE) : TS := fun D σ H => te σ H fun _ H1 => D.nx σ H1
theorem ps_expr (he : PE X e te) (hs : swapsWith e none pos.line X.env = pure false := by rfl) : PS X (.Expr e pos) (tDrop te) := by
  intro pins s σ H D I h
  exact wpAny_Expr_any (thn (he pins s σ H _ I h) fun v s1 ⟨x, H1, I1, r1, q1⟩ => ⟨σ, H1, I1, q1⟩) I.quiet hs
def tRet (te : TE) : TS := fun D σ H => te σ H D.rt
theorem ps_ret (he : PE X e te) : PS X (.Return (some e) pos) (tRet te) := by
  intro pins s σ H D I h
  exact wpAny_Return_some (thn (he pins s σ H _ I h) fun v s1 ⟨x, H1, I1, r1, q1⟩ => ⟨x, σ, H1, I1, r1, q1⟩)
def tIfS (c : TT) (t u : TS) : TS := fun D σ H => c σ H fun b H1 => if b = true then t D σ H1 else u D σ H1
theorem ps_if {c : Expr} {a b : List Stmt} {tc : TT} (hc : PT X c tc) (ha : PSs X a t) (hb : PSs X b u) : PS X (.If c a b pos) (tIfS tc t u) := by
  intro pins s σ H D I h
  refine wpAny_If (thn (hc pins s σ H _ I h) fun d s1 ⟨H1, I1, q1⟩ => ?_)
  cases d with
  | true => exact ha pins s1 σ H1 D I1 q1
  | false => exact hb pins s1 σ H1 D I1 q1
end

/-! ### targets -/
abbrev TG := V → St → Hp → (St → Hp → Prop) → Prop
abbrev TGs := List V → St → Hp → (St → Hp → Prop) → Prop
def PG (X : Cx) (target : Expr) (t : TG) : Prop :=
  ∀ (pins : List (Addr × Obj)) (s : Shared) (σ : St) (H : Hp) (v : V) (u : Value) (Q : St → Hp → Prop), Inv X pins σ H s → RelV v u → t v σ H Q →
    wpAny (model X.prog X.w) X.A (assign target X.env u) (fun _ s' => ∃ σ' H', Inv X pins σ' H' s' ∧ Q σ' H') X.xe s
/-- several targets, one after another -/
def PGs (X : Cx) (ts : List Expr) (t : TGs) : Prop :=
  ∀ (pins : List (Addr × Obj)) (s : Shared) (σ : St) (H : Hp) (vs : List V) (us : List Value) (Q : St → Hp → Prop), Inv X pins σ H s → Vals vs us → t vs σ H Q →
    wpAny (model X.prog X.w) X.A (assignInOrder ((assignEach ts X.env).map (·.2)) us) (fun _ s' => ∃ σ' H', Inv X pins σ' H' s' ∧ Q σ' H') X.xe s
/-- o[i] = v, by values -/
abbrev TSet := V → V → V → Hp → (Hp → Prop) → Prop
def PSet (X : Cx) (t : TSet) : Prop :=
  ∀ (pins : List (Addr × Obj)) (s : Shared) (σ : St) (H : Hp) (o i v : V) (ov iv u : Value) (Q : Hp → Prop), Inv X pins σ H s → RelV o ov → RelV i iv → RelV v u → t o i v H Q →
    wpAny (model X.prog X.w) X.A (setItem ov iv u) (fun _ s' => ∃ H', Inv X pins σ H' s' ∧ Q H') X.xe s
/-- a op= b, by values -/
abbrev TIp := V → V → Hp → VK → Prop
def PIp (X : Cx) (op : Operator) (t : TIp) : Prop :=
  ∀ (pins : List (Addr × Obj)) (s : Shared) (σ : St) (H : Hp) (x y : V) (v u : Value) (Q : VK), Inv X pins σ H s → RelV x v → RelV y u → t x y H Q →
    wpAny (model X.prog X.w) X.A (inplaceOp op v u) (EP X pins σ Q) X.xe s
section
variable {X : Cx} {pos : Pos}
def gName (i : Nat) : TG := fun v σ H Q => Q (σ.set i (some v)) H
theorem pg_name {i : Nat} {x : Str} (hN : X.N.Nodup) (hi : X.N[i]? = some x) (hx : Loc X.env.scope x) (hf : X.fn x = true ∨ X.env.scope.names.lookup x = some .local := by first | exact .inl rfl | exact .inr rfl | assumption) : PG X (.Name x pos) (gName i) := by
  intro pins s σ H v u Q I r h
  exact wpAny_assign_Name (store_ok I hN hi hx r (fun s' I' => ⟨_, H, I', h⟩) hf)
def gNil : TGs := fun vs σ H Q => vs = [] ∧ Q σ H
def gCons (t : TG) (u : TGs) : TGs := fun vs σ H Q => ∃ v r, vs = v :: r ∧ t v σ H fun σ' H' => u r σ' H' Q
theorem pgs_nil : PGs X [] gNil := by
  intro pins s σ H vs us Q I r h
  obtain ⟨e, h⟩ := h
  subst e
  cases r
  exact assignInOrder_nil ⟨σ, H, I, h⟩
theorem pgs_cons {e : Expr} {es : List Expr} {t : TG} {u : TGs} (h1 : PG X e t) (h2 : PGs X es u)
    (hs : (assignEach (e :: es) X.env).map (·.2) = assign e X.env :: (assignEach es X.env).map (·.2) := by rfl) : PGs X (e :: es) (gCons t u) := by
  intro pins s σ H vs us Q I r h
  obtain ⟨v, vr, e1, h⟩ := h
  subst e1
  cases r with
  | cons r rr =>
    rw [hs]
    refine assignInOrder_cons (thn (h1 pins s σ H _ _ _ I r h) fun _ s1 ⟨σ1, H1, I1, q1⟩ => ?_)
    exact h2 pins s1 σ1 H1 _ _ Q I1 rr q1
/-- (a, b, ..) = a tuple of that length -/
def gTup (K : PySem.W.Frag) (n : Nat) (t : TGs) : TG := fun v σ H Q => ∃ a xs, v = .ref a ∧ SqT K H a xs ∧ xs.length = n ∧ t xs σ H Q
theorem pg_tup {es : List Expr} {k : Nat} {t : TGs} {n : Nat} (hc : X.calm = true) (h : PGs X es t)
    (hn : (assignEach es X.env).length = n := by rfl) (hst : (assignEach es X.env).findIdx? (·.1) = none := by rfl) : PG X (.Tuple es k pos) (gTup X.K n t) := by
  intro pins s σ H v u Q I r hw
  obtain ⟨a, xs, e1, hq, hl, hw⟩ := hw
  subst e1
  cases r
  obtain ⟨its, rv, ht, hz⟩ := I.tuple hq
  refine assign_Tuple_tuple (I.ok.hd hc) ht (by simp [hn, ← hl, rv.length]) hst fun h' hx => ?_
  have I1 : Inv X pins σ H { s with heap := h' } := I.kept (t' := s.toks) fun b o e => hx b o (Nat.ne_of_lt (Heap.lt_size e)) e
  exact h pins _ σ H xs _ Q I1 (by simpa using rv) hw
/-- o[i] = .. -/
def gSub (to ti : TE) (t : TSet) : TG := fun v σ H Q => to σ H fun o H1 => ti σ H1 fun i H2 => t o i v H2 fun H3 => Q σ H3
theorem pg_sub {o i : Expr} {to ti : TE} {t : TSet} (ho : PE X o to) (hi : PE X i ti) (hs : PSet X t)
    (ha : ∀ v, assign (.Subscript o i pos) X.env v = (do
      let ov ← holding [v] (eval o X.env)
      let iv ← holding [v, ov] (eval i X.env)
      standAt pos
      holding [v, ov, iv] (setItem ov iv v)
      release [v, ov, iv] []) := by intro _; rfl) : PG X (.Subscript o i pos) (gSub to ti t) := by
  intro pins s σ H v u Q I r h
  rw [ha]
  refine wpAny_bind (wpAny_holding (thn (ho pins s σ H _ I h) fun ov s1 ⟨x, H1, I1, r1, q1⟩ => ?_))
  refine wpAny_bind (wpAny_holding (thn (hi pins s1 σ H1 _ I1 q1) fun iv s2 ⟨y, H2, I2, r2, q2⟩ => ?_))
  refine wpAny_bind (wpAny_standAt (wpAny_bind (wpAny_holding (thn (hs pins s2 σ H2 x y v ov iv u _ I2 r1 r2 r q2) fun _ s3 ⟨H3, I3, q3⟩ => ?_))))
  exact wpAny_release ⟨σ, H3, I3, q3⟩
/-- target = value -/
def tAsg (te : TE) (g : TG) : TS := fun D σ H => te σ H fun x H1 => g x σ H1 D.nx
theorem ps_asg {tg e : Expr} {te : TE} {g : TG} (he : PE X e te) (hg : PG X tg g) (hs : swapsWithSole [tg] e pos.line X.env = pure false := by rfl) (hw : swappedStores [tg] e X.env = pure none := by rfl)
    (h1 : (assignEach [tg] X.env).map (·.2) = [assign tg X.env] := by rfl) : PS X (.Assign [tg] e pos) (tAsg te g) := by
  intro pins s σ H D I h
  refine wpAny_Assign_stores (thn (he pins s σ H _ I h) fun v s1 ⟨x, H1, I1, r1, q1⟩ => ?_) hs hw
  rw [h1]
  exact thn (hg pins s1 σ H1 x v _ I1 r1 q1) fun _ s2 q => q
/-- name = value -/
theorem ps_set {i : Nat} {x : Str} {e : Expr} {te : TE} {pos' : Pos} (hN : X.N.Nodup) (hi : X.N[i]? = some x) (hx : Loc X.env.scope x) (he : PE X e te) (hs : swapsWith e (some (.Name x pos')) pos.line X.env = pure false := by rfl) (hf : X.fn x = true ∨ X.env.scope.names.lookup x = some .local := by first | exact .inl rfl | exact .inr rfl | assumption) :
    PS X (.Assign [.Name x pos'] e pos) (tAsg te (gName i)) := by
  intro pins s σ H D I h
  refine wpAny_Assign_Name (thn (he pins s σ H _ I h) fun v s1 ⟨y, H1, I1, r1, q1⟩ => ?_) hs
  exact store_ok I1 hN hi hx r1 (fun s2 I2 => ⟨_, H1, I2, q1⟩) hf
/-- name op= e -/
def tAug (i : Nat) (te : TE) (ti : TIp) : TS := fun D σ H => ∃ x, σ[i]? = some (some x) ∧ te σ H fun y H1 => ti x y H1 fun z H2 => D.nx (σ.set i (some z)) H2
theorem ps_aug {i : Nat} {x : Str} {e : Expr} {te : TE} {op : Operator} {ti : TIp} {pos' : Pos} (hN : X.N.Nodup) (hi : X.N[i]? = some x) (hx : Loc X.env.scope x) (he : PE X e te) (ho : PIp X op ti) (hf : X.fn x = true ∨ X.env.scope.names.lookup x = some .local := by first | exact .inl rfl | exact .inr rfl | assumption) :
    PS X (.AugAssign (.Name x pos') op e pos) (tAug i te ti) := by
  intro pins s σ H D I h
  obtain ⟨v, e1, h⟩ := h
  obtain ⟨m, hn, hl⟩ := I.loc
  have vis : Vis X.env.scope x := by rcases hx with k | k; exact .inl k; exact .inr (.inl k)
  obtain ⟨u, r, l⟩ := hl i x v hi e1 vis
  refine wpAny_AugAssign_Name ?_
  have go : wpAny (model X.prog X.w) X.A (eval e X.env) (fun w s₂ => wpAny (model X.prog X.w) X.A (inplaceOp op u w) (fun r s₃ => wpAny (model X.prog X.w) X.A (storeName X.env x r) (fun _ => SP X pins D .next) X.xe s₃) X.xe s₂) X.xe s := by
    refine thn (he pins s σ H _ I h) fun w s1 ⟨y, H1, I1, r1, q1⟩ => ?_
    refine thn (ho pins s1 σ H1 v y u w _ I1 r r1 q1) fun z s2 ⟨zv, H2, I2, r2, q2⟩ => ?_
    exact store_ok I2 hN hi hx r2 (fun s3 I3 => ⟨_, H2, I3, q2⟩) hf
  rcases l with ⟨hk, hm⟩ | ⟨hk, c, hc, hcell⟩
  · exact wpAny_loadName_local I.ok.kind hk hn hm go
  · rcases hk with hk | hk
    · exact wpAny_loadName_cell I.ok.kind hk hc hcell go
    · rcases hx with k | k
      · have : X.env.scope.names.lookup x = some .free := hk
        rw [k] at this; cases this
      · have : X.env.scope.names.lookup x = some .free := hk
        rw [k] at this; cases this
/-- ints -/
def ipI (f : Int → Int → Int) : TIp := fun x y H Q => ∃ i j, x = .int i ∧ y = .int j ∧ Q (.int (f i j)) H
theorem ip_add : PIp X .Add (ipI fun i j => i + j) := by
  intro pins s σ H x y v u Q I r1 r2 h
  obtain ⟨i, j, e1, e2, q⟩ := h
  subst e1; subst e2
  obtain ⟨t, rfl⟩ := r1
  obtain ⟨t', rfl⟩ := r2
  exact iadd_int ⟨.int _, H, I.tok _, ⟨_, rfl⟩, q⟩
theorem ip_sub : PIp X .Sub (ipI fun i j => i - j) := by
  intro pins s σ H x y v u Q I r1 r2 h
  obtain ⟨i, j, e1, e2, q⟩ := h
  subst e1; subst e2
  obtain ⟨t, rfl⟩ := r1
  obtain ⟨t', rfl⟩ := r2
  exact isub_int ⟨.int _, H, I.tok _, ⟨_, rfl⟩, q⟩
end

/-! ### while -/
section
variable {X : Cx} {pos : Pos}
/-- the invariant W with its measure -/
def tWhile (c : TT) (tb : TS) : TS := fun D σ H => ∃ W : Nat → St → Hp → Prop, (∃ m, W m σ H) ∧ ∀ m σ H, W m σ H →
  c σ H fun b H1 => if b = true then ∃ N : St → Hp → Prop, (∀ σ' H', N σ' H' → ∃ m', m' < m ∧ W m' σ' H') ∧ tb { D with nx := N, ct := N, bk := D.nx } σ H1 else D.nx σ H1
theorem ps_while {c : Expr} {body : List Stmt} {tc : TT} {tb : TS} (hp : PassesOwn (model X.prog X.w) X.A X.env X.xe) (hc : PT X c tc) (hb : PSs X body tb) : PS X (.While c body [] pos) (tWhile tc tb) := by
  intro pins s σ H D I h
  obtain ⟨W, ⟨m0, w0⟩, turn⟩ := h
  refine wpAny_While (codeAny_whileLoop (fun n s' => ∃ σ' H', Inv X pins σ' H' s' ∧ W n σ' H') ?_ m0 ⟨σ, H, I, w0⟩)
  rintro n s1 ⟨σ1, H1, I1, w1⟩
  refine wpAny_passesOwn hp (thn (hc pins s1 σ1 H1 _ I1 (turn n σ1 H1 w1)) fun b s2 ⟨H2, I2, q2⟩ => ?_)
  cases b with
  | true =>
    obtain ⟨N, hN, q2⟩ := q2
    rw [if_pos rfl]
    refine wpAny_passesOwn hp (thn (hb pins s2 σ1 H2 _ I2 q2) fun f s3 q3 => ?_)
    cases f with
    | next =>
      obtain ⟨σ3, H3, I3, n3⟩ := q3
      obtain ⟨m', hm, w3⟩ := hN σ3 H3 n3
      exact ⟨m', hm, σ3, H3, I3, w3⟩
    | cont =>
      obtain ⟨σ3, H3, I3, n3⟩ := q3
      obtain ⟨m', hm, w3⟩ := hN σ3 H3 n3
      exact ⟨m', hm, σ3, H3, I3, w3⟩
    | brk => exact q3
    | ret v => exact q3
  | false =>
    rw [if_neg Bool.false_ne_true]
    exact wpAny_execs_nil ⟨σ1, H2, I2, q2⟩
end

/-! ### what a loop or a comprehension walks -/
/-- at turn i: it yields x (the heap may grow), or it stops -/
structure It where
  go : Nat → Hp → Prop
  yld : Nat → Hp → V → Hp → Prop
  stop : Nat → Hp → Prop
/-- the iterator's own objects may turn: they are not the frame's, not pinned, younger than the entry (or a comprehension's own) -/
def FpOk (X : Cx) (pins : List (Addr × Obj)) (H : Hp) (b : Addr) : Prop :=
  H b = none ∧ b ≠ X.env.locals ∧ b ∉ X.fs ∧ (b ∈ X.ex ∨ X.s₀.heap.objs.size ≤ b) ∧ (∀ x c, X.env.cells.lookup x = some c → c ≠ b) ∧ ∀ p ∈ X.pn ++ pins, p.1 ≠ b
theorem Inv.fpOk {X : Cx} {pins : List (Addr × Obj)} {σ : St} {H H' : Hp} {s : Shared} {b : Addr} (I : Inv X pins σ H s) (hb : s.heap.objs.size ≤ b) (hn : H' b = none) : FpOk X pins H' b := by
  refine ⟨hn, Nat.ne_of_gt (Nat.lt_of_lt_of_le I.lt hb), I.nofs hb, .inr (Nat.le_trans I.sz hb), fun x c e z => ?_, fun p hp z => ?_⟩
  · obtain ⟨v, q⟩ := I.cell x c e
    exact absurd (Nat.lt_of_lt_of_le q.lt (by rw [z]; exact hb)) (Nat.lt_irrefl _)
  · exact absurd (Nat.lt_of_lt_of_le (Heap.lt_size (I.pin p hp).1) (by rw [z]; exact hb)) (Nat.lt_irrefl _)
structure Turn (P : Program) (w : World) (K : PySem.W.Frag) (tg : Expr) (J : It) (fp : List Addr) (it : Addr) (tn : Nat → Heap → Prop) : Prop where
  mem : it ∈ fp
  obj : ∀ i h, tn i h → ∀ b ∈ fp, ∃ o, h.get? b = some o ∧ ∀ v, o.data ≠ .cell v
  keep : ∀ i h h', tn i h → (∀ b ∈ fp, ∀ o, h.get? b = some o → h'.get? b = some o) → tn i h'
  item : ∀ (X : Cx), X.prog = P → X.w = w → X.K = K → X.calm = true → ∀ (i : Nat) (pins : List (Addr × Obj)) (s : Shared) (σ : St) (H : Hp) (E : Value → Shared → Prop), Inv X pins σ H s → (∀ b ∈ fp, FpOk X pins H b) → tn i s.heap → J.go i H →
    wpAny (model P w) X.A (pyNext (.ref it)) (fun r s1 => ∃ u, r = some u ∧
      wpAny (model P w) X.A (letOwnedTupleGo tg (.ref it) u) (fun _ s2 => ∃ x H', Inv X pins σ H' s2 ∧ RelV x u ∧ J.yld i H x H' ∧ tn (i + 1) s2.heap ∧ ∀ b ∈ fp, H' b = none) E s1) E s
  done : ∀ (X : Cx), X.prog = P → X.w = w → X.K = K → X.calm = true → ∀ (i : Nat) (pins : List (Addr × Obj)) (s : Shared) (σ : St) (H : Hp) (E : Value → Shared → Prop), Inv X pins σ H s → (∀ b ∈ fp, FpOk X pins H b) → tn i s.heap → J.stop i H →
    wpAny (model P w) X.A (pyNext (.ref it)) (fun r s1 => r = none ∧ Inv X pins σ H s1) E s
  self : ∀ (A : Around) (i : Nat) (s : Shared) (Q : Value → Shared → Prop) (E : Value → Shared → Prop), tn i s.heap → Q (.ref it) s → wpAny (model P w) A (pyIter (.ref it)) Q E s
abbrev TI := St → Hp → (It → Hp → Prop) → Prop
/-- an iterator has come -/
def PIE (X : Cx) (pins : List (Addr × Obj)) (σ : St) (tg : Expr) (R : It → Hp → Prop) (itv : Value) (s2 : Shared) : Prop :=
  ∃ (it : Addr) (fp : List Addr) (tn : Nat → Heap → Prop) (J : It) (H' : Hp), itv = .ref it ∧ Inv X pins σ H' s2 ∧ Turn X.prog X.w X.K tg J fp it tn ∧ tn 0 s2.heap ∧ (∀ b ∈ fp, FpOk X pins H' b) ∧ R J H'
def PI (X : Cx) (tg iter : Expr) (wi : TI) : Prop :=
  ∀ (pins : List (Addr × Obj)) (s : Shared) (σ : St) (H : Hp) (R : It → Hp → Prop), Inv X pins σ H s → wi σ H R →
    wpAny (model X.prog X.w) X.A (eval iter X.env) (fun v s1 => wpAny (model X.prog X.w) X.A (pyIter v) (PIE X pins σ tg R) X.xe s1) X.xe s

/-- the step ahead of the store is nothing for an iterator that keeps no tuple -/
theorem go_of {M : Model} {A : Around} {E : Value → Shared → Prop} {s : Shared} {tg : Expr} {it : Addr} {u : Value} {o : Obj} {n : String} {vs : Array Value} {Q : Unit → Shared → Prop} (ho : s.heap.get? it = some o) (hc : o.cls = .type n) (hd : o.data = .fields vs)
    (hn : ["enumerate", "zip", "dict_itemiterator", "dict_reverseitemiterator", "odict_iterator", "itertools.zip_longest", "itertools.pairwise"].contains n = false) (hQ : Q () s) : wpAny M A (letOwnedTupleGo tg (.ref it) u) Q E s := by
  unfold letOwnedTupleGo
  cases tg <;> first
    | exact wpAny_pure hQ
    | (cases u <;> first
        | exact wpAny_pure hQ
        | (refine wpAny_bind (wpAny_load ho ?_)
           rw [hc, hd]
           show wpAny M A (if (["enumerate", "zip", "dict_itemiterator", "dict_reverseitemiterator", "odict_iterator", "itertools.zip_longest", "itertools.pairwise"].contains n && vs[0]? == some (rawInt _)) = true then _ else _) Q E s
           rw [if_neg (by intro h; rw [hn, Bool.false_and] at h; cases h)]
           exact wpAny_pure hQ))

/-- the list at a, as it stands at each turn (a loop may append to it) -/
def Itl (K : PySem.W.Frag) (a : Addr) : It :=
  ⟨fun i H => ∃ xs x, SqL K H a xs ∧ xs[i]? = some x, fun i H x H' => H' = H ∧ ∀ xs, SqL K H a xs → xs[i]? = some x, fun i H => ∃ xs, SqL K H a xs ∧ xs.length ≤ i⟩
def Itt (K : PySem.W.Frag) (a : Addr) : It :=
  ⟨fun i H => ∃ xs x, SqT K H a xs ∧ xs[i]? = some x, fun i H x H' => H' = H ∧ ∀ xs, SqT K H a xs → xs[i]? = some x, fun i H => ∃ xs, SqT K H a xs ∧ xs.length ≤ i⟩
/-- lo, lo + 1, .. (n of them) -/
def Itr (lo : Int) (n : Nat) : It := ⟨fun i _ => i < n, fun i H x H' => H' = H ∧ x = .int (lo + i), fun i _ => n ≤ i⟩
theorem turn_list {P : Program} {w : World} {K : PySem.W.Frag} {tg : Expr} (a it : Addr) : Turn P w K tg (Itl K a) [it] it (fun i h => h.IsListIter it a i) where
  mem := by simp
  obj := fun i h st b hb => by
    have e : b = it := by simpa using hb
    subst e
    obtain ⟨o, e, c, d⟩ := st
    exact ⟨o, e, fun v z => by rw [d] at z; cases z⟩
  keep := fun i h h' st k => st.at fun o e => k it (by simp) o e
  item := by
    intro X hP hw hK hc i pins s σ H E I hf st hg
    subst hP hw hK
    obtain ⟨xs, x, hq, hx⟩ := hg
    obtain ⟨its, rv, p, hz⟩ := I.list hq
    obtain ⟨u, hu, ru⟩ := rv.get hx
    obtain ⟨f0, f1, f2, f3, f4, f5⟩ := hf it (by simp)
    refine wpAny_pyNext_list_item st p.isList (x := u) (by simpa using hu) fun h' st' sb => ?_
    have I1 : Inv X pins σ H { s with heap := h' } := I.turned (t' := s.toks) (fun b o hb e => (sb.2 b hb).trans e) f0 f1 f3 f4 f5
    obtain ⟨o, e, c, d⟩ := id st'
    exact ⟨u, rfl, go_of (s := { s with heap := h' }) e c d (by decide) ⟨x, H, I1, ru, ⟨rfl, fun ys hy => by rw [I.list_inj hy hq]; exact hx⟩, st', fun b hb => (hf b hb).1⟩⟩
  done := by
    intro X hP hw hK hc i pins s σ H E I hf st hg
    subst hP hw hK
    obtain ⟨xs, hq, hx⟩ := hg
    obtain ⟨its, rv, p, hz⟩ := I.list hq
    obtain ⟨f0, f1, f2, f3, f4, f5⟩ := hf it (by simp)
    have hl := rv.length
    exact wpAny_pyNext_list_end (I.ok.hd hc) st p.isList (by simp; omega) fun h' eb => ⟨rfl, I.turned (t' := s.toks) (fun b o hb e => eb b o hb e) f0 f1 f3 f4 f5⟩
  self := fun _ _ _ _ _ st h => wpAny_pyIter_listiter st h
theorem turn_tuple {P : Program} {w : World} {K : PySem.W.Frag} {tg : Expr} (a it : Addr) : Turn P w K tg (Itt K a) [it] it (fun i h => h.IsTupleIter it a i) where
  mem := by simp
  obj := fun i h st b hb => by
    have e : b = it := by simpa using hb
    subst e
    obtain ⟨o, e, c, d⟩ := st
    exact ⟨o, e, fun v z => by rw [d] at z; cases z⟩
  keep := fun i h h' st k => st.at fun o e => k it (by simp) o e
  item := by
    intro X hP hw hK hc i pins s σ H E I hf st hg
    subst hP hw hK
    obtain ⟨xs, x, hq, hx⟩ := hg
    obtain ⟨its, rv, p, hz⟩ := I.tuple hq
    obtain ⟨u, hu, ru⟩ := rv.get hx
    obtain ⟨f0, f1, f2, f3, f4, f5⟩ := hf it (by simp)
    refine wpAny_pyNext_tuple_item st (show s.heap.IsTuple a its.toArray from p) (x := u) (by simpa using hu) fun h' st' sb => ?_
    have I1 : Inv X pins σ H { s with heap := h' } := I.turned (t' := s.toks) (fun b o hb e => (sb.2 b hb).trans e) f0 f1 f3 f4 f5
    obtain ⟨o, e, c, d⟩ := id st'
    exact ⟨u, rfl, go_of (s := { s with heap := h' }) e c d (by decide) ⟨x, H, I1, ru, ⟨rfl, fun ys hy => by rw [I.tuple_inj hy hq]; exact hx⟩, st', fun b hb => (hf b hb).1⟩⟩
  done := by
    intro X hP hw hK hc i pins s σ H E I hf st hg
    subst hP hw hK
    obtain ⟨xs, hq, hx⟩ := hg
    obtain ⟨its, rv, p, hz⟩ := I.tuple hq
    obtain ⟨f0, f1, f2, f3, f4, f5⟩ := hf it (by simp)
    have hl := rv.length
    exact wpAny_pyNext_tuple_end (I.ok.hd hc) st (show s.heap.IsTuple a its.toArray from p) (by simp; omega) fun h' eb => ⟨rfl, I.turned (t' := s.toks) (fun b o hb e => eb b o hb e) f0 f1 f3 f4 f5⟩
  self := fun _ _ _ _ _ st h => wpAny_pyIter_tupleiter st h
theorem turn_range {P : Program} {w : World} {K : PySem.W.Frag} {tg : Expr} (it : Addr) (lo : Int) (n : Nat) : Turn P w K tg (Itr lo n) [it] it (fun i h => IsRangeIter h it (lo + (i : Nat) * 1) ((n : Int) - (i : Nat)) 1) where
  mem := by simp
  obj := fun i h st b hb => by
    have e : b = it := by simpa using hb
    subst e
    exact ⟨_, st, fun v z => by
      have z' : Data.fields _ = Data.cell v := z
      cases z'⟩
  keep := fun i h h' st k => k it (by simp) _ st
  item := by
    intro X hP hw hK hc i pins s σ H E I hf st hg
    subst hP hw hK
    obtain ⟨f0, f1, f2, f3, f4, f5⟩ := hf it (by simp)
    have W := Walks.range (prog := X.prog) (w := X.w) (I.ok.hd hc) it lo 1 n
    refine W.item i s _ _ hg st fun v h' tk hv st' kk => ?_
    obtain ⟨t, rfl⟩ := hv
    have I1 : Inv X pins σ H { s with heap := h', toks := tk } := I.turned (fun b o hb e => kk b o (by simpa using hb) e) f0 f1 f3 f4 f5
    refine ⟨_, rfl, go_of (s := { s with heap := h', toks := tk }) (n := "range_iterator") st' rfl rfl (by decide) ⟨.int (lo + i), H, I1, ⟨t, ?_⟩, ⟨rfl, rfl⟩, st', fun b hb => (hf b hb).1⟩⟩
    rw [Int.mul_one]
  done := by
    intro X hP hw hK hc i pins s σ H E I hf st hg
    subst hP hw hK
    obtain ⟨f0, f1, f2, f3, f4, f5⟩ := hf it (by simp)
    exact wpAny_pyNext_range_end (I.ok.hd hc) st (by have : n ≤ i := hg; omega) fun h' eb => ⟨rfl, I.turned (t' := s.toks) (fun b o hb e => eb b o hb e) f0 f1 f3 f4 f5⟩
  self := fun _ _ _ _ _ st h => wpAny_pyIter_rangeiter st h
end L2

namespace L2
open PySem PySem.Spec PyProof.Rows
section
variable {X : Cx} {tg : Expr}
def iList (K : PySem.W.Frag) (tl : TE) : TI := fun σ H R => tl σ H fun x H1 => ∃ a, x = .ref a ∧ (∃ xs, SqL K H1 a xs) ∧ R (Itl K a) H1
def iTup (K : PySem.W.Frag) (tl : TE) : TI := fun σ H R => tl σ H fun x H1 => ∃ a, x = .ref a ∧ (∃ xs, SqT K H1 a xs) ∧ R (Itt K a) H1
theorem pi_list {l : Expr} {tl : TE} (hl : PE X l tl) : PI X tg l (iList X.K tl) := by
  intro pins s σ H R I h
  refine thn (hl pins s σ H _ I h) fun v s1 ⟨x, H1, I1, r1, q1⟩ => ?_
  obtain ⟨a, e, ⟨xs, hq⟩, q⟩ := q1
  subst e
  cases r1
  obtain ⟨its, rv, p, hz⟩ := I1.list hq
  refine wpAny_pyIter_list p.isList ?_
  refine ⟨s1.heap.objs.size, [s1.heap.objs.size], _, _, H1, rfl, I1.kept (t' := s1.toks) fun b o e => Heap.get?_push_of_some _ e, turn_list a _, ⟨_, Heap.get?_push_size _ rfl, rfl, rfl⟩, fun b hb => ?_, q⟩
  have e : b = s1.heap.objs.size := by simpa using hb
  subst e
  exact I1.fpOk (Nat.le_refl _) (I1.hok.fresh (Nat.le_refl _))
theorem pi_tup {l : Expr} {tl : TE} (hl : PE X l tl) : PI X tg l (iTup X.K tl) := by
  intro pins s σ H R I h
  refine thn (hl pins s σ H _ I h) fun v s1 ⟨x, H1, I1, r1, q1⟩ => ?_
  obtain ⟨a, e, ⟨xs, hq⟩, q⟩ := q1
  subst e
  cases r1
  obtain ⟨its, rv, p, hz⟩ := I1.tuple hq
  refine wpAny_pyIter_tuple (show s1.heap.IsTuple a its.toArray from p) ?_
  refine ⟨s1.heap.objs.size, [s1.heap.objs.size], _, _, H1, rfl, I1.kept (t' := s1.toks) fun b o e => Heap.get?_push_of_some _ e, turn_tuple a _, ⟨_, Heap.get?_push_size _ rfl, rfl, rfl⟩, fun b hb => ?_, q⟩
  have e : b = s1.heap.objs.size := by simpa using hb
  subst e
  exact I1.fpOk (Nat.le_refl _) (I1.hok.fresh (Nat.le_refl _))
/-- a range object just made, walked -/
theorem range_it {pins : List (Addr × Obj)} {σ : St} {H : Hp} {s : Shared} {R : It → Hp → Prop} {E : Value → Shared → Prop} {lo hi : Int} {t u v : Tok} {tk : Nat} (I : Inv X pins σ H s) (h1 : -(2 ^ 62) ≤ lo) (h2 : lo < 2 ^ 62) (h3 : -(2 ^ 62) ≤ hi) (h4 : hi < 2 ^ 62)
    (q : R (Itr lo (hi - lo).toNat) H) : wpAny (model X.prog X.w) X.A (pyIter (.ref s.heap.objs.size)) (PIE X pins σ tg R) E { s with heap := s.heap.push { cls := .type "range", data := .fields #[.int lo t, .int hi u, .int 1 v] }, toks := tk } := by
  refine wpAny_pyIter_range (IsRange.new ..) (small_one h1 h2 h3 h4) ?_
  have I1 : Inv X pins σ H { s with heap := s.heap.push { cls := .type "range", data := .fields #[.int lo t, .int hi u, .int 1 v] }, toks := tk } := I.kept fun b o e => Heap.get?_push_of_some _ e
  refine ⟨(s.heap.push { cls := .type "range", data := .fields #[.int lo t, .int hi u, .int 1 v] }).objs.size, [(s.heap.push { cls := .type "range", data := .fields #[.int lo t, .int hi u, .int 1 v] }).objs.size], _, _, H, rfl,
    I1.kept (t' := tk) fun b o e => Heap.get?_push_of_some _ e, turn_range _ lo (hi - lo).toNat, ?_, fun b hb => ?_, q⟩
  · have e1 : lo + ((0 : Nat) : Int) * 1 = lo := by simp
    have e2 : (((hi - lo).toNat : Nat) : Int) - ((0 : Nat) : Int) = Builtin.Range.rangeSize lo hi 1 := by rw [rangeSize_one]; split <;> omega
    show IsRangeIter _ _ (lo + ((0 : Nat) : Int) * 1) ((((hi - lo).toNat : Nat) : Int) - ((0 : Nat) : Int)) 1
    rw [e1, e2]
    exact Heap.get?_push_size _ rfl
  · have e : b = (s.heap.push { cls := .type "range", data := .fields #[.int lo t, .int hi u, .int 1 v] }).objs.size := by simpa using hb
    subst e
    exact I1.fpOk (Nat.le_refl _) (I1.hok.fresh (Nat.le_refl _))
def iRng1 (ta : TA) : TI := fun σ H R => ta σ H fun vs H1 => ∃ j : Int, vs = [.int j] ∧ -(2 ^ 62) ≤ j ∧ j < 2 ^ 62 ∧ R (Itr 0 j.toNat) H1
theorem pi_range1 {a : Expr} {ta : TA} {p pos : Pos} (hg : Gl X "range") (hm : X.mg "range" = none) (ha : PA X [a] ta) (hs : starEach [a] X.env = [(false, eval a X.env)] := by rfl) : PI X tg (.Call (.Name "range" p) [a] [] pos) (iRng1 ta) := by
  intro pins s σ H R I h
  refine Call_ (ld_blt I hg hm boot_range (PyProof.Rows.callWith_type1 (thn (ha pos pins s σ H _ I h) fun us s1 ⟨vs, H1, I1, r1, q1⟩ => ?_) hs rfl))
  obtain ⟨j, e, q1, q2, q⟩ := q1
  subst e
  cases r1 with
  | cons r rr =>
    cases rr
    obtain ⟨t, rfl⟩ := r
    exact call_range_1 (range_it I1 (by omega) (by omega) q1 q2 (by simpa using q))
/-! ### for -/
/-- W: the invariant by the turn and a measure; N: what the body is to reach -/
def tFor (wi : TI) (g : TG) (tb : TS) : TS := fun D σ H => wi σ H fun J H1 => ∃ W : Nat → Nat → St → Hp → Prop, (∃ m, W 0 m σ H1) ∧ ∀ i m σ H, W i m σ H →
  (J.stop i H ∧ D.nx σ H) ∨ (J.go i H ∧ ∃ N : St → Hp → Prop, (∀ σ' H', N σ' H' → ∃ m', m' < m ∧ W (i + 1) m' σ' H') ∧ ∀ x H', J.yld i H x H' → g x σ H' fun σ2 H2 => tb { D with nx := N, ct := N, bk := D.nx } σ2 H2)
/-- the records at fp as they stand -/
def pinsAt (fp : List Addr) (h : Heap) : List (Addr × Obj) := fp.filterMap fun b => (h.get? b).map fun o => (b, o)
theorem mem_pinsAt {fp : List Addr} {h : Heap} {b : Addr} {o : Obj} (hb : b ∈ fp) (e : h.get? b = some o) : (b, o) ∈ pinsAt fp h := List.mem_filterMap.mpr ⟨b, hb, by rw [e]; rfl⟩
theorem of_pinsAt {fp : List Addr} {h : Heap} {p : Addr × Obj} (hp : p ∈ pinsAt fp h) : p.1 ∈ fp ∧ h.get? p.1 = some p.2 := by
  obtain ⟨b, hb, e⟩ := List.mem_filterMap.mp hp
  cases q : h.get? b with
  | none => rw [q] at e; cases e
  | some o =>
    rw [q] at e
    have e' : (b, o) = p := Option.some.inj e
    subst e'
    exact ⟨hb, q⟩
theorem Inv.pinned {pins : List (Addr × Obj)} {σ : St} {H : Hp} {s : Shared} {fp : List Addr} (I : Inv X pins σ H s) (hf : ∀ b ∈ fp, FpOk X pins H b) (ho : ∀ b ∈ fp, ∃ o, s.heap.get? b = some o ∧ ∀ v, o.data ≠ .cell v) : Inv X (pins ++ pinsAt fp s.heap) σ H s :=
  I.pins_of fun p hp => (List.mem_append.mp hp).elim (fun z => I.pin p (List.mem_append_right _ z)) fun z => by
    obtain ⟨hb, e⟩ := of_pinsAt z
    obtain ⟨f0, f1, f2, _⟩ := hf p.1 hb
    obtain ⟨o, e', d⟩ := ho p.1 hb
    rw [e] at e'; cases e'
    exact ⟨e, f0, f1, f2, d⟩
theorem Inv.unpinned {pins pl : List (Addr × Obj)} {σ : St} {H : Hp} {s : Shared} (I : Inv X (pins ++ pl) σ H s) : Inv X pins σ H s := I.pins_of fun p hp => I.pin p (List.mem_append_right _ (List.mem_append_left _ hp))
theorem ps_for {iter : Expr} {body : List Stmt} {wi : TI} {g : TG} {tb : TS} {pos : Pos} (hp : PassesOwn (model X.prog X.w) X.A X.env X.xe) (hc : X.calm = true) (hi : PI X tg iter wi) (hg : PG X tg g) (hb : PSs X body tb)
    (hs : ∀ x, foldedSetIterable iter X.env x = pure x := by intro _; rfl) : PS X (.For tg iter body [] pos) (tFor wi g tb) := by
  intro pins s σ H D I h
  refine wpAny_For (thn (hi pins s σ H _ I h) fun v s1 h1 => thn h1 fun itv s2 h2 => ?_) hs
  obtain ⟨it, fp, tn, J, H2, e, I2, T, st2, f2, W, ⟨m0, w0⟩, turn⟩ := h2
  subst e
  -- what stays true of the iterator's objects through the loop
  have stat : ∀ {H' : Hp}, (∀ b ∈ fp, H' b = none) → ∀ b ∈ fp, FpOk X pins H' b := fun hn b hb => ⟨hn b hb, (f2 b hb).2⟩
  refine codeAny_forLoop_any (fun n s' => ∃ i σ' H', Inv X pins σ' H' s' ∧ tn i s'.heap ∧ (∀ b ∈ fp, H' b = none) ∧ W i n σ' H') ?_ m0 ⟨0, σ, H2, I2, st2, fun b hb => (f2 b hb).1, w0⟩
  rintro n s3 ⟨i, σ3, H3, I3, st3, fr3, w3⟩
  rcases turn i n σ3 H3 w3 with ⟨stop, qn⟩ | ⟨go, N, hN, step⟩
  · refine wpAny_passesOwn hp (thn (T.done X rfl rfl rfl hc i pins s3 σ3 H3 X.xe I3 (stat fr3) st3 stop) fun r s4 ⟨hr, I4⟩ => ?_)
    subst hr
    exact wpAny_execs_nil ⟨σ3, H3, I4, qn⟩
  · refine wpAny_passesOwn hp (thn (T.item X rfl rfl rfl hc i pins s3 σ3 H3 X.xe I3 (stat fr3) st3 go) fun r s4 ⟨u, hr, h4⟩ => ?_)
    subst hr
    refine wpAny_passesOwn hp (thn h4 fun _ s5 ⟨x, H5, I5, r5, y5, st5, fr5⟩ => ?_)
    have I5' := I5.pinned (stat fr5) (T.obj _ _ st5)
    refine wpAny_passesOwn hp (thn (hg _ s5 σ3 H5 x u _ I5' r5 (step x H5 y5)) fun _ s6 ⟨σ6, H6, I6, q6⟩ => ?_)
    refine wpAny_passesOwn hp (thn (hb _ s6 σ6 H6 _ I6 q6) fun f s7 q7 => ?_)
    have again : ∀ {σ7 : St} {H7 : Hp}, Inv X (pins ++ pinsAt fp s5.heap) σ7 H7 s7 → N σ7 H7 → ∃ m, m < n ∧ ∃ i σ' H', Inv X pins σ' H' s7 ∧ tn i s7.heap ∧ (∀ b ∈ fp, H' b = none) ∧ W i m σ' H' := fun {σ7 H7} I7 n7 => by
      obtain ⟨m', hm, w7⟩ := hN σ7 H7 n7
      refine ⟨m', hm, i + 1, σ7, H7, I7.unpinned, T.keep _ _ _ st5 fun b hb o e => (I7.pin (b, o) (List.mem_append_right _ (List.mem_append_right _ (mem_pinsAt hb e)))).1, fun b hb => ?_, w7⟩
      obtain ⟨o, e, d⟩ := T.obj _ _ st5 b hb
      exact (I7.pin (b, o) (List.mem_append_right _ (List.mem_append_right _ (mem_pinsAt hb e)))).2.1
    cases f with
    | next => obtain ⟨σ7, H7, I7, n7⟩ := q7; exact again I7 n7
    | cont => obtain ⟨σ7, H7, I7, n7⟩ := q7; exact again I7 n7
    | brk => obtain ⟨σ7, H7, I7, q7⟩ := q7; exact ⟨σ7, H7, I7.unpinned, q7⟩
    | ret v => obtain ⟨x7, σ7, H7, I7, r7, q7⟩ := q7; exact ⟨x7, σ7, H7, I7.unpinned, r7, q7⟩
end

/-! ### the forms one uses -/
/-- over a list that the body leaves as it is -/
theorem for_list {K : PySem.W.Frag} {a : Addr} {xs : List V} {g : TG} {tb : TS} {D : Ends} {σ : St} {H : Hp} (Pv : Nat → St → Hp → Prop) (h0 : Pv 0 σ H) (hl : ∀ i σ H, i ≤ xs.length → Pv i σ H → SqL K H a xs)
    (hs : ∀ i x σ H, xs[i]? = some x → Pv i σ H → g x σ H fun σ2 H2 => tb { D with nx := Pv (i + 1), ct := Pv (i + 1), bk := D.nx } σ2 H2) (hd : ∀ σ H, Pv xs.length σ H → D.nx σ H) :
    ∃ W : Nat → Nat → St → Hp → Prop, (∃ m, W 0 m σ H) ∧ ∀ i m σ H, W i m σ H →
      ((Itl K a).stop i H ∧ D.nx σ H) ∨ ((Itl K a).go i H ∧ ∃ N : St → Hp → Prop, (∀ σ' H', N σ' H' → ∃ m', m' < m ∧ W (i + 1) m' σ' H') ∧ ∀ x H', (Itl K a).yld i H x H' → g x σ H' fun σ2 H2 => tb { D with nx := N, ct := N, bk := D.nx } σ2 H2) := by
  refine ⟨fun i m σ H => m = xs.length - i ∧ i ≤ xs.length ∧ Pv i σ H, ⟨xs.length, by simp, Nat.zero_le _, h0⟩, ?_⟩
  rintro i m σ H ⟨rfl, hi, p⟩
  have q := hl i σ H hi p
  by_cases hlt : i < xs.length
  · refine .inr ⟨⟨xs, xs[i], q, by simp [hlt]⟩, Pv (i + 1), fun σ' H' p' => ⟨xs.length - (i + 1), by omega, rfl, hlt, p'⟩, fun x H' y => ?_⟩
    obtain ⟨e, y⟩ := y
    subst e
    exact hs i x σ _ (y xs q) p
  · have e : i = xs.length := by omega
    subst e
    exact .inl ⟨⟨xs, q, Nat.le_refl _⟩, hd σ H p⟩
theorem for_range {lo : Int} {n : Nat} {g : TG} {tb : TS} {D : Ends} {σ : St} {H : Hp} (Pv : Nat → St → Hp → Prop) (h0 : Pv 0 σ H)
    (hs : ∀ i σ H, i < n → Pv i σ H → g (.int (lo + i)) σ H fun σ2 H2 => tb { D with nx := Pv (i + 1), ct := Pv (i + 1), bk := D.nx } σ2 H2) (hd : ∀ σ H, Pv n σ H → D.nx σ H) :
    ∃ W : Nat → Nat → St → Hp → Prop, (∃ m, W 0 m σ H) ∧ ∀ i m σ H, W i m σ H →
      ((Itr lo n).stop i H ∧ D.nx σ H) ∨ ((Itr lo n).go i H ∧ ∃ N : St → Hp → Prop, (∀ σ' H', N σ' H' → ∃ m', m' < m ∧ W (i + 1) m' σ' H') ∧ ∀ x H', (Itr lo n).yld i H x H' → g x σ H' fun σ2 H2 => tb { D with nx := N, ct := N, bk := D.nx } σ2 H2) := by
  refine ⟨fun i m σ H => m = n - i ∧ i ≤ n ∧ Pv i σ H, ⟨n, by simp, Nat.zero_le _, h0⟩, ?_⟩
  rintro i m σ H ⟨rfl, hi, p⟩
  by_cases hlt : i < n
  · refine .inr ⟨hlt, Pv (i + 1), fun σ' H' p' => ⟨n - (i + 1), by omega, rfl, hlt, p'⟩, fun x H' y => ?_⟩
    obtain ⟨e, y⟩ := y
    subst e y
    exact hs i σ _ hlt p
  · have e : i = n := by omega
    subst e
    exact .inl ⟨Nat.le_refl _, hd σ H p⟩
end L2

namespace L2
open PySem PySem.Spec PyProof.Rows

abbrev R2 := V → V → Hp → VK → Prop
/-- a two-place operation on values: f is binaryOp op, inplaceOp op or compareOp op -/
def OpR (X : Cx) (f : Value → Value → Sem Value) (r : R2) : Prop :=
  ∀ (pins : List (Addr × Obj)) (s : Shared) (σ : St) (H : Hp) (x y : V) (v u : Value) (Q : VK), Inv X pins σ H s → RelV x v → RelV y u → r x y H Q →
    wpAny (model X.prog X.w) X.A (f v u) (EP X pins σ Q) X.xe s
/-- a one-place operation -/
def UnR (X : Cx) (f : Value → Sem Value) (r : V → Hp → VK → Prop) : Prop :=
  ∀ (pins : List (Addr × Obj)) (s : Shared) (σ : St) (H : Hp) (x : V) (v : Value) (Q : VK), Inv X pins σ H s → RelV x v → r x H Q →
    wpAny (model X.prog X.w) X.A (f v) (EP X pins σ Q) X.xe s
/-- a call of a value that is known (a builtin, a type) with values -/
def CallR (X : Cx) (f : Value) (r : List V → Hp → VK → Prop) : Prop :=
  ∀ (pins : List (Addr × Obj)) (s : Shared) (σ : St) (H : Hp) (xs : List V) (us : List Value) (Q : VK), Inv X pins σ H s → Vals xs us → r xs H Q →
    wpAny (model X.prog X.w) X.A (call f us) (EP X pins σ Q) X.xe s
/-- a value's truth -/
def TruR (X : Cx) (r : V → Hp → (Bool → Hp → Prop) → Prop) : Prop :=
  ∀ (pins : List (Addr × Obj)) (s : Shared) (σ : St) (H : Hp) (x : V) (v : Value) (Q : Bool → Hp → Prop), Inv X pins σ H s → RelV x v → r x H Q →
    wpAny (model X.prog X.w) X.A (truthy v) (TP X pins σ Q) X.xe s

def tOp (r : R2) (ta tb : TE) : TE := fun σ H Q => ta σ H fun x H1 => tb σ H1 fun y H2 => r x y H2 Q
def tUn (r : V → Hp → VK → Prop) (ta : TE) : TE := fun σ H Q => ta σ H fun x H1 => r x H1 Q
/-- ints in, under C, and a value out -/
def rI (C : Int → Int → Prop) (g : Int → Int → V) : R2 := fun x y H Q => ∃ i j, x = .int i ∧ y = .int j ∧ C i j ∧ Q (g i j) H
def rI0 (g : Int → Int → V) : R2 := fun x y H Q => ∃ i j, x = .int i ∧ y = .int j ∧ Q (g i j) H
def rU (g : Int → V) : V → Hp → VK → Prop := fun x H Q => ∃ i, x = .int i ∧ Q (g i) H

section
variable {X : Cx} {a b c : Expr} {ta tb tc : TE} {pos : Pos}

theorem binT (ha : PE X a ta) (hb : PE X b tb) {pins : List (Addr × Obj)} {s : Shared} {σ : St} {H : Hp} {R : V → V → Hp → Prop} (I : Inv X pins σ H s)
    (h : ta σ H fun x H1 => tb σ H1 fun y H2 => R x y H2) {Q : Value → Shared → Prop} {f : Value → Value → Sem Value}
    (hf : ∀ v u s2 x y H2, Inv X pins σ H2 s2 → RelV x v → RelV y u → R x y H2 → wpAny (model X.prog X.w) X.A (f v u) Q X.xe s2) :
    wpAny (model X.prog X.w) X.A (eval a X.env) (fun v s₁ => wpAny (model X.prog X.w) X.A (eval b X.env) (fun u s₂ => wpAny (model X.prog X.w) X.A (f v u) Q X.xe s₂) X.xe s₁) X.xe s := by
  refine thn (ha pins s σ H _ I h) fun v s1 ⟨x, H1, I1, r1, q1⟩ => ?_
  refine thn (hb pins s1 σ H1 _ I1 q1) fun u s2 ⟨y, H2, I2, r2, q2⟩ => ?_
  exact hf v u s2 x y H2 I2 r1 r2 q2

theorem pe_op {op : Operator} {r : R2} (ho : OpR X (binaryOp op) r) (ha : PE X a ta) (hb : PE X b tb) : PE X (.BinOp a op b pos) (tOp r ta tb) := by
  intro pins s σ H Q I h
  exact wpAny_BinOp (binT ha hb I h fun v u s2 x y H2 I2 rx ry q => ho pins s2 σ H2 x y v u Q I2 rx ry q)
theorem pe_un {op : UnaryOp} {r : V → Hp → VK → Prop} (ho : UnR X (unaryOp op) r) (ha : PE X a ta) : PE X (.UnaryOp op a pos) (tUn r ta) := by
  intro pins s σ H Q I h
  exact UnaryOp_ (thn (ha pins s σ H _ I h) fun v s1 ⟨x, H1, I1, r1, q1⟩ => ho pins s1 σ H1 x v Q I1 r1 q1)
/-! ### ints -/
theorem opI {f : Value → Value → Sem Value} {C : Int → Int → Prop} {g : Int → Int → Int}
    (rule : ∀ (i j : Int) (t u : Tok) (s : Shared) (Q : Value → Shared → Prop) (E : Value → Shared → Prop), C i j → Q (.int (g i j) s.toks) { s with toks := s.toks + 1 } → wpAny (model X.prog X.w) X.A (f (.int i t) (.int j u)) Q E s) :
    OpR X f (rI C fun i j => .int (g i j)) := by
  intro pins s σ H x y v u Q I rx ry h
  obtain ⟨i, j, rfl, rfl, hc, q⟩ := h
  obtain ⟨t, rfl⟩ := rx
  obtain ⟨t', rfl⟩ := ry
  exact rule i j t t' s _ _ hc ⟨.int (g i j), H, I.tok _, ⟨_, rfl⟩, q⟩
theorem opI0 {f : Value → Value → Sem Value} {g : Int → Int → Int}
    (rule : ∀ (i j : Int) (t u : Tok) (s : Shared) (Q : Value → Shared → Prop) (E : Value → Shared → Prop), Q (.int (g i j) s.toks) { s with toks := s.toks + 1 } → wpAny (model X.prog X.w) X.A (f (.int i t) (.int j u)) Q E s) :
    OpR X f (rI0 fun i j => .int (g i j)) := by
  intro pins s σ H x y v u Q I rx ry h
  obtain ⟨i, j, rfl, rfl, q⟩ := h
  obtain ⟨t, rfl⟩ := rx
  obtain ⟨t', rfl⟩ := ry
  exact rule i j t t' s _ _ ⟨.int (g i j), H, I.tok _, ⟨_, rfl⟩, q⟩
theorem opB0 {f : Value → Value → Sem Value} {g : Int → Int → Bool}
    (rule : ∀ (i j : Int) (t u : Tok) (s : Shared) (Q : Value → Shared → Prop) (E : Value → Shared → Prop), Q (.bool (g i j)) s → wpAny (model X.prog X.w) X.A (f (.int i t) (.int j u)) Q E s) :
    OpR X f (rI0 fun i j => .bl (g i j)) := by
  intro pins s σ H x y v u Q I rx ry h
  obtain ⟨i, j, rfl, rfl, q⟩ := h
  obtain ⟨t, rfl⟩ := rx
  obtain ⟨t', rfl⟩ := ry
  exact rule i j t t' s _ _ ⟨.bl (g i j), H, I, rfl, q⟩

def CDiv (i j : Int) : Prop := 0 < j ∧ j < 1073741824
def CPow (i j : Int) : Prop := 0 ≤ j ∧ j ≤ 1000000 ∧ i.natAbs < 2 ^ 64
def CMul (i j : Int) : Prop := (-(2 ^ 64) < i ∧ i < 2 ^ 64) ∨ (-(2 ^ 64) < j ∧ j < 2 ^ 64)
theorem CMul.ok {i j : Int} (h : CMul i j) : IntMulOk i j := by
  rcases h with ⟨h1, h2⟩ | ⟨h1, h2⟩
  · exact .of_left (intBits_le_64 h1 h2)
  · exact .of_right (intBits_le_64 h1 h2)
theorem op_add : OpR X (binaryOp .Add) (rI0 fun i j => .int (i + j)) := opI0 fun _ _ _ _ _ _ _ q => add_int q
theorem op_sub : OpR X (binaryOp .Sub) (rI0 fun i j => .int (i - j)) := opI0 fun _ _ _ _ _ _ _ q => sub_int q
theorem op_mul : OpR X (binaryOp .Mult) (rI CMul fun i j => .int (i * j)) := opI fun _ _ _ _ _ _ _ hc q => mul_int q hc.ok
/-- // by a positive divisor -/
theorem op_fdiv : OpR X (binaryOp .FloorDiv) (rI CDiv fun i j => .int (i / j)) := opI fun i j _ _ _ _ _ hc q => by
  have h1 : (0 : Int) < j := hc.1
  have h2 : j < 1073741824 := hc.2
  exact floordiv_int (by omega) (by rw [Int.fdiv_eq_ediv_of_nonneg i (by omega)]; exact q) (.inl (PyProof.noPylong_small (by omega)))
/-- % by a positive divisor of any size -/
theorem op_mod : OpR X (binaryOp .Mod) (rI (fun _ j => 0 < j) fun i j => .int (i % j)) := opI fun i j _ _ _ _ _ hc q => by
  have h1 : (0 : Int) < j := hc
  exact mod_int' (by omega) (by rw [Int.fmod_eq_emod_of_nonneg i (by omega)]; exact q)
theorem op_pow : OpR X (binaryOp .Pow) (rI CPow fun i j => .int (i ^ j.toNat)) := opI fun _ _ _ _ _ _ _ hc q => pow_int_small hc.1 hc.2.1 hc.2.2 q
theorem unI {f : Value → Sem Value} {g : Int → Int}
    (rule : ∀ (i : Int) (t : Tok) (s : Shared) (Q : Value → Shared → Prop) (E : Value → Shared → Prop), Q (.int (g i) s.toks) { s with toks := s.toks + 1 } → wpAny (model X.prog X.w) X.A (f (.int i t)) Q E s) :
    UnR X f (rU fun i => .int (g i)) := by
  intro pins s σ H x v Q I rx h
  obtain ⟨i, rfl, q⟩ := h
  obtain ⟨t, rfl⟩ := rx
  exact rule i t s _ _ ⟨.int (g i), H, I.tok _, ⟨_, rfl⟩, q⟩
theorem un_neg : UnR X (unaryOp .USub) (rU fun i => .int (-i)) := unI fun _ _ _ _ _ q => neg_int q
/-! ### bools among ints: n += (a < b) -/
end

/-! ### comparisons -/
/-- the scalars that == tells apart as data does -/
def scal : V → V → Bool
  | .non, .non => true | .non, .int _ => true | .int _, .non => true | .non, .bl _ => true | .bl _, .non => true | .non, .str _ => true | .str _, .non => true
  | .int _, .int _ => true | .bl _, .bl _ => true | .str _, .str _ => true | .byt _, .byt _ => true
  | .int _, .str _ => true | .str _, .int _ => true | .bl _, .str _ => true | .str _, .bl _ => true
  | _, _ => false
def rEq : R2 := fun x y H Q => scal x y = true ∧ Q (.bl (decide (x = y))) H
def rNe : R2 := fun x y H Q => scal x y = true ∧ Q (.bl (!decide (x = y))) H

theorem dec_int {i j : Int} : decide (V.int i = V.int j) = (i == j) := by
  rw [Bool.eq_iff_iff]
  simp
theorem dec_bl {i j : Bool} : decide (V.bl i = V.bl j) = (i == j) := by
  rw [Bool.eq_iff_iff]
  simp
theorem dec_str {i j : Str} : decide (V.str i = V.str j) = (i == j) := by
  rw [Bool.eq_iff_iff]
  simp
theorem dec_byt {i j : Array UInt8} : decide (V.byt i = V.byt j) = (i.toList == j.toList) := by
  rw [Bool.eq_iff_iff]
  cases i
  cases j
  simp

section
variable {X : Cx} {a b c : Expr} {ta tb tc : TE} {pos : Pos}
theorem fin_bl {pins : List (Addr × Obj)} {σ : St} {H : Hp} {s : Shared} {Q : VK} {k k' : Bool} (I : Inv X pins σ H s) (q : Q (.bl k) H) (e : k = k') : EP X pins σ Q (.bool k') s := by
  subst e
  exact ⟨.bl k, H, I, rfl, q⟩
theorem op_eq : OpR X (compareOp .Eq) rEq := by
  intro pins s σ H x y v u Q I rx ry h
  obtain ⟨hs, q⟩ := h
  cases x with
  | non =>
    cases rx
    cases y with
    | non => cases ry; exact PySem.EqNone.eq_none_none (fin_bl I q (by simp))
    | bl j => cases ry; exact PySem.EqNone.eq_none_bool (fin_bl I q (by simp))
    | int j => obtain ⟨t', rfl⟩ := ry; exact PySem.EqNone.eq_none_int (fin_bl I q (by simp))
    | str j => obtain ⟨t', rfl⟩ := ry; exact PySem.EqNone.eq_none_str (fin_bl I q (by simp))
    | _ => exact absurd (show false = true from hs) Bool.false_ne_true
  | bl i =>
    cases rx
    cases y with
    | non => cases ry; exact PySem.EqNone.eq_bool_none (fin_bl I q (by simp))
    | bl j => cases ry; exact eq_bool (fin_bl I q dec_bl)
    | str j => obtain ⟨t', rfl⟩ := ry; exact PySem.EqMixed.eq_bool_str (fin_bl I q (by simp))
    | _ => exact absurd (show false = true from hs) Bool.false_ne_true
  | int i =>
    obtain ⟨t, rfl⟩ := rx
    cases y with
    | non => cases ry; exact PySem.EqNone.eq_int_none (fin_bl I q (by simp))
    | int j => obtain ⟨t', rfl⟩ := ry; exact eq_int (fin_bl I q dec_int)
    | str j => obtain ⟨t', rfl⟩ := ry; exact PySem.EqMixed.eq_int_str (fin_bl I q (by simp))
    | _ => exact absurd (show false = true from hs) Bool.false_ne_true
  | str i =>
    obtain ⟨t, rfl⟩ := rx
    cases y with
    | non => cases ry; exact PySem.EqNone.eq_str_none (fin_bl I q (by simp))
    | bl j => cases ry; exact PySem.EqMixed.eq_str_bool (fin_bl I q (by simp))
    | int j => obtain ⟨t', rfl⟩ := ry; exact PySem.EqMixed.eq_str_int (fin_bl I q (by simp))
    | str j => obtain ⟨t', rfl⟩ := ry; exact eq_str (fin_bl I q dec_str)
    | _ => exact absurd (show false = true from hs) Bool.false_ne_true
  | byt i =>
    obtain ⟨t, rfl⟩ := rx
    cases y with
    | byt j => obtain ⟨t', rfl⟩ := ry; exact PySem.W.eq_bytes (fin_bl I q dec_byt)
    | _ => exact absurd (show false = true from hs) Bool.false_ne_true
  | _ => cases y <;> exact absurd (show false = true from hs) Bool.false_ne_true
theorem op_ne : OpR X (compareOp .NotEq) rNe := by
  intro pins s σ H x y v u Q I rx ry h
  obtain ⟨hs, q⟩ := h
  cases x with
  | non =>
    cases rx
    cases y with
    | non => cases ry; exact PySem.EqNone.ne_none_none (fin_bl I q (by simp))
    | bl j => cases ry; exact PySem.EqNone.ne_none_bool (fin_bl I q (by simp))
    | int j => obtain ⟨t', rfl⟩ := ry; exact PySem.EqNone.ne_none_int (fin_bl I q (by simp))
    | str j => obtain ⟨t', rfl⟩ := ry; exact PySem.EqNone.ne_none_str (fin_bl I q (by simp))
    | _ => exact absurd (show false = true from hs) Bool.false_ne_true
  | bl i =>
    cases rx
    cases y with
    | non => cases ry; exact PySem.EqNone.ne_bool_none (fin_bl I q (by simp))
    | bl j => cases ry; exact ne_bool (fin_bl I q (congrArg not dec_bl))
    | str j => obtain ⟨t', rfl⟩ := ry; exact PySem.EqMixed.ne_bool_str (fin_bl I q (by simp))
    | _ => exact absurd (show false = true from hs) Bool.false_ne_true
  | int i =>
    obtain ⟨t, rfl⟩ := rx
    cases y with
    | non => cases ry; exact PySem.EqNone.ne_int_none (fin_bl I q (by simp))
    | int j => obtain ⟨t', rfl⟩ := ry; exact ne_int (fin_bl I q (congrArg not dec_int))
    | str j => obtain ⟨t', rfl⟩ := ry; exact PySem.EqMixed.ne_int_str (fin_bl I q (by simp))
    | _ => exact absurd (show false = true from hs) Bool.false_ne_true
  | str i =>
    obtain ⟨t, rfl⟩ := rx
    cases y with
    | non => cases ry; exact PySem.EqNone.ne_str_none (fin_bl I q (by simp))
    | bl j => cases ry; exact PySem.EqMixed.ne_str_bool (fin_bl I q (by simp))
    | int j => obtain ⟨t', rfl⟩ := ry; exact PySem.EqMixed.ne_str_int (fin_bl I q (by simp))
    | str j => obtain ⟨t', rfl⟩ := ry; exact ne_str (fin_bl I q (congrArg not dec_str))
    | _ => exact absurd (show false = true from hs) Bool.false_ne_true
  | byt i =>
    obtain ⟨t, rfl⟩ := rx
    cases y with
    | byt j => obtain ⟨t', rfl⟩ := ry; exact PySem.W.ne_bytes (fin_bl I q (congrArg not dec_byt))
    | _ => exact absurd (show false = true from hs) Bool.false_ne_true
  | _ => cases y <;> exact absurd (show false = true from hs) Bool.false_ne_true

theorem op_le : OpR X (compareOp .LtE) (rI0 fun i j => .bl (decide (i ≤ j))) := opB0 fun _ _ _ _ _ _ _ q => le_int q
theorem op_gt : OpR X (compareOp .Gt) (rI0 fun i j => .bl (decide (j < i))) := opB0 fun _ _ _ _ _ _ _ q => gt_int q
/-- is None, is not None: the right side a value none -/
theorem op_isN : OpR X (compareOp .Is) (fun x y H Q => y = .non ∧ Q (.bl (decide (x = .non))) H) := by
  intro pins s σ H x y v u Q I rx ry h
  obtain ⟨rfl, q⟩ := h
  cases ry
  refine is_none_gen (fin_bl I q ?_)
  cases x <;> first
    | (cases rx; rfl)
    | (obtain ⟨t, rfl⟩ := rx; rfl)
theorem op_notN : OpR X (compareOp .IsNot) (fun x y H Q => y = .non ∧ Q (.bl (!decide (x = .non))) H) := by
  intro pins s σ H x y v u Q I rx ry h
  obtain ⟨rfl, q⟩ := h
  cases ry
  refine isnot_none_gen (fin_bl I q ?_)
  cases x <;> first
    | (cases rx; rfl)
    | (obtain ⟨t, rfl⟩ := rx; rfl)

/-- two rules for one operation: by cases -/
theorem OpR.or {f : Value → Value → Sem Value} {r r' : R2} (h : OpR X f r) (h' : OpR X f r') : OpR X f (fun x y H Q => r x y H Q ∨ r' x y H Q) := by
  intro pins s σ H x y v u Q I rx ry q
  rcases q with q | q
  · exact h pins s σ H x y v u Q I rx ry q
  · exact h' pins s σ H x y v u Q I rx ry q

theorem nomark (b : Expr) {op : CmpOp} (h : op ≠ .In := by decide) (h2 : op ≠ .NotIn := by decide) : behindInMarks op b = false := by
  have e1 : (op == CmpOp.In) = false := by cases op <;> first | rfl | exact absurd rfl h
  have e2 : (op == CmpOp.NotIn) = false := by cases op <;> first | rfl | exact absurd rfl h2
  cases b <;> simp [behindInMarks, e1, e2]
/-- a comparison as a value; hm: nomark b, or (for in, not in) by with_unfolding_all rfl -/
theorem pe_cmpR {op : CmpOp} {r : R2} (ho : OpR X (compareOp op) r) (ha : PE X a ta) (hb : PE X b tb) (hm : behindInMarks op b = false) : PE X (.Compare a [op] [b] pos) (tOp r ta tb) := by
  intro pins s σ H Q I h
  exact wpAny_Compare1 (binT ha hb I h fun v u s2 x y H2 I2 rx ry q => ho pins s2 σ H2 x y v u Q I2 rx ry q) hm
/-- a reading of a value as a test -/
def tTest (t : TE) : TT := fun σ H Q => t σ H fun x H' => ∃ k, x = .bl k ∧ Q k H'
theorem pt_cmpR {op : CmpOp} {r : R2} (ho : OpR X (compareOp op) r) (ha : PE X a ta) (hb : PE X b tb) (hm : behindInMarks op b = false) : PT X (.Compare a [op] [b] pos) (tTest (tOp r ta tb)) := by
  intro pins s σ H Q I h
  refine wpAny_isTrue_Compare1 (thn (ha pins s σ H _ I h) fun v s1 ⟨x, H1, I1, r1, q1⟩ => thn (hb pins s1 σ H1 _ I1 q1) fun u s2 ⟨y, H2, I2, r2, q2⟩ =>
    thn (ho pins s2 σ H2 x y v u _ I2 r1 r2 q2) fun c s3 ⟨z, H3, I3, r3, k, e, q3⟩ => ?_) hm
  subst e
  cases r3
  exact wpAny_truthy_bool ⟨H3, I3, q3⟩
/-- a op1 b op2 c -/
def tChain (r r' : R2) (ta tb tc : TE) : TE := fun σ H Q => ta σ H fun x H1 => tb σ H1 fun y H2 => r x y H2 fun z H3 => ∃ k, z = .bl k ∧
  (if k = true then tc σ H3 fun w' H4 => r' y w' H4 Q else Q (.bl false) H3)
theorem pt_chain {op op' : CmpOp} {r r' : R2} (ho : OpR X (compareOp op) r) (ho' : OpR X (compareOp op') r') (ha : PE X a ta) (hb : PE X b tb) (hc : PE X c tc)
    (hm : lastMarks [op, op'] [b, c] = false := by with_unfolding_all rfl) : PT X (.Compare a [op, op'] [b, c] pos) (tTest (tChain r r' ta tb tc)) := by
  intro pins s σ H Q I h
  refine isTrue_chain (thn (ha pins s σ H _ I h) fun v s1 ⟨x, H1, I1, r1, q1⟩ => test_link (thn (hb pins s1 σ H1 _ I1 q1) fun u s2 ⟨y, H2, I2, r2, q2⟩ =>
    thn (ho pins s2 σ H2 x y v u _ I2 r1 r2 q2) fun d s3 ⟨z, H3, I3, r3, k, e, q3⟩ => ?_)) hm
  subst e
  cases r3
  refine wpAny_truthy_bool ?_
  cases k with
  | false =>
    obtain ⟨k', e', q'⟩ := q3
    cases e'
    exact ite_ff ⟨H3, I3, q'⟩
  | true =>
    refine ite_tt (test_last (thn (hc pins s3 σ H3 _ I3 q3) fun w' s4 ⟨z', H4, I4, r4, q4⟩ => thn (ho' pins s4 σ H4 y z' u w' _ I4 r2 r4 q4) fun d' s5 ⟨z2, H5, I5, r5, k2, e2, q5⟩ => ?_))
    subst e2
    cases r5
    exact wpAny_truthy_bool ⟨H5, I5, q5⟩

/-! ### truth -/
/-- a value's truth by the abstract heap -/
def TruV (K : PySem.W.Frag) (x : V) (H : Hp) (k : Bool) : Prop :=
  match x with
  | .non => k = false
  | .bl b => k = b
  | .int i => k = (i != 0)
  | .str y => y.length ≤ sizeLine ∧ k = ((y.length : Int) != 0)
  | .byt y => y.size ≤ sizeLine ∧ k = ((y.size : Int) != 0)
  | .ref p => (∃ xs, SqL K H p xs ∧ k = !xs.isEmpty) ∨ (∃ xs, SqT K H p xs ∧ k = !xs.isEmpty) ∨ ∃ kvs, H p = some (.dK kvs) ∧ k = !kvs.isEmpty
  | _ => False
theorem isEmpty_kv {κ : Type} {kvs : List (κ × V)} {vs : List (κ × Value)} (r : KV kvs vs) : (!vs.isEmpty) = !kvs.isEmpty := by
  cases r <;> rfl
theorem isEmpty_of {xs : List V} {its : List Value} (r : Vals xs its) : (!its.toArray.isEmpty) = !xs.isEmpty := by
  cases r <;> simp
theorem line63 : (sizeLine : Nat) < 2 ^ 63 := by rw [sizeLine_eq]; decide
theorem tru_ok : TruR X (fun x H Q => ∃ k, TruV X.K x H k ∧ Q k H) := by
  intro pins s σ H x v Q I rx h
  obtain ⟨k, e, q⟩ := h
  have hl := line63
  have hs : sizeLine = 16777216 := sizeLine_eq
  cases x with
  | non =>
    cases rx
    have e' : k = false := e
    subst e'
    exact truthy_none ⟨H, I, q⟩
  | bl b =>
    cases rx
    have e' : k = b := e
    subst e'
    exact wpAny_truthy_bool ⟨H, I, q⟩
  | int i =>
    obtain ⟨t, rfl⟩ := rx
    have e' : k = (i != 0) := e
    subst e'
    exact PySem.P.truthy_int ⟨H, I, q⟩
  | str y =>
    obtain ⟨t, rfl⟩ := rx
    obtain ⟨hy, e'⟩ : y.length ≤ sizeLine ∧ k = ((y.length : Int) != 0) := e
    subst e'
    exact PySem.P.truthy_str (by omega) ⟨H, I.tok _, q⟩
  | byt y =>
    obtain ⟨t, rfl⟩ := rx
    obtain ⟨hy, e'⟩ : y.size ≤ sizeLine ∧ k = ((y.size : Int) != 0) := e
    subst e'
    exact PySem.W.truthy_bytes (by omega) ⟨H, I.tok _, q⟩
  | ref p =>
    cases rx
    have e' : (∃ xs, SqL X.K H p xs ∧ k = !xs.isEmpty) ∨ (∃ xs, SqT X.K H p xs ∧ k = !xs.isEmpty) ∨ ∃ kvs, H p = some (.dK kvs) ∧ k = !kvs.isEmpty := e
    rcases e' with ⟨xs, hx, e'⟩ | ⟨xs, hx, e'⟩ | ⟨kvs, hx, e'⟩
    · subst e'
      obtain ⟨its, r, pl, hz⟩ := I.list hx
      have hlen := r.length
      exact wpAny_truthy_list pl.isList (by simp only [List.size_toArray]; omega) ⟨H, I.tok _, by rw [isEmpty_of r]; exact q⟩
    · subst e'
      obtain ⟨its, r, pl, hz⟩ := I.tuple hx
      have hlen := r.length
      exact truthy_tuple pl (by simp only [List.size_toArray]; omega) ⟨H, I.tok _, by rw [isEmpty_of r]; exact q⟩
    · subst e'
      obtain ⟨hz, hS, vs, r, m⟩ : kvs.length ≤ sizeLine ∧ (p == sysModules) = false ∧ ∃ vs, KV kvs vs ∧ s.heap.DictOf (mixKind X.prog X.w) p vs := I.hok p _ hx
      have hlen : kvs.length = vs.length := Paired.length r
      exact wpAny_truthy_dict hS m (by omega) ⟨H, I.tok _, by rw [isEmpty_kv r]; exact q⟩
  | _ => exact (show False from e).elim
/-- any expression whose test is its value's truth (a name, a call, a subscript, a field ..: he by fun _ => rfl) -/
theorem pt_truth (ha : PE X a ta) (he : ∀ whole, isTrue a X.env whole = (do let v ← whole; standAt a.pos; holding [v] (truthy v))) :
    PT X a (fun σ H Q => ta σ H fun x H' => ∃ k, TruV X.K x H' k ∧ Q k H') := by
  intro pins s σ H Q I h
  exact isTrue_plain (thn (ha pins s σ H _ I h) fun v s1 ⟨x, H1, I1, r1, q1⟩ => tru_ok pins s1 σ H1 x v Q I1 r1 q1) (he _)

/-! ### strs and bytes -/
/-! ### scalar builtins, by CallR -/
theorem vals1 {x : V} {us : List Value} (r : Vals [x] us) : ∃ u, us = [u] ∧ RelV x u := by
  cases r with
  | cons r1 r2 => cases r2; exact ⟨_, rfl, r1⟩
theorem vals2 {x y : V} {us : List Value} (r : Vals [x, y] us) : ∃ u w', us = [u, w'] ∧ RelV x u ∧ RelV y w' := by
  cases r with
  | cons r1 r2 =>
    cases r2 with
    | cons r3 r4 => cases r4; exact ⟨_, _, rfl, r1, r3⟩
theorem call_max2 (hc : X.calm = true) : CallR X (.builtin "max") (fun xs H Q => ∃ i j, xs = [.int i, .int j] ∧ Q (.int (if j > i then j else i)) H) := by
  intro pins s σ H xs us Q I r h
  obtain ⟨i, j, rfl, q⟩ := h
  obtain ⟨u, w', rfl, ⟨t, rfl⟩, ⟨t', rfl⟩⟩ := vals2 r
  refine max_two_ints (I.ok.hd hc) fun h' tk k => ⟨_, H, I.kept k, ?_, q⟩
  by_cases hj : j > i
  · rw [if_pos hj, if_pos hj]; exact ⟨_, rfl⟩
  · rw [if_neg hj, if_neg hj]; exact ⟨_, rfl⟩
end
end L2

namespace L2
open PySem PySem.Spec PyProof.Rows

/-! ### an instance, its attributes a map -/
structure ObjM (h : Heap) (x dx C : Addr) (mA : Str → Option Value) : Prop where
  obj : h.get? x = some (PySem.W.instObj C dx)
  ns : h.Ns1 dx mA
  ne : dx ≠ x

theorem lookIn_ns {h : Heap} {dx : Addr} {mA : Str → Option Value} (n : h.Ns1 dx mA) : ∃ od, h.get? dx = some od ∧ ∀ name, PySem.W.lookIn name od = some (mA name) := by
  obtain ⟨o, es, ep, ho, hd, hk, _, hm⟩ := n
  refine ⟨o, ho, fun name => ?_⟩
  have e := hm name
  unfold nsFind findBy at e
  rw [← Array.find?_toList] at e
  unfold PySem.W.lookIn
  rw [hd]
  dsimp only
  split
  · rename_i y q
    rw [q] at e
    exact congrArg some e
  · rename_i q
    rw [q] at e
    have a : es.toList.any (·.refKey) = false := by
      rw [List.any_eq_false]
      intro y hy
      obtain ⟨z, t, hkey⟩ := hk y (Array.mem_toList_iff.mp hy)
      simp [DictEntry.refKey, hkey]
    have a' : ¬ es.toList.any (·.refKey) = true := by rw [a]; exact Bool.false_ne_true
    rw [if_neg a']
    exact congrArg some e

theorem ObjM.look {h : Heap} {x dx C : Addr} {mA : Str → Option Value} (I : ObjM h x dx C mA) : ∃ od, PySem.W.InstAt h x (PySem.W.instObj C dx) C (some od) ∧ ∀ name, PySem.W.lookIn name od = some (mA name) :=
  let ⟨od, ho, hl⟩ := lookIn_ns I.ns
  ⟨od, ⟨I.obj, rfl, rfl, ho⟩, hl⟩

section
variable {prog : Program} {w : World} {A : Around} {E : Value → Shared → Prop} {s : Shared} {K : PySem.W.Frag} {x dx C f : Addr} {mA : Str → Option Value} {name : Str} {v : Value}

end

/-! ### the attributes as a list of pairs -/
theorem RelO.some_of {v : V} {o : Option Value} (r : RelO (some v) o) : ∃ u, o = some u ∧ RelV v u := by
  cases o with
  | none => exact (show False from r).elim
  | some u => exact ⟨u, rfl, r⟩
section
variable {P : Program} {w : World} {H H' : Hp} {h h' : Heap} {a C dx : Addr} {fs fs' : List (Str × V)}
theorem ins_get (hok : HOk P w H h) (e : H a = some (.ins C dx fs)) : ∃ mA, ObjM h a dx C mA ∧ (∀ f, RelO (fs.lookup f) (mA f)) ∧ PySem.Within mA (fs.map (·.1)) ∧ fs.length ≤ 1000 ∧ H dx = some (.own a) := by
  obtain ⟨d, z, ne, ob, mA, n, r, q⟩ := (show ObjOk P w H h a (.ins C dx fs) from hok a _ e)
  exact ⟨mA, ⟨ob, n, ne⟩, r, q, z, d⟩
end

/-! ### what of the text a class must have -/
structure Cls (K : PySem.W.Frag) (C : Addr) : Prop where
  pg : PySem.W.plainGet K C Str.empty = true
  hd : PySem.W.hasDictIn K C = true
  po : PySem.W.plainOver K C = true
  sa : PySem.W.findIn K (.ref C) "__setattr__" = some (some (.builtin "object.__setattr__"))
theorem Cls.get {K : PySem.W.Frag} {C : Addr} (c : Cls K C) (f : Str) : PySem.W.plainGet K C f = true := c.pg
/-- a constant of the class -/
structure Con (K : PySem.W.Frag) (C : Addr) (f : Str) (v : V) (u : Value) : Prop where
  at_ : PySem.W.findIn K (.ref C) f = some (some u)
  rel : RelV v u
  get : PySem.W.specialIn K u "__get__" = some none
  cp : PySem.W.copiedNames.contains f = false
/-- a method: a plain def of the class or of one above it -/
structure Meth (K : PySem.W.Frag) (C : Addr) (m : Str) (f : Addr) : Prop where
  at_ : PySem.W.findIn K (.ref C) m = some (some (.ref f))
  fn : PySem.W.isFn K (.ref f) = true
  kp : PySem.W.keepIn K (.ref f) = true

section
variable {X : Cx} {pins : List (Addr × Obj)} {σ : St} {H : Hp} {s : Shared} {a C dx : Addr} {fs : List (Str × V)} {f : Str} {v : V} {A : Around} {E : Value → Shared → Prop}

/-- a new instance, tracked, without attributes -/
theorem Inv.made (I : Inv X pins σ H s) : Inv X pins σ (upd (upd H s.heap.objs.size (.own (s.heap.objs.size + 1))) (s.heap.objs.size + 1) (.ins C s.heap.objs.size []))
    { s with heap := (s.heap.push PySem.W.emptyDict).push (PySem.W.instObj C s.heap.objs.size) } := by
  have e1 : (s.heap.push PySem.W.emptyDict).get? s.heap.objs.size = some PySem.W.emptyDict := Heap.get?_push_size s.heap rfl
  have e2 : ((s.heap.push PySem.W.emptyDict).push (PySem.W.instObj C s.heap.objs.size)).get? (s.heap.objs.size + 1) = some (PySem.W.instObj C s.heap.objs.size) := by
    have := Heap.get?_push_size (s.heap.push PySem.W.emptyDict) (o := PySem.W.instObj C s.heap.objs.size) rfl
    rwa [Heap.size_push] at this
  have e3 : (s.heap.push PySem.W.emptyDict).Ns s.heap.objs.size (fun _ => none) := ⟨PySem.W.emptyDict, #[], _, e1, rfl, (fun e he => absurd he (by simp)), fun _ => rfl⟩
  have I1 := I.laid (a := s.heap.objs.size) (o := .own (s.heap.objs.size + 1)) (h' := s.heap.push PySem.W.emptyDict) (t' := s.toks) (fun b u q => Heap.get?_push_of_some _ q) (Nat.le_refl _) ⟨_, e1⟩
  refine I1.laid (a := s.heap.objs.size + 1) (o := .ins C s.heap.objs.size []) (t' := s.toks) (fun b u q => Heap.get?_push_of_some _ q) (Nat.le_of_eq (Heap.size_push _ _)) ?_
  have ne : s.heap.objs.size ≠ s.heap.objs.size + 1 := Nat.ne_of_lt (Nat.lt_succ_self _)
  refine ⟨by rw [upd_ne ne, upd_same], Nat.zero_le _, ne, e2, fun _ => none, (Heap.Ns1.of_empty e3).at fun o q => Heap.get?_push_of_some _ q, fun _ => True.intro, fun y hy => absurd rfl hy⟩

end

/-! ### readings and rules -/
section
variable {X : Cx} {o e value : Expr} {f : Str} {pos pos' tpos : Pos} {ta tv : TE}
end

/-! ### isinstance -/
section
variable {X : Cx} {pins : List (Addr × Obj)} {σ : St} {H : Hp} {s : Shared} {A : Around} {E : Value → Shared → Prop} {Q : Value → Shared → Prop} {c : Value} {b : Bool}
/-- the type of a value, as the fragment's deciders take it; for an instance its class -/
inductive TyOf (K : PySem.W.Frag) (H : Hp) : V → Value → Prop where
  | non : TyOf K H .non (.type "NoneType")
  | bl (x : Bool) : TyOf K H (.bl x) (.type "bool")
  | int (i : Int) : TyOf K H (.int i) (.type "int")
  | str (x : Str) : TyOf K H (.str x) (.type "str")
  | flt (x : UInt64) : TyOf K H (.flt x) (.type "float")
  | lst {a : Addr} {xs : List V} (e : H a = some (.lst xs)) : TyOf K H (.ref a) (.type "list")
  | frz {a : Addr} {o : Obj} {xs : List V} (e : H a = some (.frz o (.lst xs))) : TyOf K H (.ref a) (.type "list")
  | tup {a : Addr} {xs : List V} (e : H a = some (.tup xs)) : TyOf K H (.ref a) (.type "tuple")
  | dK {a : Addr} {kvs : List (Key × V)} (e : H a = some (.dK kvs)) : TyOf K H (.ref a) (.type "dict")
  | dT {a : Addr} {kvs : List (List Key × V)} (e : H a = some (.dT kvs)) : TyOf K H (.ref a) (.type "dict")
  | ins {a C dx : Addr} {fs : List (Str × V)} (e : H a = some (.ins C dx fs)) (cl : Cls K C) (ha : PySem.W.findIn K (.ref C) "__class__" = some (some (.builtin "object.__class__")))
      (hn : PySem.W.specialIn K (.builtin "object.__class__") "__get__" = some (some (.builtin "getset_descriptor.__get__"))) (htk : PySem.W.takesIn K (.builtin "object.__class__") = some true)
      (hm : PySem.W.mroIn K C (.type "object") = some true) : TyOf K H (.ref a) (.ref C)
/-- isinstance(x, c) for one class c, a built-in or an own one: kitOne's answer -/
theorem isinst_ok {x : V} {u t : Value} (I : Inv X pins σ H s) (rx : RelV x u) (ty : TyOf X.K H x t) (e : PySem.W.kitOne X.K t c = some b) (h : ∀ tk, Q (.bool b) { s with toks := tk }) :
    wpAny (model X.prog X.w) A (call (.builtin "isinstance") [u, c]) Q E s := by
  cases ty with
  | non => cases (show u = Value.none from rx); exact PySem.W.kia_one PySem.W.kitx_none I.kIn True.intro e (fun z => nomatch z) h
  | bl y => cases (show u = Value.bool y from rx); exact PySem.W.kia_one PySem.W.kitx_bool I.kIn True.intro e (fun z => nomatch z) h
  | int i => obtain ⟨t, q⟩ := (show ∃ t, u = Value.int i t from rx); cases q; exact PySem.W.kia_one PySem.W.kitx_int I.kIn True.intro e (fun z => nomatch z) h
  | str y => obtain ⟨t, q⟩ := (show ∃ t, u = Value.str y t from rx); cases q; exact PySem.W.kia_one PySem.W.kitx_str I.kIn True.intro e (fun z => nomatch z) h
  | flt y => obtain ⟨t, q⟩ := (show ∃ t, u = Value.float y t from rx); cases q; exact PySem.W.kia_one PySem.W.kitx_float I.kIn True.intro e (fun z => nomatch z) h
  | @lst a xs ea =>
    cases (show u = Value.ref a from rx)
    obtain ⟨_, _, n, _, h1⟩ := (show ObjOk X.prog X.w H s.heap a (.lst xs) from I.hok a _ ea)
    exact PySem.W.kia_one PySem.W.kitx_list I.kIn ⟨_, h1, rfl⟩ e (fun z => nomatch z) h
  | @frz a ob xs ea =>
    cases (show u = Value.ref a from rx)
    obtain ⟨_, _, _, n, _, h1⟩ := (show ObjOk X.prog X.w H s.heap a (.frz ob (.lst xs)) from I.hok a _ ea)
    exact PySem.W.kia_one PySem.W.kitx_list I.kIn ⟨_, h1, rfl⟩ e (fun z => nomatch z) h
  | @tup a xs ea =>
    cases (show u = Value.ref a from rx)
    obtain ⟨_, _, _, p⟩ := (show ObjOk X.prog X.w H s.heap a (.tup xs) from I.hok a _ ea)
    obtain ⟨o, h1, h2, _⟩ := p
    exact PySem.W.kia_one PySem.W.kitx_tuple I.kIn ⟨o, h1, h2⟩ e (fun z => nomatch z) h
  | @dK a kvs ea =>
    cases (show u = Value.ref a from rx)
    obtain ⟨_, _, vs, _, p⟩ := (show ObjOk X.prog X.w H s.heap a (.dK kvs) from I.hok a _ ea)
    obtain ⟨o, es, ep, h1, h2, _⟩ := p
    exact PySem.W.kia_one PySem.W.kitx_dict I.kIn ⟨o, h1, h2.1⟩ e (fun z => nomatch z) h
  | @dT a kvs ea =>
    cases (show u = Value.ref a from rx)
    obtain ⟨_, _, xs, _, o, es, ep, h1, h2, _⟩ := (show ObjOk X.prog X.w H s.heap a (.dT kvs) from I.hok a _ ea)
    exact PySem.W.kia_one PySem.W.kitx_dict I.kIn ⟨o, h1, h2.1⟩ e (fun z => nomatch z) h
  | @ins a C dx fs ea cl ha hn htk hm =>
    cases (show u = Value.ref a from rx)
    obtain ⟨mA, O, _⟩ := ins_get I.hok ea
    obtain ⟨od, J, _⟩ := O.look
    exact PySem.W.kia_one (PySem.W.kitx_own (cl.get _) cl.hd ha hn htk hm) I.kIn J e (fun z => nomatch z) h
end
end L2

namespace L2
open PySem PySem.Spec PyProof.Rows

/-! ### room -/
structure Room (k : Nat) (A : Around) : Prop where
  hd : A.handled = none
  dp : A.depth + 3 * k + 5 < recursionLimit
  un : A.units + 16 * k + 200 < cLine
theorem Room.mono {j k : Nat} {A : Around} (r : Room k A) (h : j ≤ k) : Room j A := ⟨r.hd, by have := r.dp; omega, by have := r.un; omega⟩
theorem Room.deeper {k : Nat} {A : Around} (r : Room (k + 1) A) (env : Env) : Room k (A.deeper env) :=
  ⟨r.hd, by have := r.dp; show A.depth + 1 + 3 * k + 5 < _; omega, by have := r.un; show A.units + 3 + 16 * k + 200 < _; omega⟩
theorem Room.in1 {k : Nat} {A : Around} (r : Room (k + 1) A) : Room k A.in1 :=
  ⟨r.hd, by have := r.dp; show A.depth + 3 * k + 5 < _; omega, by have := r.un; show A.units + 1 + 16 * k + 200 < _; omega⟩
theorem Room.depth {k : Nat} {A : Around} (r : Room k A) : A.depth < recursionLimit := by have := r.dp; omega
theorem Room.units {k : Nat} {A : Around} (r : Room k A) : A.units + 64 < cLine := by have := r.un; omega
/-! ### argument lists and displays -/
def tNil : TA := fun _ H Q => Q [] H
def tCons (ta : TE) (tr : TA) : TA := fun σ H Q => ta σ H fun x H1 => tr σ H1 fun xs H2 => Q (x :: xs) H2
section
variable {X : Cx} {e : Expr} {es : List Expr} {te : TE} {t : TA} {pos : Pos}
theorem pa_nil : PA X [] tNil := fun _ _ _ _ H Q I h => Calls.spliced_nil ⟨[], H, I, .nil, h⟩
theorem pa_cons (ha : PE X e te) (hr : PA X es t) (hs : starEach (e :: es) X.env = (false, eval e X.env) :: starEach es X.env := by rfl) : PA X (e :: es) (tCons te t) := by
  intro pos pins s σ H Q I h
  rw [hs]
  show wpAny _ _ (spliced ((false, eval e X.env) :: backTo pos (starEach es X.env))) _ _ s
  refine Calls.spliced_cons (thn (ha pins s σ H _ I h) fun u s1 ⟨x, H1, I1, r1, q1⟩ => ?_)
  exact thn (hr pos pins s1 σ H1 _ I1 q1) fun us s2 ⟨xs, H2, I2, r2, q2⟩ => ⟨x :: xs, H2, I2, .cons r1 r2, q2⟩

/-- a tuple, a list of written items -/
def tTup (t : TA) : TE := fun σ H Q => t σ H fun xs H1 => xs.length ≤ sizeLine ∧ ∀ p, H1 p = none → Q (.ref p) (upd H1 p (.tup xs))
def tLst (t : TA) : TE := fun σ H Q => t σ H fun xs H1 => xs.length ≤ sizeLine ∧ ∀ p, H1 p = none → Q (.ref p) (upd H1 p (.lst xs))
theorem pe_tup {x1} (h : PA X es t) : PE X (.Tuple es x1 pos) (tTup t) := by
  intro pins s σ H Q I hq
  refine wpAny_Tuple_spliced (thn (h pos pins s σ H _ I hq) fun us s1 ⟨xs, H1, I1, r, z, q⟩ => ⟨by rw [← r.length]; exact z, ?_⟩)
  have hf : H1 s1.heap.objs.size = none := I1.hok.fresh (Nat.le_refl _)
  refine ⟨.ref s1.heap.objs.size, upd H1 s1.heap.objs.size (.tup xs), I1.laid (t' := s1.toks) (fun b u e => Heap.get?_push_of_some _ e) (Nat.le_refl _) ?_, rfl, q _ hf⟩
  exact ⟨z, us, r, ⟨_, Heap.get?_push_size _ rfl, rfl, _, rfl⟩⟩
theorem pe_lst (h : PA X es t) : PE X (.List es pos) (tLst t) := by
  intro pins s σ H Q I hq
  refine wpAny_List_spliced (thn (h pos pins s σ H _ I hq) fun us s1 ⟨xs, H1, I1, r, z, q⟩ => ⟨by rw [← r.length]; exact z, ?_⟩)
  have hf : H1 s1.heap.objs.size = none := I1.hok.fresh (Nat.le_refl _)
  refine ⟨.ref s1.heap.objs.size, upd H1 s1.heap.objs.size (.lst xs), I1.laid (t' := s1.toks) (fun b u e => Heap.get?_push_of_some _ e) (Nat.le_refl _) ?_, rfl, q _ hf⟩
  exact ⟨z, us, 0, r, Heap.get?_push_size _ rfl⟩
end

/-! ### what a def promises -/
/-- a def's promise: the bound arguments in the parameters' order, the heap, the wanted end, the wanted exception -/
abbrev Sp := List V → Hp → VK → XK → Prop
/-- how an exception lies behind a call (file 08 gives it): the callers' frames, abstract heap and state ahead of the call, the wish, the exception, the state -/
abbrev CXT := List Env → Hp → Shared → XK → Value → Shared → Prop

/-- the state at a call -/
structure Env0 (P : Program) (w : World) (K : PySem.W.Frag) (mg : Str → Option Value) (base : Heap) (A : Around) (outer : List Env) (s : Shared) (H : Hp) : Prop where
  frames : A.frames = some outer
  mod : Mod K mg base
  bs : ∀ b o, base.get? b = some o → s.heap.get? b = some o ∧ H b = none
  bsz : base.objs.size ≤ s.heap.objs.size
  funs : s.heap.FunFrames base outer
  frf : ∀ b ∈ frs outer, H b = none
  hok : HOk P w H s.heap
  bare : AllBare s.gens
/-- a call's end -/
def CE (outer : List Env) (P : Program) (w : World) (H : Hp) (s : Shared) (Q : VK) (u : Value) (s' : Shared) : Prop :=
  ∃ v H', s'.os = s.os ∧ AllBare s'.gens ∧ Un (frs outer) [] H H' s.heap s'.heap ∧ HOk P w H' s'.heap ∧ RelV v u ∧ Q v H'
def CR (CX : CXT) (outer : List Env) (P : Program) (w : World) (H : Hp) (s : Shared) (Q : VK) (E : XK) (r : Result) (s' : Shared) : Prop :=
  match r with
  | .ok (.ret u) => CE outer P w H s Q u s'
  | .ok _ => False
  | .error e => CX outer H s E e s'
structure FnOk (P : Program) (w : World) (K : PySem.W.Frag) (mg : Str → Option Value) (base : Heap) (CX : CXT) (k : Nat) (f : Addr) (fd : FuncData) (ps : List Str) (sp : Sp) : Prop where
  len : ∀ vs H Q E, sp vs H Q E → vs.length = ps.length
  run : ∀ (A : Around) (outer : List Env) (s : Shared) (H : Hp) (args : Args) (us : List Value) (vs : List V) (Q : VK) (E : XK), Room k A → Env0 P w K mg base A outer s H → BindsTo s fd args (ps.zip us) → Vals vs us → sp vs H Q E →
    codeAny (model P w) A (.call (.ref f) args) (CR CX outer P w H s Q E) s
theorem FnOk.mono {P : Program} {w : World} {K : PySem.W.Frag} {mg : Str → Option Value} {base : Heap} {CX : CXT} {j k : Nat} {f : Addr} {fd : FuncData} {ps : List Str} {sp : Sp} (F : FnOk P w K mg base CX j f fd ps sp) (h : j ≤ k) :
    FnOk P w K mg base CX k f fd ps sp := ⟨F.len, fun A outer s H args us vs Q E hr => F.run A outer s H args us vs Q E (hr.mono h)⟩
/-- a weaker promise -/
theorem FnOk.imp {P : Program} {w : World} {K : PySem.W.Frag} {mg : Str → Option Value} {base : Heap} {CX : CXT} {k : Nat} {f : Addr} {fd : FuncData} {ps : List Str} {sp sp' : Sp} (F : FnOk P w K mg base CX k f fd ps sp)
    (h : ∀ vs H Q E, sp' vs H Q E → sp vs H Q E) : FnOk P w K mg base CX k f fd ps sp' :=
  ⟨fun vs H Q E q => F.len vs H Q E (h _ _ _ _ q), fun A outer s H args us vs Q E hr he hb hv hs => F.run A outer s H args us vs Q E hr he hb hv (h _ _ _ _ hs)⟩

theorem Env0.in1 {P : Program} {w : World} {K : PySem.W.Frag} {mg : Str → Option Value} {base : Heap} {A : Around} {outer : List Env} {s : Shared} {H : Hp} (e : Env0 P w K mg base A outer s H) :
    Env0 P w K mg base A.in1 outer s H := ⟨e.frames, e.mod, e.bs, e.bsz, e.funs, e.frf, e.hok, e.bare⟩

section
variable {X : Cx} {pins : List (Addr × Obj)} {σ : St} {H : Hp} {s s' : Shared}
/-- from a body: what a callee wants -/
theorem Inv.env0 (I : Inv X pins σ H s) : Env0 X.prog X.w X.K X.mg X.base X.A X.stack s H :=
  ⟨I.ok.frames, I.ok.mod, I.bs, Nat.le_trans I.ok.bsz I.sz, I.stack, I.stkFree, I.hok, I.bare⟩
/-- behind a call -/
theorem Inv.after {Q : VK} {u : Value} (I : Inv X pins σ H s) (h : CE X.stack X.prog X.w H s Q u s') : EP X pins σ Q u s' := by
  obtain ⟨v, H', os, bare, un, hok, r, q⟩ := h
  obtain ⟨hh, g, d, t, os'⟩ := s'
  obtain rfl : os' = s.os := os
  exact ⟨v, H', I.call (h' := hh) (g' := g) (d' := d) (t' := t) (ch := []) un hok bare (fun b z => absurd z (by simp)), r, q⟩
end

/-! ### calls -/
/-- f(..): the written arguments, then the defaults dvs; E: what is wanted of an exception -/
def tCall (sp : Sp) (dvs : List V) (E : XK) (t : TA) : TE := fun σ H Q => t σ H fun vs H1 => sp (vs ++ dvs) H1 Q E
/-- how the parameters are bound: us the positional arguments, kw the keywords' values by name, ds the defaults that fill up -/
def Binds (K : PySem.W.Frag) (fd : FuncData) (ps : List Str) (ds : List Value) : Prop :=
  ∀ (s : Shared) (us : List Value), K.In s.heap → (us ++ ds).length = ps.length → BindsTo s fd ⟨us, []⟩ (ps.zip (us ++ ds))
/-- every parameter is given -/
theorem Binds.all {K : PySem.W.Frag} {fd : FuncData} {ps : List Str} (h : ∀ us : List Value, us.length = ps.length → bindArgs fd ⟨us, []⟩ = pure (ps.zip us)) : Binds K fd ps [] := fun s us _ hl => by
  rw [List.append_nil] at hl ⊢
  exact .of_eq (h us hl)

/-- an exception of a callee reaches what this body wants of exceptions -/
def Passes (CX : CXT) (X : Cx) (E : XK) : Prop := ∀ (pins : List (Addr × Obj)) (σ : St) (H : Hp) (s : Shared) (e : Value) (s' : Shared), Inv X pins σ H s → CX X.stack H s E e s' → X.xe e s'

section
variable {X : Cx} {CX : CXT} {k : Nat} {f C : Addr} {fd : FuncData} {ps : List Str} {sp : Sp} {dvs : List V} {ds : List Value} {E : XK} {x m : Str} {p pos apos : Pos} {e o : Expr} {es : List Expr} {ta : TE} {t : TA}

/-- the callee runs -/
theorem run_fn {pins : List (Addr × Obj)} {σ : St} {H : Hp} {s : Shared} {Q : VK} {us : List Value} {vs : List V} (F : FnOk X.prog X.w X.K X.mg X.base CX k f fd ps sp) (hr : Room k X.A) (hb : Binds X.K fd ps ds) (hd : Vals dvs ds) (hx : Passes CX X E)
    (I : Inv X pins σ H s) (r : Vals vs us) (h : sp (vs ++ dvs) H Q E) : wpAny (model X.prog X.w) X.A (call (.ref f) us) (EP X pins σ Q) X.xe s := by
  have r2 : Vals (vs ++ dvs) (us ++ ds) := r.append hd
  have hl : (us ++ ds).length = ps.length := by rw [← r2.length]; exact F.len _ _ _ _ h
  refine wpAny_call (codeAny_mono (F.run X.A X.stack s H ⟨us, []⟩ (us ++ ds) (vs ++ dvs) Q E hr I.env0 (hb s us I.kIn hl) r2 h) fun r s' hq => ?_)
  cases r with
  | error e => exact hx pins σ H s e s' I hq
  | ok fl =>
    cases fl with
    | ret u => exact I.after hq
    | next => exact False.elim hq
    | brk => exact False.elim hq
    | cont => exact False.elim hq

theorem pe_call (F : FnOk X.prog X.w X.K X.mg X.base CX k f fd ps sp) (hr : Room k X.A) (hg : Gl X x) (hm : X.mg x = some (.ref f)) (hk : PySem.W.keepIn X.K (.ref f) = true) (hb : Binds X.K fd ps ds) (hd : Vals dvs ds) (hx : Passes CX X E)
    (ha : PA X (e :: es) t) (hdb : (x == ("__debug__" : Str)) = false := by decide) (he : starEach (e :: es) X.env = (false, eval e X.env) :: starEach es X.env := by rfl) (hpl : (backTo pos (starEach es X.env)).any (·.1) = false := by rfl) :
    PE X (.Call (.Name x p) (e :: es) [] pos) (tCall sp dvs E t) := by
  intro pins s σ H Q I h
  refine wpAny_Call_Name_kw (ld_glob I hg hm ?_ hdb)
  refine PySem.W.callWith_K (h₀ := X.base) I.ok.mod.kin hk (thn (ha pos pins s σ H _ I h) fun us s1 ⟨vs, H1, I1, r, q⟩ => ⟨I1.kIn, ?_⟩) he hpl
  exact run_fn F hr hb hd hx I1 r q
/-- what a class must have to be made -/
structure Mk (K : PySem.W.Frag) (C f : Addr) : Prop where
  makes : PySem.W.makesIn K C = true
  init : PySem.W.findIn K (.ref C) "__init__" = some (some (.ref f))
  fn : PySem.W.isFn K (.ref f) = true
  kp : PySem.W.keepIn K (.ref C) = true

end

/-! ### keywords -/
section
variable {X : Cx} {CX : CXT} {k : Nat} {f C : Addr} {fd : FuncData} {ps ks : List Str} {sp : Sp} {E : XK} {x m : Str} {p pos apos kpos : Pos} {e o : Expr} {es : List Expr} {kws : List Keyword} {te ta : TE} {t tk : TA} {nm : Option Str}
/-- how a call with keywords binds: g puts the positional values us and the keywords' values ws (names ks) in the parameters' order, defaults among them -/
structure KBinds (K : PySem.W.Frag) (fd : FuncData) (ps ks : List Str) (g : List Value → List Value → List Value) (gV : List V → List V → List V) : Prop where
  to : ∀ (s : Shared) (us ws : List Value), K.In s.heap → (g us ws).length = ps.length → BindsTo s fd ⟨us, ks.zip ws⟩ (ps.zip (g us ws))
  rel : ∀ {vs : List V} {us : List Value} {zs : List V} {ws : List Value}, Vals vs us → Vals zs ws → Vals (gV vs zs) (g us ws)
variable {g : List Value → List Value → List Value} {gV : List V → List V → List V}
end

/-! ### a def's body keeps its promise -/
/-- names: the parameters first -/
structure FnScope (N P : List Str) (sc : Scope) : Prop where
  kind : sc.kind = .function
  co : sc.isCoroutine = false
  gen : sc.isGenerator = false
  nd : N.Nodup
  pre : N.take P.length = P
  par : ∀ x ∈ P, sc.names.lookup x = some .local ∨ sc.names.lookup x = some .cell
  nofree : ∀ y ∈ sc.names, y.2 ≠ .free

theorem bindL_out {kindOf : Str → Option NameKind} {x : Str} : ∀ {binds : List (Str × Value)} {m : Str → Option Value}, (∀ v, (x, v) ∉ binds) → bindL kindOf binds m x = m x
  | [], _, _ => rfl
  | (n, v) :: r, m, h => by
    unfold bindL
    rw [bindL_out fun w hw => h w (List.mem_cons_of_mem _ hw)]
    split
    · have : x ≠ n := by rintro rfl; exact h v List.mem_cons_self
      simp [this]
    · rfl
theorem bindC_out {kindOf : Str → Option NameKind} {x : Str} : ∀ {binds : List (Str × Value)} {m : Str → Option Value}, (∀ v, (x, v) ∉ binds) → bindC kindOf binds m x = m x
  | [], _, _ => rfl
  | (n, v) :: r, m, h => by
    unfold bindC
    rw [bindC_out fun w hw => h w (List.mem_cons_of_mem _ hw)]
    split
    · rfl
    · have : x ≠ n := by rintro rfl; exact h v List.mem_cons_self
      simp [this]
theorem bindL_get {kindOf : Str → Option NameKind} {x : Str} {v : Value} : ∀ {P : List Str} {vs : List Value} {i : Nat} {m : Str → Option Value}, P.Nodup → P[i]? = some x → vs[i]? = some v → kindOf x = some .local →
    bindL kindOf (P.zip vs) m x = some v
  | [], _, _, _, _, h, _, _ => by simp at h
  | _ :: _, [], _, _, _, _, h, _ => by simp at h
  | p :: P, w :: vs, 0, m, nd, h1, h2, hk => by
    simp at h1 h2; subst h1; subst h2
    show bindL kindOf ((p, w) :: P.zip vs) m p = _
    unfold bindL
    rw [bindL_out fun v hv => (List.nodup_cons.mp nd).1 (List.of_mem_zip hv).1, if_pos hk]
    simp
  | p :: P, w :: vs, i + 1, m, nd, h1, h2, hk => by
    show bindL kindOf ((p, w) :: P.zip vs) m x = _
    unfold bindL
    exact bindL_get (i := i) (List.nodup_cons.mp nd).2 (by simpa using h1) (by simpa using h2) hk
theorem bindC_get {kindOf : Str → Option NameKind} {x : Str} {v : Value} : ∀ {P : List Str} {vs : List Value} {i : Nat} {m : Str → Option Value}, P.Nodup → P[i]? = some x → vs[i]? = some v → kindOf x ≠ some .local →
    bindC kindOf (P.zip vs) m x = some v
  | [], _, _, _, _, h, _, _ => by simp at h
  | _ :: _, [], _, _, _, _, h, _ => by simp at h
  | p :: P, w :: vs, 0, m, nd, h1, h2, hk => by
    simp at h1 h2; subst h1; subst h2
    show bindC kindOf ((p, w) :: P.zip vs) m p = _
    unfold bindC
    rw [bindC_out fun v hv => (List.nodup_cons.mp nd).1 (List.of_mem_zip hv).1, if_neg hk]
    simp
  | p :: P, w :: vs, i + 1, m, nd, h1, h2, hk => by
    show bindC kindOf ((p, w) :: P.zip vs) m x = _
    unfold bindC
    exact bindC_get (i := i) (List.nodup_cons.mp nd).2 (by simpa using h1) (by simpa using h2) hk

/-- the names' values at the entry -/
def start (N : List Str) (vs : List V) : St := vs.map some ++ List.replicate (N.length - vs.length) none

/-- the context of a def's body, at its entry; an exception leaves the frame, then lies as CX says -/
def cxOf (CX : CXT) (P : Program) (w : World) (K : PySem.W.Frag) (mg : Str → Option Value) (base : Heap) (N : List Str) (qual : Str) (scope : Scope) (f : Addr) (cd : Value) (A : Around) (outer : List Env) (s : Shared) (H : Hp) (E : XK) : Cx where
  prog := P
  w := w
  K := K
  mg := mg
  base := base
  A := A.deeper (envOfC qual scope s.heap.objs.size f cd)
  N := N
  s₀ := s
  H₀ := H
  env := envOfC qual scope s.heap.objs.size f cd
  outer := outer
  stack := envOfC qual scope s.heap.objs.size f cd :: outer
  ex := []
  calm := true
  fn := fun _ => true
  pn := []
  xe := fun e s' => wpAny (model P w) (A.deeper (envOfC qual scope s.heap.objs.size f cd)) (leaving (envOfC qual scope s.heap.objs.size f cd) e) (fun _ s'' => CX outer H s E e s'') (fun e' s'' => CX outer H s E e' s'') s'

theorem cell_has {sc : Scope} {n : Nat} {x : Str} (h : sc.names.lookup x = some .cell) : ∃ c, (cellsFrom n sc.names []).lookup x = some c := by
  have q := PySem.W.cellsFrom_some sc.names n [] (.inl h)
  exact Option.isSome_iff_exists.mp q

theorem inv_start {CX : CXT} {P : Program} {w : World} {K : PySem.W.Frag} {mg : Str → Option Value} {base : Heap} {N ps : List Str} {qual : Str} {scope : Scope} {f : Addr} {cd : Value} {A : Around} {outer : List Env} {s s1 : Shared} {H : Hp} {E : XK} {us : List Value} {vs : List V}
    (S : FnScope N ps scope) (hd : A.handled = none) (e0 : Env0 P w K mg base A outer s H) (hl : vs.length = ps.length) (r : Vals vs us)
    (x : InCallC s s.heap.objs.size (bindL (envOfC qual scope s.heap.objs.size f cd).kindOf (ps.zip us) fun _ => none) (cellsFrom (s.heap.objs.size + 1) scope.names []) (bindC (envOfC qual scope s.heap.objs.size f cd).kindOf (ps.zip us) fun _ => none) s1) :
    Inv (cxOf CX P w K mg base N qual scope f cd A outer s H E) [] (start N vs) H s1 := by
  have hpl : ps.length ≤ N.length := by have := congrArg List.length S.pre; rw [List.length_take] at this; omega
  obtain ⟨h1, tk, rfl, hk⟩ := x.done
  have noA : ∀ b : Addr, b ∉ (cxOf CX P w K mg base N qual scope f cd A outer s H E).ex := fun b z => absurd (show b ∈ ([] : List Addr) from z) (by simp)
  refine ⟨⟨e0.mod, S.kind, rfl, rfl, Nat.le_refl _, fun y z c h1 h2 => ?_, fun y hy => ?_, fun y c _ h => ?_, fun _ => hd, Around.frames_deeper e0.frames, .inr ⟨rfl, rfl⟩, fun b z => absurd z (noA b), e0.bs, e0.bsz, fun b _ _ => noA b, fun b z => absurd z (noA b), e0.funs, e0.frf⟩,
    rfl, e0.bare, Un.kept hk, ⟨_, x.toInCall.ns, fun i y v h1 h2 h3 => ?_⟩, fun y c h => ⟨_, x.cell y c h⟩, e0.hok.fresh (Nat.le_refl _), fun y c h => ?_, fun p hp => absurd (show p ∈ ([] : List (Addr × Obj)) from hp) (by simp), e0.hok.kept hk, ?_⟩
  · exact name_of_addr x.apart (PySem.mem_of_lookup h1) (PySem.mem_of_lookup h2)
  · have hy : scope.names.lookup y = some .cell ∨ scope.names.lookup y = some .free := hy
    rcases hy with hy | hy
    · exact cell_has hy
    · exact absurd rfl (S.nofree _ (PySem.mem_of_lookup hy))
  · exact Nat.le_of_lt (x.above y c (PySem.mem_of_lookup h))
  · have hi : i < vs.length := by
      unfold start at h2
      by_cases hi : i < vs.length
      · exact hi
      · rw [List.getElem?_append_right (by simpa using hi)] at h2
        rw [List.getElem?_replicate] at h2
        split at h2 <;> cases h2
    have ha : vs[i]? = some v := by
      unfold start at h2
      rw [List.getElem?_append_left (by simpa using hi), List.getElem?_map] at h2
      cases e : vs[i]? with
      | none => rw [e] at h2; cases h2
      | some a => rw [e] at h2; cases h2; rfl
    obtain ⟨u, hu, rv⟩ := r.get ha
    have hp : ps[i]? = some y := by
      rw [← S.pre, List.getElem?_take_of_lt (by omega)]; exact h1
    have ndP : ps.Nodup := by rw [← S.pre]; exact S.nd.sublist (List.take_sublist _ _)
    refine ⟨u, rv, ?_⟩
    rcases S.par y (List.mem_of_getElem? hp) with k | k
    · exact .inl ⟨k, bindL_get ndP hp hu k⟩
    · obtain ⟨c, e⟩ := cell_has (n := s.heap.objs.size + 1) k
      refine .inr ⟨.inl k, c, e, ?_⟩
      have q := x.cell y c e
      rw [bindC_get ndP hp hu (by show scope.names.lookup y ≠ _; rw [k]; decide)] at q
      exact q
  · exact e0.hok.fresh (Nat.le_of_lt (x.above y c (PySem.mem_of_lookup h)))
  · unfold start
    show _ = N.length
    rw [List.length_append, List.length_map, List.length_replicate]
    omega

/-- THE RULE: a def (or a method) of the text, by its body. The body's reading t is chosen for each entry; it is run at the parameters' values -/
theorem fn_of {CX : CXT} {P : Program} {w : World} {K : PySem.W.Frag} {mg : Str → Option Value} {base : Heap} {k : Nat} {f : Addr} {name qual : Str} {params : Arguments} {body : List Stmt} {scope : Scope} {dV kV doc pm cdv ct oc : Value} {an od : Option Addr}
    {osl : Array (Option Value)} {N ps : List Str} {sp : Sp} (lk : K.lookup f = some ⟨oc, od, .func (PySem.W.fnOf name qual params body scope dV kV doc pm an cdv ct), osl⟩) (hcd : PySem.W.codeIn K cdv qual = true) (S : FnScope N ps scope)
    (len : ∀ vs H Q E, sp vs H Q E → vs.length = ps.length)
    (hbody : ∀ (A : Around) (outer : List Env) (s : Shared) (H : Hp) (vs : List V) (Q : VK) (E : XK), Room k (A.deeper (envOfC qual scope s.heap.objs.size f cdv)) → sp vs H Q E →
      ∃ t, PSs (cxOf CX P w K mg base N qual scope f cdv A outer s H E) body t ∧ t { nx := fun _ H' => Q .non H', rt := Q } (start N vs) H) :
    FnOk P w K mg base CX (k + 1) f (PySem.W.fnOf name qual params body scope dV kV doc pm an cdv ct) ps sp := by
  refine ⟨len, fun A outer s H args us vs Q E hr e0 hb r hsp => ?_⟩
  have hl := len _ _ _ _ hsp
  have KX : K.In s.heap := e0.mod.kin.keeps fun b o e => (e0.bs b o e).1
  have lim : s.heap.NoLimit := e0.mod.nolimit.keeps fun b o e => (e0.bs b o e).1
  have hkind : ∀ y ∈ ps.zip us, scope.names.lookup y.1 = some .local ∨ (scope.names.lookup y.1 = some .cell ∧ ((cellsFrom (s.heap.objs.size + 1) scope.names []).lookup y.1).isSome = true) := fun ⟨n, v⟩ hy => by
    rcases S.par n (List.of_mem_zip hy).1 with q | q
    · exact .inl q
    · exact .inr ⟨q, PySem.W.cellsFrom_some _ _ _ (.inl q)⟩
  refine codeAny_call_function hr.depth (KX _ _ lk) rfl S.co S.gen rfl (PySem.W.codeRec_of KX hcd) (hb _ _ _ _ ?_)
  refine wpAny_newFunctionEnv_cells S.kind hkind fun env he s1 x => ?_
  subst he
  refine ⟨lim.keeps x.toInCall.keep, codeAny_func ?_⟩
  obtain ⟨t, ht, hq⟩ := hbody A outer s H vs Q E (hr.deeper _) hsp
  have I : Inv (cxOf CX P w K mg base N qual scope f cdv A outer s H E) [] (start N vs) H s1 := inv_start S hr.hd e0 hl r x
  refine wpAny_mono (ht [] s1 (start N vs) H _ I hq) (fun fl s' hs => ?_) fun e s' hs => hs
  have fin : ∀ {σ' : St} {H' : Hp} {v : V} {u : Value}, Inv (cxOf CX P w K mg base N qual scope f cdv A outer s H E) [] σ' H' s' → RelV v u → Q v H' → CE outer P w H s Q u s' :=
    fun {σ' H' v u} J rv q => ⟨v, H', J.os, J.bare, J.base, J.hok, rv, q⟩
  cases fl with
  | ret u =>
    obtain ⟨v, σ', H', J, rv, q⟩ := hs
    exact fin J rv q
  | next =>
    obtain ⟨σ', H', J, q⟩ := hs
    exact fin (v := V.non) (u := Value.none) J rfl q
  | brk =>
    obtain ⟨_, _, _, q⟩ := hs
    exact False.elim q
  | cont =>
    obtain ⟨_, _, _, q⟩ := hs
    exact False.elim q
end L2

namespace L2
open PySem PySem.Spec PyProof.Rows
section
variable {X : Cx} {x : Str} {p pos : Pos} {e : Expr} {es : List Expr} {t : TA} {id T : String} {r : List V → Hp → VK → Prop}

def tCB (r : List V → Hp → VK → Prop) (t : TA) : TE := fun σ H Q => t σ H fun vs H1 => r vs H1 Q
/-- f(e, ..), f a built-in function -/
theorem pe_callB (hc : CallR X (.builtin id) r) (hg : Gl X x) (hm : X.mg x = none) (hv : bootBuiltins x = some (.builtin id)) (ha : PA X (e :: es) t) (hn : x ≠ "__name__" := by decide) (hdb : (x == ("__debug__" : Str)) = false := by decide)
    (he : starEach (e :: es) X.env = (false, eval e X.env) :: starEach es X.env := by rfl) (hpl : (backTo pos (starEach es X.env)).any (·.1) = false := by rfl) : PE X (.Call (.Name x p) (e :: es) [] pos) (tCB r t) := by
  intro pins s σ H Q I h
  refine wpAny_Call_Name_kw (ld_blt I hg hm hv ?_ hn hdb)
  exact PyProof.Rows.callWith_builtin1 (thn (ha pos pins s σ H _ I h) fun us s1 ⟨vs, H1, I1, r1, q1⟩ => hc pins s1 σ H1 vs us Q I1 r1 q1) he hpl
/-- T(e, ..), T a built-in type -/
theorem pe_callTy (hc : CallR X (.type T) r) (hg : Gl X x) (hm : X.mg x = none) (hv : bootBuiltins x = some (.type T)) (ha : PA X (e :: es) t) (hn : x ≠ "__name__" := by decide) (hdb : (x == ("__debug__" : Str)) = false := by decide)
    (he : starEach (e :: es) X.env = (false, eval e X.env) :: starEach es X.env := by rfl) (hpl : (backTo pos (starEach es X.env)).any (·.1) = false := by rfl) : PE X (.Call (.Name x p) (e :: es) [] pos) (tCB r t) := by
  intro pins s σ H Q I h
  refine wpAny_Call_Name_kw (ld_blt I hg hm hv ?_ hn hdb)
  exact PyProof.Rows.callWith_type1 (thn (ha pos pins s σ H _ I h) fun us s1 ⟨vs, H1, I1, r1, q1⟩ => hc pins s1 σ H1 vs us Q I1 r1 q1) he hpl
end
end L2

namespace HT
open PySem PyProof.Rows

section
open PySem.SeqAt
open PySem.AutoSeq1 (wpAny_loadPart')
open PySem.MeetsSeq PySem.MeetsSeq2 PySem.MeetsSeq3

end

section
variable {prog : Program} {w : World} {A : Around} {E : Value → Shared → Prop} {s : Shared}

/-- t + u, t not empty -/
theorem cat_tup {t b : Addr} {vs ws : List Value} {Q : Value → Shared → Prop} (ht : IsTup s.heap t vs.toArray) (hb : IsTup s.heap b ws.toArray) (hv : vs ≠ [])
    (h1 : ws = [] → Q (.ref t) s) (h2 : ws ≠ [] → Q (.ref s.heap.objs.size) { s with heap := s.heap.push { cls := .type "tuple", data := .seq (vs ++ ws).toArray } })
    (hsz : vs.length + ws.length ≤ sizeLine) : wpAny (model prog w) A (binaryOp .Add (.ref t) (.ref b)) Q E s := by
  obtain ⟨⟨cls, dd, data, sl⟩, ho, hc, n, hd⟩ := id ht
  obtain ⟨⟨cls2, dd2, data2, sl2⟩, ho2, hc2, n2, hd2⟩ := id hb
  simp only at hc hd hc2 hd2
  subst hc hd hc2 hd2
  have e : vs.toArray ++ ws.toArray = (vs ++ ws).toArray := by simp
  by_cases hw : ws = []
  · exact concat_meets ⟨_, ho, rfl⟩ ⟨_, ho2, rfl⟩ noFill_tuple_add seq_tuple_add PySem.F.slot_tuple_add PySem.F.entry_tuple_add (PySem.F.args_tuple_add_2 _ _)
      (tuple_addW1 t b vs.toArray ws.toArray n n2 dd dd2 sl sl2 (by simpa using hv) (by simp [hw])) ⟨ho, ho2, h1 hw⟩
  · refine concat_meets ⟨_, ho, rfl⟩ ⟨_, ho2, rfl⟩ noFill_tuple_add seq_tuple_add PySem.F.slot_tuple_add PySem.F.entry_tuple_add (PySem.F.args_tuple_add_2 _ _)
      (tuple_addW2 t b vs.toArray ws.toArray n n2 dd dd2 sl sl2 (by simpa using hv) (by simpa using hw) (by rw [List.size_toArray, List.size_toArray]; exact hsz)) ⟨ho, ho2, ?_⟩
    rw [e]
    exact h2 hw

/-! ### t[a:b], not the whole -/
/-- a slice's bound as a place among n (d where it is left out) -/
def sIx (n d : Nat) : Option Int → Nat
  | none => d
  | some v => if v < 0 then (v + (n : Int)).toNat else min v.toNat n
theorem sIx_none (n d : Nat) : sIx n d none = d := rfl
theorem sIx_le (n d : Nat) (hd : d ≤ n) (o : Option Int) : sIx n d o ≤ n := by
  cases o with
  | none => exact hd
  | some v =>
    show (if v < 0 then (v + (n : Int)).toNat else min v.toNat n) ≤ n
    by_cases hv : v < 0
    · rw [if_pos hv]; omega
    · rw [if_neg hv]; exact Nat.min_le_right _ _
theorem clip_eq (v : Int) (n d : Nat) : (if v < 0 then max (v + (n : Int)) 0 else min v (n : Int)) = ((sIx n d (some v) : Nat) : Int) := by
  show (if v < 0 then max (v + (n : Int)) 0 else min v (n : Int)) = (((if v < 0 then (v + (n : Int)).toNat else min v.toNat n) : Nat) : Int)
  by_cases hv : v < 0
  · simp only [if_pos hv]; omega
  · simp only [if_neg hv]; omega
theorem adjust_gen (lo hi : Option Int) (n : Nat) : Builtin.Slice.sliceAdjust lo hi 1 (n : Int) = (((sIx n 0 lo : Nat) : Int), ((sIx n n hi : Nat) : Int)) := by
  have h1 : ¬ ((1 : Int) < 0) := by omega
  unfold Builtin.Slice.sliceAdjust
  simp only [h1, if_false]
  refine Prod.ext ?_ ?_
  · cases lo with
    | none => rfl
    | some v => exact clip_eq v n 0
  · cases hi with
    | none => rfl
    | some v => exact clip_eq v n n
theorem places_gen (i j : Nat) : Builtin.Slice.slicePlaces (i : Int) (j : Int) 1 = j - i := by
  unfold Builtin.Slice.slicePlaces
  have h1 : (1 : Int) > 0 := by omega
  simp only [h1, if_true, Int.ediv_one]
  split <;> omega
theorem slicePart_ {v : Value} {o : Option Int} {Q : Option Int → Shared → Prop} (p : IsPart v o) (h : Q o s) : wpAny (model prog w) A (Builtin.Slice.slicePartIndex v) Q E s := by
  cases p with
  | none => exact slicePart_none h
  | int i t => exact slicePart_int h
theorem sliceApplied_gen {sl : Addr} {vl vu : Value} {lo hi : Option Int} {n : Nat} {Q : Int × Int × Nat → Shared → Prop} (hs : s.heap.IsSliceOf sl vl vu .none) (pl : IsPart vl lo) (pu : IsPart vu hi)
    (h : Q (((sIx n 0 lo : Nat) : Int), 1, sIx n n hi - sIx n 0 lo) s) : wpAny (model prog w) A (Builtin.Slice.sliceApplied (.ref sl) (pure (n : Int))) Q E s := by
  obtain ⟨os, hos, hcs, hds⟩ := id hs
  unfold Builtin.Slice.sliceApplied Builtin.Slice.sliceFields
  refine wpAny_bind (wpAny_bind (wpAny_field hos hds (x := vl) rfl (wpAny_bind (wpAny_field hos hds (x := vu) rfl (wpAny_bind (wpAny_field hos hds (x := .none) rfl (wpAny_pure ?_)))))))
  refine wpAny_bind (slicePart_none ?_)
  show wpAny _ _ (if ((1 : Int) == 0) = true then _ else _) _ _ s
  rw [if_neg (by decide)]
  refine wpAny_bind (slicePart_ pl (wpAny_bind (slicePart_ pu (wpAny_bind (wpAny_pure ?_)))))
  show wpAny _ _ (match Builtin.Slice.sliceAdjust lo hi 1 (n : Int) with | (lo, hi) => pure (lo, (1 : Int), Builtin.Slice.slicePlaces lo hi 1)) _ _ s
  rw [adjust_gen lo hi n]
  show wpAny _ _ (pure (((sIx n 0 lo : Nat) : Int), (1 : Int), Builtin.Slice.slicePlaces ((sIx n 0 lo : Nat) : Int) ((sIx n n hi : Nat) : Int) 1)) _ _ s
  rw [places_gen]
  exact wpAny_pure h
theorem pick_gen (xs : Array Value) (i k : Nat) : ((List.range k).filterMap fun (m : Nat) => xs[((i : Int) + (m : Int) * 1).toNat]?).toArray = ((xs.toList.drop i).take k).toArray := by
  have e : (fun (m : Nat) => xs[((i : Int) + (m : Int) * 1).toNat]?) = fun m => xs[i + m]? := by
    funext m
    have : ((i : Int) + (m : Int) * 1).toNat = i + m := by omega
    rw [this]
  rw [e]
  have := pick_run xs i k
  rw [List.filterMap_map] at this
  have e2 : ((fun x => xs[x]?) ∘ fun x => i + x) = fun m => xs[i + m]? := rfl
  rw [e2] at this
  rw [this]

theorem getItem_tuple_cut {t sl : Addr} {items : Array Value} {vl vu : Value} {lo hi : Option Int} {Q : Value → Shared → Prop} (ht : IsTup s.heap t items) (hs : s.heap.IsSliceOf sl vl vu .none) (pl : IsPart vl lo) (pu : IsPart vu hi)
    (hw : ¬ (sIx items.size 0 lo = 0 ∧ sIx items.size items.size hi = items.size))
    (h : Q (.ref s.heap.objs.size) { s with heap := s.heap.push { cls := .type "tuple", data := .seq ((items.toList.drop (sIx items.size 0 lo)).take (sIx items.size items.size hi - sIx items.size 0 lo)).toArray } })
    (hsz : items.size ≤ sizeLine) : wpAny (model prog w) A (getItem (.ref t) (.ref sl)) Q E s := by
  have htake : sizeOk (.seq ((items.toList.drop (sIx items.size 0 lo)).take (sIx items.size items.size hi - sIx items.size 0 lo)).toArray) := by
    show ((items.toList.drop (sIx items.size 0 lo)).take (sIx items.size items.size hi - sIx items.size 0 lo)).toArray.size ≤ sizeLine
    rw [List.size_toArray, List.length_take, List.length_drop, Array.length_toList]
    omega
  have hj : sIx items.size items.size hi ≤ items.size := sIx_le _ _ (Nat.le_refl _) hi
  obtain ⟨os, hos, hcs, hds⟩ := id hs
  have hTs : s.TypeIs (.ref sl) "slice" := ⟨os, hos, hcs⟩
  unfold getItem
  try with_reducible refine wpAny_holding ?_
  first | refine wpAny_bind (wpAny_pure ?_) | skip
  refine wpAny_bind (wpAny_sequenceKey ht.typeIs (by decide) ?_)
  refine wpAny_bind (wpAny_callSpecial?_slot (name := Str.ofString "__getitem__") ht.typeIs PyProof.Rows.slot_tuple_getitem
    (wpAny_call_entry PyProof.Rows.slot_tuple_getitem ht.typeIs entry_tuple_getitem ?_ (args_tuple_getitem _ _)))
  show wpAny _ _ (Builtin.Tuple.tupleItemsOf (.ref t) >>= _) _ _ s
  refine wpAny_bind (tupleItemsOf_ ht ?_)
  refine wpAny_bind (wpAny_typeOf hTs ?_)
  rw [if_pos (by decide)]
  refine wpAny_bind (sliceApplied_gen hs pl pu ?_)
  have hno : ¬ ((((sIx items.size 0 lo : Nat) : Int) == 0 && (1 : Int) == 1 && (sIx items.size items.size hi - sIx items.size 0 lo) == items.size) = true) := by
    intro q
    rw [Bool.and_eq_true, Bool.and_eq_true] at q
    have q1 : ((sIx items.size 0 lo : Nat) : Int) = 0 := eq_of_beq q.1.1
    have q2 : sIx items.size items.size hi - sIx items.size 0 lo = items.size := eq_of_beq q.2
    exact hw ⟨by omega, by omega⟩
  show wpAny _ _ (if (((sIx items.size 0 lo : Nat) : Int) == 0 && (1 : Int) == 1 && (sIx items.size items.size hi - sIx items.size 0 lo) == items.size) = true then _ else _) _ _ s
  rw [if_neg hno, pick_gen]
  first
    | exact wpAny_bind (m := Builtin.Tuple.tupleExact _) (wpAny_newObj_type (wpAny_pure ⟨_, rfl, wpAny_pure h⟩) htake)
    | exact wpAny_bind (m := Builtin.Tuple.tupleExact _) (wpAny_newObj_type (wpAny_bind (wpAny_pure (wpAny_pure ⟨_, rfl, wpAny_pure h⟩))) htake)
    | exact wpAny_bind (wpAny_bind (m := Builtin.Tuple.tupleExact _) (wpAny_newObj_type (wpAny_pure (wpAny_pure ⟨_, rfl, wpAny_pure h⟩)) htake))
    | exact wpAny_bind (wpAny_bind (m := Builtin.Tuple.tupleExact _) (wpAny_newObj_type (wpAny_pure ⟨_, rfl, wpAny_pure h⟩) htake))
end
end HT

namespace L2
open PySem PySem.Spec PyProof.Rows

/-! ### the parts of a slice -/
abbrev TO := St → Hp → (Option Int → Hp → Prop) → Prop
/-- a slice's part (left out, or an int) -/
def PO (X : Cx) (e : Option Expr) (t : TO) : Prop :=
  ∀ (pins : List (Addr × Obj)) (s : Shared) (σ : St) (H : Hp) (Q : Option Int → Hp → Prop), Inv X pins σ H s → t σ H Q →
    wpAny (model X.prog X.w) X.A (evalPart e X.env) (fun u s' => ∃ o H', Inv X pins σ H' s' ∧ IsPart u o ∧ Q o H') X.xe s
def tNoPart : TO := fun _ H Q => Q none H
def tPart (t : TE) : TO := fun σ H Q => t σ H fun x H1 => ∃ i, x = .int i ∧ Q (some i) H1

section
variable {X : Cx} {e : Expr} {te : TE} {lo hi : Option Expr} {tl th : TO} {pos p2 : Pos}

theorem po_none : PO X none tNoPart := by
  intro pins s σ H Q I h
  rw [evalPart_none]
  exact wpAny_pure ⟨none, H, I, .none, h⟩
theorem po_some (h : PE X e te) : PO X (some e) (tPart te) := by
  intro pins s σ H Q I hw
  rw [evalPart_some]
  refine thn (h pins s σ H _ I hw) fun u s1 ⟨x, H1, I1, r1, q1⟩ => ?_
  obtain ⟨i, rfl, q⟩ := q1
  obtain ⟨t, rfl⟩ := r1
  exact ⟨some i, H1, I1, .int i t, q⟩

/-- what a slice of a value is, by values: the slice object stands at sl -/
def SlR (X : Cx) (r : V → Option Int → Option Int → Hp → VK → Prop) : Prop :=
  ∀ (pins : List (Addr × Obj)) (s : Shared) (σ : St) (H : Hp) (x : V) (v vl vu : Value) (lo hi : Option Int) (sl : Addr) (Q : VK), Inv X pins σ H s → RelV x v → s.heap.IsSliceOf sl vl vu .none → IsPart vl lo → IsPart vu hi → r x lo hi H Q →
    ∃ T id, typeLookup (.type T) "__getitem__" = pure (some (.builtin id)) ∧ s.TypeIs v T ∧ wpAny (model X.prog X.w) X.A (getItem v (.ref sl)) (EP X pins σ Q) X.xe s
theorem SlR.or {r r' : V → Option Int → Option Int → Hp → VK → Prop} (h : SlR X r) (h' : SlR X r') : SlR X (fun x lo hi H Q => r x lo hi H Q ∨ r' x lo hi H Q) := by
  intro pins s σ H x v vl vu lo hi sl Q I rx hs pl pu q
  rcases q with q | q
  · exact h pins s σ H x v vl vu lo hi sl Q I rx hs pl pu q
  · exact h' pins s σ H x v vl vu lo hi sl Q I rx hs pl pu q
def tSl (r : V → Option Int → Option Int → Hp → VK → Prop) (te : TE) (tl th : TO) : TE := fun σ H Q => te σ H fun x H1 => tl σ H1 fun l H2 => th σ H2 fun u H3 => r x l u H3 Q
/-- a[lo:hi], any a -/
theorem pe_slice {r : V → Option Int → Option Int → Hp → VK → Prop} (hr : SlR X r) (he : PE X e te) (hl : PO X lo tl) (hu : PO X hi th) : PE X (.Subscript e (.Slice lo hi none p2) pos) (tSl r te tl th) := by
  intro pins s σ H Q I h
  refine Subscript_ (thn (he pins s σ H _ I h) fun v s1 ⟨x, H1, I1, r1, q1⟩ => ?_)
  refine wpAny_Slice (thn (hl pins s1 σ H1 _ I1 q1) fun vl s2 ⟨l, H2, I2, pl, q2⟩ => thn (hu pins s2 σ H2 _ I2 q2) fun vu s3 ⟨u, H3, I3, pu, q3⟩ => ?_)
  rw [evalPart_none]
  refine wpAny_pure ?_
  have I4 : Inv X pins σ H3 { s3 with heap := s3.heap.push { cls := .type "slice", data := .fields #[vl, vu, .none] } } := I3.kept (t' := s3.toks) fun b ob q => Heap.get?_push_of_some _ q
  obtain ⟨T, id, hT, ht, hg⟩ := hr pins { s3 with heap := s3.heap.push { cls := .type "slice", data := .fields #[vl, vu, .none] } } σ H3 x v vl vu l u s3.heap.objs.size Q I4 r1 (Heap.IsSliceOf.new ..) pl pu q3
  show wpAny (model X.prog X.w) X.A (subscriptTail e (.Slice lo hi none p2) v (.ref s3.heap.objs.size)) (EP X pins σ Q) X.xe { s3 with heap := s3.heap.push { cls := .type "slice", data := .fields #[vl, vu, .none] } }
  exact tail_any (ops := [.ref s3.heap.objs.size, v]) ht hT hg (by with_unfolding_all rfl)

/-- the items of xs[lo:hi] -/
def cutV (xs : List V) (lo hi : Option Int) : List V := (xs.drop (HT.sIx xs.length 0 lo)).take (HT.sIx xs.length xs.length hi - HT.sIx xs.length 0 lo)
theorem cutV_length (xs : List V) (lo hi : Option Int) : (cutV xs lo hi).length ≤ xs.length := by
  unfold cutV
  rw [List.length_take, List.length_drop]
  omega
/-- t[lo:hi], not the whole of it (the whole would be t itself) -/
def rSlT (K : PySem.W.Frag) : V → Option Int → Option Int → Hp → VK → Prop := fun x lo hi H Q => ∃ a xs, x = .ref a ∧ SqT K H a xs ∧
  ¬ (HT.sIx xs.length 0 lo = 0 ∧ HT.sIx xs.length xs.length hi = xs.length) ∧ ∀ p, H p = none → Q (.ref p) (upd H p (.tup (cutV xs lo hi)))
theorem sl_tup : SlR X (rSlT X.K) := by
  intro pins s σ H x v vl vu lo hi sl Q I rx hs pl pu h
  obtain ⟨a, xs, rfl, hx, hw, q⟩ := h
  cases rx
  obtain ⟨its, r, ht, hz⟩ := I.tuple hx
  have hlen : its.toArray.size = xs.length := by rw [List.size_toArray]; exact r.length.symm
  refine ⟨"tuple", _, PyProof.Rows.slot_tuple_getitem.lookup, ht.typeIs, ?_⟩
  refine HT.getItem_tuple_cut ht hs pl pu (by rw [hlen]; exact hw) ?_ (by rw [hlen]; exact hz)
  rw [hlen]
  refine ⟨.ref s.heap.objs.size, _, I.laid (t' := s.toks) (o := .tup (cutV xs lo hi)) (fun b ob q => Heap.get?_push_of_some _ q) (Nat.le_refl _) ?_, rfl, q _ (I.hok.fresh (Nat.le_refl _))⟩
  exact ⟨Nat.le_trans (cutV_length xs lo hi) hz, _, (r.drop (HT.sIx xs.length 0 lo)).take (HT.sIx xs.length xs.length hi - HT.sIx xs.length 0 lo), IsTup.new _ _⟩

/-! ### t < u, t + u -/
/-- t + u, t not empty: u empty gives t itself -/
def rCatT (K : PySem.W.Frag) : R2 := fun x y H Q => ∃ a b xs ys, x = .ref a ∧ y = .ref b ∧ SqT K H a xs ∧ SqT K H b ys ∧ xs ≠ [] ∧ xs.length + ys.length ≤ sizeLine ∧
  (ys = [] → Q (.ref a) H) ∧ (ys ≠ [] → ∀ p, H p = none → Q (.ref p) (upd H p (.tup (xs ++ ys))))
theorem Vals.nil_iff {xs : List V} {us : List Value} (r : Vals xs us) : us = [] ↔ xs = [] := by
  cases r with
  | nil => simp
  | cons _ _ => simp
theorem op_catT : OpR X (binaryOp .Add) (rCatT X.K) := by
  intro pins s σ H x y v u Q I rx ry h
  obtain ⟨a, b, xs, ys, rfl, rfl, ha, hb, hx, hz, q1, q2⟩ := h
  cases rx
  cases ry
  obtain ⟨its, r1, p1, _⟩ := I.tuple ha
  obtain ⟨its2, r2, p2, _⟩ := I.tuple hb
  refine HT.cat_tup p1 p2 (fun z => hx (r1.nil_iff.mp z)) (fun z => ⟨.ref a, H, I, rfl, q1 (r2.nil_iff.mp z)⟩) (fun z => ?_) (by rw [← r1.length, ← r2.length]; exact hz)
  refine ⟨.ref s.heap.objs.size, _, I.laid (t' := s.toks) (o := .tup (xs ++ ys)) (fun b ob q => Heap.get?_push_of_some _ q) (Nat.le_refl _) ?_, rfl, q2 (fun w => z (r2.nil_iff.mpr w)) _ (I.hok.fresh (Nat.le_refl _))⟩
  exact ⟨by rw [List.length_append]; exact hz, _, r1.append r2, IsTup.new _ _⟩
end
end L2

namespace L2
open PySem PySem.Spec PyProof.Rows

/-! ### places -/
/-- the place that an index of any sign means -/
def ixN (n : Nat) (i : Int) : Option Nat := if 0 ≤ i then (if i < n then some i.toNat else none) else if -(n : Int) ≤ i then some (i + n).toNat else none
def atI {α : Type} (xs : List α) (i : Int) : Option α := (ixN xs.length i).bind fun j => xs[j]?
theorem ixN_seq {n : Nat} {i : Int} {j : Nat} (h : ixN n i = some j) : seqIndex? i n = some j ∧ j < n ∧ -(n : Int) ≤ i ∧ i < n := by
  unfold ixN at h
  by_cases h0 : 0 ≤ i
  · rw [if_pos h0] at h
    by_cases h1 : i < n
    · rw [if_pos h1] at h
      have e : i.toNat = j := Option.some.inj h
      exact ⟨by rw [seqIndex_of h0 h1, e], by omega, by omega, h1⟩
    · rw [if_neg h1] at h; cases h
  · rw [if_neg h0] at h
    by_cases h1 : -(n : Int) ≤ i
    · rw [if_pos h1] at h
      have e : (i + n).toNat = j := Option.some.inj h
      exact ⟨by rw [seqIndex_neg (by omega) h1, e], by omega, h1, by omega⟩
    · rw [if_neg h1] at h; cases h
theorem atI_get {α : Type} {xs : List α} {i : Int} {v : α} (h : atI xs i = some v) : ∃ j, seqIndex? i xs.length = some j ∧ xs[j]? = some v ∧ j < xs.length ∧ -(xs.length : Int) ≤ i ∧ i < xs.length := by
  unfold atI at h
  cases e : ixN xs.length i with
  | none => rw [e] at h; cases h
  | some j =>
    rw [e] at h
    obtain ⟨h1, h2, h3, h4⟩ := ixN_seq e
    exact ⟨j, h1, h, h2, h3, h4⟩
theorem atI_nat {α : Type} {xs : List α} {j : Nat} {v : α} (h : xs[j]? = some v) : atI xs (j : Int) = some v := by
  have hj : j < xs.length := (List.getElem?_eq_some_iff.mp h).1
  have e : ixN xs.length (j : Int) = some j := by
    unfold ixN
    rw [if_pos (by omega), if_pos (by omega)]; simp
  unfold atI; rw [e]; exact h
/-! ### what may be subscripted -/
/-- what stands as an index of a plain subscript -/
def PlainIx (b : Expr) : Prop := ∀ o i, subscripted b false o i = operate [o, i] (getItem o i)
/-- a subscript by values -/
def IxR (X : Cx) (r : R2) : Prop :=
  ∀ (value slice : Expr) (pins : List (Addr × Obj)) (s : Shared) (σ : St) (H : Hp) (x y : V) (v u : Value) (Q : VK), Inv X pins σ H s → RelV x v → RelV y u → r x y H Q →
    subscripted slice false v u = operate [v, u] (getItem v u) → wpAny (model X.prog X.w) X.A (subscriptTail value slice v u) (EP X pins σ Q) X.xe s
/-- a call of a builtin's method by values: the receiver, the arguments -/
def MtR (X : Cx) (id : String) (r : V → List V → Hp → VK → Prop) : Prop :=
  ∀ (pins : List (Addr × Obj)) (s : Shared) (σ : St) (H : Hp) (x : V) (xs : List V) (v : Value) (us : List Value) (Q : VK), Inv X pins σ H s → RelV x v → Vals xs us → r x xs H Q →
    wpAny (model X.prog X.w) X.A (call (.builtin id) (v :: us)) (EP X pins σ Q) X.xe s
section
variable {X : Cx} {a b : Expr} {ta tb : TE} {pos : Pos}
theorem IxR.or {r r' : R2} (h : IxR X r) (h' : IxR X r') : IxR X (fun x y H Q => r x y H Q ∨ r' x y H Q) := by
  intro value slice pins s σ H x y v u Q I rx ry q hs
  rcases q with q | q
  · exact h value slice pins s σ H x y v u Q I rx ry q hs
  · exact h' value slice pins s σ H x y v u Q I rx ry q hs
theorem MtR.or {id : String} {r r' : V → List V → Hp → VK → Prop} (h : MtR X id r) (h' : MtR X id r') : MtR X id (fun x xs H Q => r x xs H Q ∨ r' x xs H Q) := by
  intro pins s σ H x xs v us Q I rx rs q
  rcases q with q | q
  · exact h pins s σ H x xs v us Q I rx rs q
  · exact h' pins s σ H x xs v us Q I rx rs q
/-- a[b] -/
theorem pe_ix {r : R2} (hr : IxR X r) (ha : PE X a ta) (hb : PE X b tb) (hs : PlainIx b) : PE X (.Subscript a b pos) (tOp r ta tb) := by
  intro pins s σ H Q I h
  exact Subscript_ (binT ha hb I h fun v u s2 x y H2 I2 rx ry q => hr a b pins s2 σ H2 x y v u Q I2 rx ry q (hs _ _))

def rIxL (K : PySem.W.Frag) : R2 := fun x y H Q => ∃ p xs i v, x = .ref p ∧ y = .int i ∧ SqL K H p xs ∧ atI xs i = some v ∧ Q v H
def rIxT (K : PySem.W.Frag) : R2 := fun x y H Q => ∃ p xs i v, x = .ref p ∧ y = .int i ∧ SqT K H p xs ∧ atI xs i = some v ∧ Q v H
theorem ix_list : IxR X (rIxL X.K) := by
  intro value slice pins s σ H x y v u Q I rx ry h hs
  obtain ⟨p, xs, i, z, rfl, rfl, hq, he, q⟩ := h
  cases rx
  obtain ⟨t, rfl⟩ := ry
  obtain ⟨its, r, pl, hz⟩ := I.list hq
  obtain ⟨j, h1, h2, h3, h4, h5⟩ := atI_get he
  obtain ⟨w, ew, rw'⟩ := r.get h2
  have hl := r.length
  have hn := line63
  have fin : EP X pins σ Q w s := ⟨z, H, I, rw', q⟩
  by_cases h0 : 0 ≤ i
  · have hj : i.toNat = j := by
      rw [seqIndex_of h0 h5] at h1
      exact Option.some.inj h1
    exact item_listR pl.isList h0 (by omega) (by rw [hj]; simpa using ew) fin hs
  · have hj : (i + (its.toArray.size : Int)).toNat = j := by
      rw [seqIndex_neg (by omega) h4] at h1
      rw [List.size_toArray, ← hl]
      exact Option.some.inj h1
    exact subscriptTail_builtinR (x := w) pl.isList.typeIs slot_list_getitem.lookup
      (wpAny_getItem_list_neg (Q := fun r s' => r = w ∧ EP X pins σ Q r s') pl.isList (by omega) (by rw [List.size_toArray] <;> omega) (by omega) (by rw [hj]; simpa using ew) ⟨rfl, fin⟩) hs
theorem ix_tup : IxR X (rIxT X.K) := by
  intro value slice pins s σ H x y v u Q I rx ry h hs
  obtain ⟨p, xs, i, z, rfl, rfl, hq, he, q⟩ := h
  cases rx
  obtain ⟨t, rfl⟩ := ry
  obtain ⟨its, r, pl, hz⟩ := I.tuple hq
  obtain ⟨j, h1, h2, h3, h4, h5⟩ := atI_get he
  obtain ⟨w, ew, rw'⟩ := r.get h2
  have hl := r.length
  have hn := line63
  have fin : EP X pins σ Q w s := ⟨z, H, I, rw', q⟩
  exact subscriptTail_builtinR (x := w) pl.typeIs slot_tuple_getitem.lookup
    (getItem_tuple (j := j) (Q := fun r s' => r = w ∧ EP X pins σ Q r s') pl (by omega) (by omega) (by rw [List.size_toArray, ← hl]; exact h1) (by simpa using ew) ⟨rfl, fin⟩) hs
/-! ### xs[i] = v, any sign -/
/-- the list's object behind a store -/
theorem mapSeq_set (its : List Value) (n j : Nat) (u : Value) : Obj.mapSeq (·.setIfInBounds j u) { cls := .type "list", data := .seq its.toArray n } = { cls := .type "list", data := .seq (its.set j u).toArray n } := by
  simp [Obj.mapSeq]
theorem Inv.lst {pins : List (Addr × Obj)} {σ : St} {H : Hp} {s : Shared} {p : Addr} {xs : List V} (I : Inv X pins σ H s) (h : H p = some (.lst xs)) :
    ∃ (its : List Value) (n : Nat), Vals xs its ∧ s.heap.get? p = some { cls := .type "list", data := .seq its.toArray n } ∧ xs.length ≤ sizeLine := by
  obtain ⟨z, its, n, r, e⟩ := I.hok p _ h
  exact ⟨its, n, r, e, z⟩
/-- the list at p is written by an update of its object -/
theorem Inv.lstUpd {pins : List (Addr × Obj)} {σ : St} {H : Hp} {s : Shared} {p : Addr} {xs ys : List V} {its its' : List Value} {n n' : Nat} {f : Obj → Obj} (I : Inv X pins σ H s) (h : H p = some (.lst xs))
    (ho : s.heap.get? p = some { cls := .type "list", data := .seq its.toArray n }) (hf : f { cls := .type "list", data := .seq its.toArray n } = { cls := .type "list", data := .seq its'.toArray n' }) (r : Vals ys its') (hz : ys.length ≤ sizeLine) (t : Nat) :
    Inv X pins σ (upd H p (.lst ys)) { s with heap := s.heap.update p f, toks := t } := by
  have e : (s.heap.update p f).get? p = some { cls := .type "list", data := .seq its'.toArray n' } := by
    rw [Heap.get?_update_self f ho (by rw [hf] <;> rfl), hf]
  refine I.write (x := p) (e := p) (by rw [h]; trivial) (.inl rfl) (fun b u hb q => (Heap.get?_update_other _ _ (Ne.symm hb)).trans q) ⟨_, e⟩ ?_
  exact ⟨hz, its', n', r, e⟩
def rSetL : V → V → V → Hp → (Hp → Prop) → Prop := fun o i v H Q => ∃ p xs k j, o = .ref p ∧ i = .int k ∧ H p = some (.lst xs) ∧ ixN xs.length k = some j ∧ Q (upd H p (.lst (xs.set j v)))
theorem set_list : PSet X rSetL := by
  intro pins s σ H o i v ov iv u Q I ro ri rv h
  obtain ⟨p, xs, k, j, rfl, rfl, hp, hj, q⟩ := h
  cases ro
  obtain ⟨t, rfl⟩ := ri
  obtain ⟨its, n, r, ho, hz⟩ := I.lst hp
  obtain ⟨h1, h2, h3, h4⟩ := ixN_seq hj
  have hl := r.length
  have hn := line63
  have I' : Inv X pins σ (upd H p (.lst (xs.set j v))) { s with heap := s.heap.update p (Obj.mapSeq (·.setIfInBounds j u)) } :=
    I.lstUpd hp ho (mapSeq_set its n j u) (r.set rv j) (by rw [List.length_set]; exact hz) s.toks
  by_cases h0 : 0 ≤ k
  · have hk : k.toNat = j := by
      rw [seqIndex_of h0 h4] at h1
      exact Option.some.inj h1
    exact PySem.W.ki_setAt ho h0 (by omega) (by rw [List.size_toArray, ← hl]; exact h4) (by rw [hk]; exact ⟨_, I', q⟩)
  · have hk : (k + (its.toArray.size : Int)).toNat = j := by
      rw [seqIndex_neg (by omega) h3] at h1
      rw [List.size_toArray, ← hl]
      exact Option.some.inj h1
    exact PySem.W.ki_setBack ho (by omega) (by rw [List.size_toArray, ← hl]; exact h3) (by omega) (by rw [hk]; exact ⟨_, I', q⟩)

/-! ### slices -/
theorem slice_bounds (lo hi : Option Int) (n : Nat) : (sliceBounds lo hi none n).1 = ((HT.sIx n 0 lo : Nat) : Int) ∧ (sliceBounds lo hi none n).2.1 = ((HT.sIx n n hi : Nat) : Int) ∧ (sliceBounds lo hi none n).2.2 = 1 := by
  refine ⟨?_, ?_, rfl⟩
  · cases lo with
    | none => simp [sliceBounds, HT.sIx]
    | some i =>
      simp only [sliceBounds, HT.sIx, Option.getD_none, show (1 : Int) > 0 by decide, if_true]
      by_cases h : i < 0
      · simp only [h, if_true] <;> omega
      · simp only [h, if_false] <;> omega
  · cases hi with
    | none => simp [sliceBounds, HT.sIx]
    | some i =>
      simp only [sliceBounds, HT.sIx, Option.getD_none, show (1 : Int) > 0 by decide, if_true]
      by_cases h : i < 0
      · simp only [h, if_true] <;> omega
      · simp only [h, if_false] <;> omega
theorem slicePick_cut (its : List Value) (lo hi : Option Int) : slicePick its.toArray lo hi none = ((its.drop (HT.sIx its.length 0 lo)).take (HT.sIx its.length its.length hi - HT.sIx its.length 0 lo)).toArray := by
  obtain ⟨h1, h2, h3⟩ := slice_bounds lo hi its.toArray.size
  unfold slicePick
  rw [h1, h2, h3]
  simp only [sliceRange_one, pick_run, List.size_toArray] <;> rfl
/-- xs[lo:hi] of a list: a new list -/
def rSlL (K : PySem.W.Frag) : V → Option Int → Option Int → Hp → VK → Prop := fun x lo hi H Q => ∃ a xs, x = .ref a ∧ SqL K H a xs ∧ ∀ p, H p = none → Q (.ref p) (upd H p (.lst (cutV xs lo hi)))
theorem sl_list : SlR X (rSlL X.K) := by
  intro pins s σ H x v vl vu lo hi sl Q I rx hs pl pu h
  obtain ⟨a, xs, rfl, hx, q⟩ := h
  cases rx
  obtain ⟨its, r, ht, hz⟩ := I.list hx
  have hlen := r.length
  refine ⟨"list", _, slot_list_getitem.lookup, ht.isList.typeIs, ?_⟩
  refine wpAny_getItem_list_slice ht.isList hs pl pu .none (by simp) ?_ (by rw [List.size_toArray] <;> omega)
  rw [slicePick_cut, ← hlen]
  refine ⟨.ref s.heap.objs.size, _, I.laid (t' := s.toks) (o := .lst (cutV xs lo hi)) (fun b ob q => Heap.get?_push_of_some _ q) (Nat.le_refl _) ?_, rfl, q _ (I.hok.fresh (Nat.le_refl _))⟩
  exact ⟨Nat.le_trans (cutV_length xs lo hi) hz, _, 0, (r.drop (HT.sIx xs.length 0 lo)).take (HT.sIx xs.length xs.length hi - HT.sIx xs.length 0 lo), Heap.get?_push_size _ rfl⟩

/-! ### in, not in: flat items -/
def flatV : V → Bool
  | .non => true
  | .bl _ => true
  | .int _ => true
  | .str _ => true
  | _ => false
/-- == of flat values -/
def eqV : V → V → Bool
  | .non, .non => true
  | .bl a, .bl b => a == b
  | .bl a, .int b => (if a then 1 else 0) == b
  | .int a, .bl b => a == (if b then 1 else 0)
  | .int a, .int b => a == b
  | .str a, .str b => a == b
  | _, _ => false
theorem eqAt_V {A : Around} {s : Shared} {y x : V} {u v : Value} (ry : RelV y u) (rx : RelV x v) (fy : flatV y = true) (fx : flatV x = true) : SeqAt.EqAt A s u v (eqV y x) := by
  cases y with
  | non =>
    cases ry
    cases x with
    | non => cases rx; exact SeqAt.EqAt.same _
    | bl b => cases rx; exact SeqAt.EqAt.none_bool b
    | int b => obtain ⟨t, rfl⟩ := rx; exact SeqAt.EqAt.none_int b t
    | str b => obtain ⟨t, rfl⟩ := rx; exact SeqAt.EqAt.none_str b t
    | _ => exact absurd (show false = true from fx) Bool.false_ne_true
  | bl a =>
    cases ry
    cases x with
    | non => cases rx; exact SeqAt.EqAt.bool_none a
    | bl b => cases rx; exact SeqAt.EqAt.bool_bool a b
    | int b => obtain ⟨t, rfl⟩ := rx; exact SeqAt.EqAt.bool_int a b t
    | str b => obtain ⟨t, rfl⟩ := rx; exact SeqAt.EqAt.bool_str a b t
    | _ => exact absurd (show false = true from fx) Bool.false_ne_true
  | int a =>
    obtain ⟨t', rfl⟩ := ry
    cases x with
    | non => cases rx; exact SeqAt.EqAt.int_none a t'
    | bl b => cases rx; exact SeqAt.EqAt.int_bool a t' b
    | int b => obtain ⟨t, rfl⟩ := rx; exact SeqAt.EqAt.int_int a t' b t
    | str b => obtain ⟨t, rfl⟩ := rx; exact SeqAt.EqAt.int_str a t' b t
    | _ => exact absurd (show false = true from fx) Bool.false_ne_true
  | str a =>
    obtain ⟨t', rfl⟩ := ry
    cases x with
    | non => cases rx; exact SeqAt.EqAt.str_none a t'
    | bl b => cases rx; exact SeqAt.EqAt.str_bool a t' b
    | int b => obtain ⟨t, rfl⟩ := rx; exact SeqAt.EqAt.str_int a t' b t
    | str b => obtain ⟨t, rfl⟩ := rx; exact SeqAt.EqAt.str_str a t' b t
    | _ => exact absurd (show false = true from fx) Bool.false_ne_true
  | _ => exact absurd (show false = true from fy) Bool.false_ne_true
/-- the items' answers, read off the values (a value's own answer does not lean on its token) -/
def eqU (x : V) (u : Value) : Bool := match u with
  | .none => eqV .non x
  | .bool b => eqV (.bl b) x
  | .int i _ => eqV (.int i) x
  | .str z _ => eqV (.str z) x
  | _ => false
theorem eqU_of {x y : V} {u : Value} (r : RelV y u) (f : flatV y = true) : eqU x u = eqV y x := by
  cases y with
  | non => cases r; rfl
  | bl b => cases r; rfl
  | int i => obtain ⟨t, rfl⟩ := r; rfl
  | str z => obtain ⟨t, rfl⟩ := r; rfl
  | _ => exact absurd (show false = true from f) Bool.false_ne_true
theorem any_eqU {x : V} : ∀ {xs : List V} {us : List Value}, Vals xs us → xs.all flatV = true → us.any (eqU x) = xs.any fun y => eqV y x
  | _, _, .nil, _ => rfl
  | y :: xs, u :: us, .cons r t, f => by
    rw [List.all_cons, Bool.and_eq_true] at f
    rw [List.any_cons, List.any_cons, eqU_of r f.1, any_eqU t f.2]
theorem mem_eqAt {A : Around} {s : Shared} {x : V} {v : Value} (rx : RelV x v) (fx : flatV x = true) : ∀ {xs : List V} {us : List Value}, Vals xs us → xs.all flatV = true → ∀ u ∈ us, SeqAt.EqAt A s u v (eqU x u)
  | _, _, .nil, _ => fun u hu => by cases hu
  | y :: xs, u :: us, .cons r t, f => fun u' hu => by
    rw [List.all_cons, Bool.and_eq_true] at f
    rcases List.mem_cons.mp hu with rfl | hu
    · rw [eqU_of r f.1]; exact eqAt_V r rx f.1 fx
    · exact mem_eqAt rx fx t f.2 u' hu
def inV (x : V) (xs : List V) : Bool := xs.any fun y => eqV y x
/-- x in a list or tuple of flat items -/
def rIn (K : PySem.W.Frag) (neg : Bool) : R2 := fun x y H Q => ∃ p xs, y = .ref p ∧ (SqL K H p xs ∨ SqT K H p xs) ∧ flatV x = true ∧ xs.all flatV = true ∧ Q (.bl (if neg then !inV x xs else inV x xs)) H
theorem op_in_seq : OpR X (compareOp .In) (rIn X.K false) := by
  intro pins s σ H x y v u Q I rx ry h
  obtain ⟨p, xs, rfl, hq, fx, fs, q⟩ := h
  cases ry
  rcases hq with hq | hq
  · obtain ⟨its, r, pl, hz⟩ := I.list hq
    refine SeqAt.in_listAt (eqU x) pl.isList (fun w hw => mem_eqAt rx fx r fs w (by simpa using hw)) ⟨.bl _, H, I, rfl, ?_⟩
    rw [show its.toArray.any (eqU x) = its.any (eqU x) by simp, any_eqU r fs]
    exact q
  · obtain ⟨its, r, pl, hz⟩ := I.tuple hq
    refine SeqAt.in_tupleAt (eqU x) pl (fun w hw => mem_eqAt rx fx r fs w (by simpa using hw)) ⟨.bl _, H, I, rfl, ?_⟩
    rw [show its.toArray.any (eqU x) = its.any (eqU x) by simp, any_eqU r fs]
    exact q
/-! ### len, list(x), tuple(x) of any list or tuple that is read -/
theorem call_len_seq : CallR X (.builtin "len") (fun xs H Q => ∃ p ys, xs = [.ref p] ∧ (SqL X.K H p ys ∨ SqT X.K H p ys) ∧ Q (.int ys.length) H) := by
  intro pins s σ H xs us Q I r h
  obtain ⟨p, ys, rfl, hq, q⟩ := h
  obtain ⟨u, rfl, rx⟩ := vals1 r
  cases rx
  have hn := line63
  rcases hq with hq | hq
  · obtain ⟨its, r', pl, hz⟩ := I.list hq
    have hlen := r'.length
    exact Calls.call_len_list pl.isList (by simp only [List.size_toArray] <;> omega) ⟨.int ys.length, H, I.tok _, ⟨s.toks + 1, by rw [List.size_toArray, hlen]⟩, q⟩
  · obtain ⟨its, r', pl, hz⟩ := I.tuple hq
    have hlen := r'.length
    exact len_tuple pl (by simp only [List.size_toArray] <;> omega) ⟨.int ys.length, H, I.tok _, ⟨s.toks + 1, by rw [List.size_toArray, hlen]⟩, q⟩
theorem CallR.or {f : Value} {r r' : List V → Hp → VK → Prop} (h : CallR X f r) (h' : CallR X f r') : CallR X f (fun xs H Q => r xs H Q ∨ r' xs H Q) := by
  intro pins s σ H xs us Q I rs q
  rcases q with q | q
  · exact h pins s σ H xs us Q I rs q
  · exact h' pins s σ H xs us Q I rs q
theorem call_tuple_of : CallR X (.type "tuple") (fun xs H Q => ∃ p ys, xs = [.ref p] ∧ ((SqL X.K H p ys ∧ ∀ l, H l = none → Q (.ref l) (upd H l (.tup ys))) ∨ (SqT X.K H p ys ∧ Q (.ref p) H))) := by
  intro pins s σ H xs us Q I r h
  obtain ⟨p, ys, rfl, h⟩ := h
  obtain ⟨u, rfl, rx⟩ := vals1 r
  cases rx
  rcases h with ⟨hq, q⟩ | ⟨hq, q⟩
  · obtain ⟨its, r', pl, hz⟩ := I.list hq
    have hlen := r'.length
    refine call_tuple_list pl.isList (fun h' kp => ?_) (by simp only [List.size_toArray] <;> omega)
    have I1 : Inv X pins σ H { s with heap := h' } := I.kept (t' := s.toks) kp
    have I2 : Inv X pins σ (upd H h'.objs.size (.tup ys)) { s with heap := h'.push { cls := .type "tuple", data := .seq its.toArray } } :=
      I1.laid (t' := s.toks) (fun b o e => Heap.get?_push_of_some _ e) (Nat.le_refl _) (show ObjOk X.prog X.w _ _ _ (.tup ys) from ⟨hz, its, r', IsTup.new _ _⟩)
    exact ⟨.ref h'.objs.size, _, I2, rfl, q _ (I1.hok.fresh (Nat.le_refl _))⟩
  · obtain ⟨its, r', pl, hz⟩ := I.tuple hq
    exact call_tuple_same pl ⟨.ref p, H, I, rfl, q⟩

/-! ### the call of a builtin's method: o.m(..) -/
/-- the value is of that builtin type -/
def tyV (K : PySem.W.Frag) (T : String) (x : V) (H : Hp) : Prop := match x with
  | .str _ => T = "str"
  | .int _ => T = "int"
  | .ref p => (T = "list" ∧ ∃ xs, SqL K H p xs) ∨ (T = "tuple" ∧ ∃ o, K.lookup p = some o ∧ o.cls = .type "tuple" ∧ o.dict = none) ∨
      (T = "dict" ∧ ((∃ kvs, H p = some (.dK kvs)) ∨ ∃ kvs, H p = some (.dT kvs))) ∨ (T = "set" ∧ ∃ S n, H p = some (.set S n))
  | _ => False
theorem tyV_is {pins : List (Addr × Obj)} {σ : St} {H : Hp} {s : Shared} {T : String} {x : V} {v : Value} (I : Inv X pins σ H s) (r : RelV x v) (ty : tyV X.K T x H) :
    s.TypeIs v T ∧ ∀ a, v = .ref a → ∃ ob, s.heap.get? a = some ob ∧ ob.dict = none := by
  cases x with
  | str z =>
    obtain ⟨t, rfl⟩ := r
    cases (show T = "str" from ty)
    exact ⟨typeIs_str s z t, fun _ e => nomatch e⟩
  | int i =>
    obtain ⟨t, rfl⟩ := r
    cases (show T = "int" from ty)
    exact ⟨typeIs_int s i t, fun _ e => nomatch e⟩
  | ref p =>
    cases r
    rcases ty with ⟨rfl, xs, hq⟩ | ⟨rfl, o, hk, hc, hd⟩ | ⟨rfl, hk⟩ | ⟨rfl, S, n, hk⟩
    · obtain ⟨its, _, pl, _⟩ := I.list hq
      refine ⟨pl.isList.typeIs, fun a e => ?_⟩
      cases e
      obtain ⟨o, n, e, c, hd, _⟩ := pl
      exact ⟨o, e, hd⟩
    · refine ⟨⟨o, I.kIn p o hk, hc⟩, fun a e => ?_⟩
      cases e
      exact ⟨o, I.kIn _ o hk, hd⟩
    · have z : ∃ o, s.heap.get? p = some o ∧ o.ExactDict := by
        rcases hk with ⟨kvs, hk⟩ | ⟨kvs, hk⟩
        · obtain ⟨_, _, _, _, o, _, _, e, ex, _⟩ := I.hok p _ hk
          exact ⟨o, e, ex⟩
        · obtain ⟨_, _, _, _, o, _, _, e, ex, _⟩ := I.hok p _ hk
          exact ⟨o, e, ex⟩
      obtain ⟨o, e, ex⟩ := z
      refine ⟨⟨o, e, ex.1⟩, fun a e2 => ?_⟩
      cases e2
      exact ⟨o, e, ex.2.1⟩
    · obtain ⟨o, _, _, _, e, ex, _⟩ := I.hok p _ hk
      refine ⟨⟨o, e, ex.1⟩, fun a e2 => ?_⟩
      cases e2
      exact ⟨o, e, ex.2.1⟩
  | _ => exact False.elim ty
def tBM (K : PySem.W.Frag) (T : String) (r : V → List V → Hp → VK → Prop) (to : TE) (t : TA) : TE := fun σ H Q => to σ H fun x H1 => tyV K T x H1 ∧ t σ H1 fun xs H2 => r x xs H2 Q
variable {o e : Expr} {es : List Expr} {to : TE} {t : TA} {name : Str} {apos cpos : Pos} {T id : String} {r : V → List V → Hp → VK → Prop}
theorem pe_bm (pa : PlainAttrs T) (slot : Slot T name id) (hty : typeOf (.builtin id) = pure (.type "method_descriptor")) (hm : MtR X id r) (ho : PE X o to) (ha : PA X (e :: es) t)
    (hbase : attributeBase o name X.env (eval o X.env) = eval o X.env := by rfl)
    (hfew : ((backTo cpos (starEach (e :: es) X.env)).all (fun x => !x.1) && (backToKw cpos (keywordEach [] X.env)).all (fun x => x.1.isSome)
      && decide ((e :: es).length + ([] : List Keyword).length + (if ([] : List Keyword).isEmpty then 0 else 1) < 30)) = true := by rfl)
    (hline : (apos.endLine == cpos.line) = true := by rfl) (hs : starEach (e :: es) X.env = (false, eval e X.env) :: starEach es X.env := by rfl) (hplain : (backTo cpos (starEach es X.env)).any (·.1) = false := by rfl) :
    PE X (.Call (.Attribute o name apos) (e :: es) [] cpos) (tBM X.K T r to t) := by
  intro pins s σ H Q I h
  refine wpAny_Call_method_late hbase hfew hline rfl (thn (ho pins s σ H _ I h) fun v s1 ⟨x, H1, I1, r1, ty, q1⟩ => ?_)
  obtain ⟨h1, h2⟩ := tyV_is I1 r1 ty
  refine ⟨T, id, pa, slot, hty, h1, h2, ?_⟩
  have hA := ha cpos pins s1 σ H1 _ I1 q1
  rw [hs] at hA ⊢
  refine Calls.callWith_builtin (by show (false || (backTo cpos (starEach es X.env)).any (·.1)) = false; rw [hplain] <;> rfl) (Calls.evalArgs_plain ?_)
  exact thn hA fun us s2 ⟨vs, H2, I2, r2, q2⟩ => hm pins s2 σ H2 x vs v us Q I2 r1 r2 q2
/- xs.append(e), list.index on a module's tuple .. are MtR facts of 06m -/
end
end L2

namespace L2
open PySem PySem.Spec PyProof.Rows

def MtM (X : Cx) (id : String) (r : V → List V → Hp → VK → Prop) : Prop :=
  ∀ (pins : List (Addr × Obj)) (s : Shared) (σ : St) (H : Hp) (x : V) (xs : List V) (v : Value) (us : List Value) (Q : VK), Inv X pins σ H s → RelV x v → Vals xs us → r x xs H Q →
    wpAny (model X.prog X.w) X.A (call (.builtin id) (v :: us)) (EP X pins σ Q) X.xe s

/-! ### lists of values -/
theorem Vals.one : ∀ {x : V} {us : List Value}, Vals [x] us → ∃ u, us = [u] ∧ RelV x u
  | _, _, .cons r .nil => ⟨_, rfl, r⟩
theorem Vals.two : ∀ {x y : V} {us : List Value}, Vals [x, y] us → ∃ u v, us = [u, v] ∧ RelV x u ∧ RelV y v
  | _, _, _, .cons r (.cons q .nil) => ⟨_, _, rfl, r, q⟩
theorem Vals.zero : ∀ {us : List Value}, Vals [] us → us = []
  | _, .nil => rfl
theorem Vals.dropLast {xs : List V} {us : List Value} (h : Vals xs us) : Vals xs.dropLast us.dropLast := by
  induction h with
  | nil => exact .nil
  | cons r t ih =>
    cases t with
    | nil => exact .nil
    | cons q t' => exact .cons r ih
theorem Vals.reverse {xs : List V} {us : List Value} (h : Vals xs us) : Vals xs.reverse us.reverse := by
  induction h with
  | nil => exact .nil
  | cons r t ih => rw [List.reverse_cons, List.reverse_cons]; exact Vals.append ih (.cons r .nil)
theorem Vals.rep {xs : List V} {us : List Value} (h : Vals xs us) : ∀ k : Nat, Vals (List.replicate k xs).flatten (List.replicate k us).flatten
  | 0 => .nil
  | k + 1 => by
    rw [List.replicate_succ, List.replicate_succ, List.flatten_cons, List.flatten_cons]
    exact Vals.append h (Vals.rep h k)
theorem foldl_rep (its : List Value) : ∀ (k : Nat) (acc : List Value),
    List.foldl (fun x1 x2 => x1 ++ x2) acc.toArray (List.replicate k its.toArray) = (acc ++ (List.replicate k its).flatten).toArray
  | 0, acc => by simp
  | k + 1, acc => by
    have e : acc.toArray ++ its.toArray = (acc ++ its).toArray := by simp
    have e2 : (acc ++ its) ++ (List.replicate k its).flatten = acc ++ (List.replicate (k + 1) its).flatten := by
      rw [List.replicate_succ, List.flatten_cons, List.append_assoc]
    rw [← e2, ← foldl_rep its k (acc ++ its), ← e, List.replicate_succ, List.foldl_cons]

section
variable {X : Cx} {pins : List (Addr × Obj)} {σ : St} {H : Hp} {s : Shared} {l b : Addr} {xs ys zs : List V}

/-! ### the two steps: a tracked list is rewritten, a new list is laid -/
theorem Inv.lset {its its' : List Value} {n : Nat} {f : Array Value → Array Value} {t' : Nat} (I : Inv X pins σ H s) (hH : H l = some (.lst xs))
    (e : s.heap.get? l = some { cls := .type "list", data := .seq its.toArray n }) (hf : f its.toArray = its'.toArray) (hv : Vals ys its') (hz : ys.length ≤ sizeLine) :
    Inv X pins σ (upd H l (.lst ys)) { s with heap := s.heap.update l (Obj.mapSeq f), toks := t' } := by
  have q := PySem.IsL.update e f
  rw [hf] at q
  refine I.write (x := l) (e := l) (by rw [hH]; exact trivial) (.inl rfl) (fun b' u hb hu => (Heap.get?_update_other s.heap (Obj.mapSeq f) (Ne.symm hb)).trans hu) ⟨_, q⟩ ?_
  exact ⟨hz, its', _, hv, q⟩
theorem Inv.lnew {its : List Value} {t' : Nat} (I : Inv X pins σ H s) (hv : Vals ys its) (hz : ys.length ≤ sizeLine) :
    Inv X pins σ (upd H s.heap.objs.size (.lst ys)) { s with heap := s.heap.push { cls := .type "list", data := .seq its.toArray }, toks := t' } :=
  I.laid (fun _ _ q => Heap.get?_push_of_some _ q) (Nat.le_refl _) ⟨hz, its, 0, hv, Heap.get?_push_size _ rfl⟩
theorem Inv.fresh (I : Inv X pins σ H s) : H s.heap.objs.size = none := I.hok.fresh (Nat.le_refl _)
theorem Inv.lstM (I : Inv X pins σ H s) (hH : H l = some (.lst xs)) : xs.length ≤ sizeLine ∧ ∃ (its : List Value) (n : Nat), Vals xs its ∧ xs.length = its.length ∧ s.heap.get? l = some { cls := .type "list", data := .seq its.toArray n } := by
  obtain ⟨z, its, n, r, e⟩ := I.hok l _ hH
  exact ⟨z, its, n, r, r.length, e⟩

end

section
variable {X : Cx}

/-! ### methods -/
def rAppend : V → List V → Hp → VK → Prop := fun x vs H Q => ∃ l xs y, x = .ref l ∧ vs = [y] ∧ H l = some (.lst xs) ∧ xs.length < sizeLine ∧ Q .non (upd H l (.lst (xs ++ [y])))
theorem mt_append : MtM X "list.append" rAppend := by
  intro pins s σ H x vs v us Q I rx rv h
  obtain ⟨l, xs, y, rfl, rfl, hH, hz, q⟩ := h
  cases rx
  obtain ⟨u, rfl, ru⟩ := rv.one
  obtain ⟨z, its, n, r, hl, e⟩ := I.lstM hH
  refine call_meets F.slot_list_append ⟨_, e, rfl⟩ F.entry_list_append (F.args_list_append_2 _ _) (PySem.list_append l its.toArray n u (by rw [List.size_toArray]; omega)) ⟨e, ?_⟩
  refine ⟨.non, _, I.lset (its' := its ++ [u]) hH e (by simp) (r.append (.cons ru .nil)) ?_, rfl, q⟩
  rw [List.length_append, List.length_singleton]
  omega

/-! ### list + list, list += list, list * int -/
theorem len_rep {α : Type} (xs : List α) (k : Nat) : (List.replicate k xs).flatten.length = k * xs.length := by
  induction k with
  | zero => simp
  | succ k ih => rw [List.replicate_succ, List.flatten_cons, List.length_append, ih, Nat.succ_mul, Nat.add_comm]
/-! ### del xs[i] -/
end

/-! ### xs[a:b] = ys -/
section
variable {prog : Program} {w : World} {A : Around} {E : Value → Shared → Prop} {s : Shared}
end

section
variable {X : Cx}
end
end L2

namespace Att
open PySem PySem.W PySem.Calls PyProof.Rows

/-! ### the script -/
theorem ints_of_wellAll {P : Params} {h : Heap} : ∀ (ns : List Int) (vs : List Value), WellAll P h vs (ns.map WData.int) → IntsAre vs ns := by
  intro ns
  induction ns with
  | nil =>
    intro vs w
    rw [List.map_nil] at w
    cases w
    exact .nil
  | cons n ns ih =>
    intro vs w
    rw [List.map_cons] at w
    cases w with
    | cons a b =>
      cases a
      exact .cons _ _ (ih _ b)

theorem script_of {l : OpenLaw} {n : Nat} (hn : l.most = some n) {P : Params} {h : Heap} {args : List WData} {vals : List Value}
    (hpre : l.row.toRowW.claim.pre args = true) (hwl : WellAll P h vals args) :
    ∃ a vs ns, vals = [Value.ref a] ∧ args = [WData.list (ns.map WData.int)] ∧ h.get? a = some { cls := .type "list", data := .seq vs.toArray } ∧ IntsAre vs ns ∧ ns.length ≤ n := by
  have hsh : WShape.hasAll [] args [.list .int] = true := (pre_splitW hpre).1
  have hc : l.pre.holds [] { args := args } = true := (pre_splitW hpre).2
  obtain ⟨d, r, rfl, h1, h2⟩ := hasAllW_cons hsh
  obtain rfl := hasAllW_nil h2
  obtain ⟨xs, rfl, h3⟩ := hasW_list h1
  obtain ⟨ns, rfl⟩ := items_int h3
  have hlen : ns.length ≤ n := by
    unfold OpenLaw.pre at hc
    have h4 : (WTm.not (.lt (.lit (.int (n : Int))) (.len (.arg 0)))).holds [] { args := [.list (ns.map .int)] } = true := by
      have h4 := (holds_andW hc).1
      rw [hn] at h4
      exact h4
    have h5 := condW_of h4 (w_not (w_lt w_lit (w_len_list (w_arg rfl))))
    rw [List.length_map] at h5
    refine Nat.le_of_not_lt fun q => ?_
    have q' : (n : Int) < ((ns.length : Nat) : Int) := by omega
    first
      | (rw [decide_eq_true q'] at h5; exact absurd h5 (by decide))
      | (simp at h5; omega)
  cases hwl with
  | cons w1 w2 =>
    cases w2
    cases w1 with
    | list ho hall => exact ⟨_, _, ns, rfl, rfl, ho, ints_of_wellAll ns _ hall, hlen⟩

theorem post_true (l : OpenLaw) (args : List WData) : l.row.toRowW.claim.post args (.bool true) args = true :=
  postW_of (r := l.row.toRowW) (X := (true == true))
    (show WShape.has [] (.bool true) .bool = true by first | rfl | decide | simp [WShape.has, WShape.arms, WShape.armsAll])
    (show (WTm.eq .res (.lit (.bool true))).value [] { args := args, res := some (.bool true), after := args } = some (.bool (true == true)) from w_eq_bool (w_res rfl) w_lit) rfl

/-! ### the attachment: holds_open's last premise (the goal 'hc' behind k_head) from a wpAny of the law's body -/
/-- the same from a codeAny of the CALL (for a layer whose function contracts speak of calls) -/
theorem attach_call {l : OpenLaw} {n : Nat} {q : Program} {loose : List Str} {XP : (Str → Option Value) → Heap → Prop} {YP : World → Heap → Prop} {d : DefRec}
    (hn : l.most = some n) (hdf : d.params.defaults = [])
    (call : ∀ (w : World) (s₀ s₁ : Shared) (mg mb : Str → Option Value) (fa : Addr) (o : Obj) (pm cd doc : Value) (a : Addr) (vs : List Value) (ns : List Int),
      Ground q loose [] XP w s₀ mg mb s₁.heap → YP w s₁.heap →
      s₁.heap.get? fa = some o → o.data = .func (docDef d.name d.params d.body d.scope pm cd doc) → s₁.heap.CodeRec cd d.name → mg d.name = some (.ref fa) →
      s₁.heap.get? a = some { cls := .type "list", data := .seq vs.toArray } → IntsAre vs ns → ns.length ≤ n → s₁.gens = #[] →
      codeAny (model l.prog w) callerA (.call (.ref fa) ⟨[.ref a], []⟩) (fun r s' => r = .ok (.ret (.bool true)) ∧ OldK s₁.heap s'.heap ∧ s'.os = s₁.os ∧ AllBare s'.gens) s₁) :
    WalkO q loose XP YP l.row.toRowW d [] (fun f vs => PySem.call f vs) := by
  intro w s₀ s₁ mg mb G Y fa o pm cd doc dV kV ho hd hcd hD hmg hg args vals as hpre hlay hrd hwl hlo
  obtain rfl : dV = .none := Dflts.none hD hdf
  obtain rfl : kV = .none := Dflts.noKw hD
  obtain ⟨a, vs, ns, rfl, rfl, hobj, hints, hlen⟩ := script_of hn hpre hwl
  refine enter_call (codeAny_mono (call w s₀ s₁ mg mb fa o pm cd doc a vs ns G Y ho (fd_plain hd) hcd hmg hobj hints hlen hg) fun r s' hq => ?_)
  obtain ⟨rfl, h2, h3, h4⟩ := hq
  exact ⟨.inl ⟨.bool true, .bool true, [], rfl, fun _ => rfl, .bool true, post_true l _, fun _ => ⟨List.Pairwise.nil, fun _ hm => (nomatch hm)⟩⟩, h2, h3, h4⟩

/-! ### rules over ANY heap (no ledger) from facts about the written part K: the library's own take a ledger (News) for what they write -/
section
variable {prog : Program} {w : World} {A : Around} {E : Value → Shared → Prop} {s : Shared} {K : Frag}

/-! the whole heap as the ledger: makes every rule that writes through a ledger a rule over any heap -/
end
end Att

namespace L2
open PySem PySem.Spec PyProof.Rows

theorem vals_ints : ∀ {vs : List Value} {ns : List Int}, IntsAre vs ns → Vals (ns.map V.int) vs
  | _, _, .nil => .nil
  | _, _, .cons n t h => .cons ⟨t, rfl⟩ (vals_ints h)

/-- nothing is tracked but the script, known to the object (or it is an object of the module) -/
def Only (H : Hp) : Prop := ∀ b, H b = none ∨ ∃ o xs, H b = some (.frz o (.lst xs))

/-- THE HEAD: the law's promise, at the heap behind the top. F, the promise of the law's def, may use that base is part of the heap (so K.In base, base.Ns mainGlobals mg stand in Mod) -/
theorem law_call {P : Program} {w : World} {K : PySem.W.Frag} {mg mb : Str → Option Value} {CX : CXT} {k : Nat} {fa a : Addr} {fd : FuncData} {x : Str} {sp : Sp} {s₁ : Shared} {vs : List Value} {ns : List Int}
    (KX : K.In s₁.heap) (hns : s₁.heap.Ns mainGlobals mg) (hb : s₁.heap.Ns builtinsNs mb) (hbb : ∀ x : Str, x ≠ "__name__" → mb x = bootBuiltins x) (hlim : s₁.heap.NoLimit) (hg : s₁.gens = #[])
    (ha : s₁.heap.get? a = some { cls := .type "list", data := .seq vs.toArray }) (hi : IntsAre vs ns) (hl : ns.length ≤ sizeLine) (hr : Room k callerA)
    (F : ∀ base : Heap, K.In base → base.Ns mainGlobals mg → FnOk P w K mg base CX k fa fd [x] sp) (hbind : ∀ (s : Shared) (u : Value), BindsTo s fd ⟨[u], []⟩ [(x, u)])
    (hsp : ∀ H : Hp, Only H → SqL K H a (ns.map V.int) → sp [.ref a] H (fun v _ => v = .bl true) fun _ _ _ => False)
    (hCX : ∀ H e s', CX [] H s₁ (fun _ _ _ => False) e s' → False) :
    codeAny (model P w) callerA (.call (.ref fa) ⟨[.ref a], []⟩) (fun r s' => r = .ok (.ret (.bool true)) ∧ OldK s₁.heap s'.heap ∧ s'.os = s₁.os ∧ AllBare s'.gens) s₁ := by
  have rv := vals_ints hi
  have lenV := hi.length
  -- from an abstract heap in which nothing but the script may be tracked
  have core : ∀ H : Hp, Only H → SqL K H a (ns.map V.int) → HOk P w H s₁.heap → (∀ b, H b ≠ none → b = a) → (H a ≠ none → K.lookup a = none) →
      codeAny (model P w) callerA (.call (.ref fa) ⟨[.ref a], []⟩) (fun r s' => r = .ok (.ret (.bool true)) ∧ OldK s₁.heap s'.heap ∧ s'.os = s₁.os ∧ AllBare s'.gens) s₁ := by
    intro H hO hS hok hA hK
    have base_of : ∀ {b : Addr} {o : Obj}, s₁.heap.get? b = some o → H b = none → (hidT s₁.heap H).get? b = some o := fun e n => hidT_get e n
    have noA : ∀ {b : Addr} {o : Obj} {es : Array DictEntry} {ep : Nat}, s₁.heap.get? b = some o → o.data = .dict es ep → H b = none := fun {b o es ep} e d => by
      cases q : H b with
      | none => rfl
      | some u =>
        have e' : b = a := hA b (by rw [q]; simp)
        subst e'
        rw [ha] at e; cases e
        have d' : Data.seq vs.toArray _ = Data.dict es ep := d
        cases d'
    have nsK : ∀ {b : Addr} {m : Str → Option Value}, s₁.heap.Ns b m → (hidT s₁.heap H).Ns b m := fun {b m} ⟨o, es, ep, e, d, r⟩ => ⟨o, es, ep, base_of e (noA e d), d, r⟩
    have hKb : K.In (hidT s₁.heap H) := fun b o e => base_of (KX b o e) (by
      cases q : H b with
      | none => rfl
      | some u =>
        have e' : b = a := hA b (by rw [q]; simp)
        subst e'
        rw [hK (by rw [q]; simp)] at e; cases e)
    have hM : Mod K mg (hidT s₁.heap H) := ⟨hKb, nsK hns, ⟨mb, nsK hb, hbb⟩, let ⟨mc, h1, h2⟩ := hlim; ⟨mc, nsK h1, h2⟩⟩
    have e0 : Env0 P w K mg (hidT s₁.heap H) callerA [] s₁ H := ⟨rfl, hM, fun b o e => of_hidT e, Nat.le_of_eq (hidT_size _ _), trivial, fun b hb => absurd (show b ∈ ([] : List Addr) from hb) (by simp), hok, .of_eq hg⟩
    refine codeAny_mono ((F _ hKb (nsK hns)).run callerA [] s₁ H ⟨[.ref a], []⟩ [.ref a] [.ref a] _ _ hr e0 (hbind s₁ (.ref a)) (.cons rfl .nil) (hsp H hO hS)) fun r s' h => ?_
    cases r with
    | error e => exact (hCX H e s' h).elim
    | ok fl =>
      cases fl with
      | next => exact False.elim h
      | brk => exact False.elim h
      | cont => exact False.elim h
      | ret u =>
        obtain ⟨v, H', os, bare, un, hok', r', q⟩ := h
        have q' : v = .bl true := q
        subst q'
        obtain rfl : u = Value.bool true := r'
        refine ⟨rfl, OldK.of_keep fun b o e => ?_, os, bare⟩
        cases q : H b with
        | none => exact un.keep b o e q (by intro z; exact absurd (show b ∈ ([] : List Addr) from z) (by simp)) (by simp)
        | some u =>
          rcases hO b with z | ⟨ob, xs, z⟩
          · rw [q] at z; cases z
          · have z2 := un.frzs b ob _ z
            obtain ⟨e1, _⟩ := hok b _ z
            obtain ⟨e2, _⟩ := hok' b _ z2
            rw [e] at e1; cases e1
            exact e2
  cases hk : K.lookup a with
  | some o =>
    -- the script is one of the module's own objects
    have e := KX a o hk
    rw [ha] at e
    cases e
    refine core (fun _ => none) (fun _ => .inl rfl) (.inr ⟨_, vs.toArray, _, hk, rfl, rfl, rfl, by rw [List.size_toArray, lenV]; exact hl, by simpa using rv⟩) (fun b u z => by have z' : (none : Option HO) = some u := z; cases z') (fun b z => absurd rfl z) fun z => absurd rfl z
  | none =>
    refine core (fun b => if b = a then some (.frz { cls := .type "list", data := .seq vs.toArray } (.lst (ns.map V.int))) else none) (fun b => ?_) (.inl (.inr ⟨{ cls := .type "list", data := .seq vs.toArray }, if_pos rfl⟩)) (fun b u z => ?_) (fun b z => ?_) fun _ => hk
    · by_cases hb : b = a
      · exact .inr ⟨_, _, if_pos hb⟩
      · exact .inl (if_neg hb)
    · by_cases hb : b = a
      · have z' := (if_pos hb).symm.trans z
        cases z'
        subst hb
        exact ⟨ha, by rw [List.length_map]; exact hl, vs, _, rv, ha⟩
      · have z' := (if_neg hb).symm.trans z
        cases z'
    · by_cases hb : b = a
      · exact hb
      · exact absurd (if_neg hb) z
end L2

namespace L2
open PySem PySem.Spec PyProof.Rows

abbrev KOf {K : PySem.W.Frag} {h : Heap} (_ : K.In h) : PySem.W.Frag := K

/-- the goal that k_head leaves (case hc), from the law's promise. F gives the function object fd (K's own) once, then the promise over every base -/
theorem walk_of {l : PySem.W.OpenLaw} {n k : Nat} {q : Program} {loose : List Str} {XP : (Str → Option Value) → Heap → Prop} {YP : World → Heap → Prop} {d : DefRec} {K : Params → PySem.W.Frag} {CX : World → CXT} {sp : World → Sp} {x : Str}
    (hn : l.most = some n) (hn2 : n ≤ sizeLine) (hdf : d.params.defaults = []) (hr : Room k callerA)
    (hY : ∀ (w : World) (h : Heap), YP w h → (K w.params).In h)
    (F : ∀ (w : World) (mg : Str → Option Value) (fa : Addr) (h : Heap), (K w.params).In h → h.Ns mainGlobals mg → mg d.name = some (.ref fa) →
      ∃ fd : FuncData, (∀ (s : Shared) (u : Value), BindsTo s fd ⟨[u], []⟩ [(x, u)]) ∧
        ∀ base : Heap, (K w.params).In base → base.Ns mainGlobals mg → FnOk l.prog w (K w.params) mg base (CX w) k fa fd [x] (sp w))
    (hsp : ∀ (w : World) (H : Hp) (a : Addr) (ns : List Int), ns.length ≤ n → Only H → SqL (K w.params) H a (ns.map V.int) → sp w [.ref a] H (fun v _ => v = .bl true) fun _ _ _ => False)
    (hCX : ∀ (w : World) (H : Hp) (s : Shared) (e : Value) (s' : Shared), CX w [] H s (fun _ _ _ => False) e s' → False) :
    PySem.W.WalkO q loose XP YP l.row.toRowW d [] (fun f vs => PySem.call f vs) := by
  refine Att.attach_call hn hdf fun w s₀ s₁ mg mb fa o pm cd doc a vs ns G Y ho hd hcd hmg hobj hints hlen hg => ?_
  have KX := hY w _ Y
  obtain ⟨fd, hb, hF⟩ := F w mg fa _ KX G.T.g hmg
  exact law_call KX G.T.g G.T.b G.T.builtins G.T.nolimit hg hobj hints (Nat.le_trans hlen hn2) hr hF hb (fun H hO hS => hsp w H a ns hlen hO hS) fun H e s' => hCX w H s₁ e s'
end L2


/-! SHORT WORDS over the layer: a def of the text, its body, what a loop and a test want. -/
namespace L2
open PySem PySem.Spec PyProof.Rows

/-! ### the text by places -/
def defArgs (s : Stmt) : Arguments := match s with
  | .FunctionDef _ a _ _ _ _ _ _ _ _ => a
  | _ => { posonlyargs := [], args := [], vararg := none, kwonlyargs := [], kw_defaults := [], kwarg := none, defaults := [] }
def defBody (s : Stmt) : List Stmt := match s with
  | .FunctionDef _ _ b _ _ _ _ _ _ _ => b
  | _ => []
def defScope (s : Stmt) : Scope := match s with
  | .FunctionDef _ _ _ _ _ _ sc _ _ _ => sc
  | _ => { kind := .function, names := [], isGenerator := false, isCoroutine := false }

/-! ### no exception leaves a def -/
abbrev CX0 : CXT := fun _ _ _ _ _ _ => False
abbrev E0 : XK := fun _ _ _ => False
/-! ### a def (or method) of the text as it stands behind the top -/
structure Fun (K : PySem.W.Frag) (x qual : Str) (st : Stmt) (f : Addr) (fd : FuncData) : Prop where
  ex : ∃ (oc : Value) (od : Option Addr) (kV doc pm : Value) (an : Option Addr) (cdv ct : Value) (osl : Array (Option Value)),
    fd = PySem.W.fnOf x qual (defArgs st) (defBody st) (defScope st) .none kV doc pm an cdv ct ∧ K.lookup f = some ⟨oc, od, .func fd, osl⟩ ∧ PySem.W.codeIn K cdv qual = true
  kp : PySem.W.keepIn K (.ref f) = true
section
variable {P : Program} {w : World} {K : PySem.W.Frag} {mg : Str → Option Value} {base : Heap}
/-- THE RULE for a def: its body as a term of rules, and the reading of that term -/
theorem Fun.ok {x qual : Str} {st : Stmt} {f : Addr} {fd : FuncData} {N ps : List Str} {k : Nat} {sp : Sp} (F : Fun K x qual st f fd) (S : FnScope N ps (defScope st)) (len : ∀ vs H Q E, sp vs H Q E → vs.length = ps.length)
    (hbody : ∀ (cdv : Value) (A : Around) (outer : List Env) (s : Shared) (H : Hp) (vs : List V) (Q : VK) (E : XK), Room k (A.deeper (envOfC qual (defScope st) s.heap.objs.size f cdv)) → sp vs H Q E →
      ∃ t, PSs (cxOf CX0 P w K mg base N qual (defScope st) f cdv A outer s H E).nox (defBody st) t ∧ t { nx := fun _ H' => Q .non H', rt := Q } (start N vs) H) : FnOk P w K mg base CX0 (k + 1) f fd ps sp := by
  obtain ⟨oc, od, kV, doc, pm, an, cdv, ct, osl, rfl, lk, hcd⟩ := F.ex
  refine fn_of lk hcd S len fun A outer s H vs Q E hr hsp => ?_
  obtain ⟨t, h, q⟩ := hbody cdv A outer s H vs Q E hr hsp
  exact ⟨t, h.nox, q⟩
/-- how its arguments bind (no defaults): h is «fun _ _ _ _ _ _ us hl => match us, hl with | [_, _], _ => rfl», one _ a parameter -/
theorem Fun.binds {x qual : Str} {st : Stmt} {f : Addr} {fd : FuncData} {ps : List Str} (F : Fun K x qual st f fd)
    (h : ∀ (kV doc pm : Value) (an : Option Addr) (cdv ct : Value) (us : List Value), us.length = ps.length → bindArgs (PySem.W.fnOf x qual (defArgs st) (defBody st) (defScope st) .none kV doc pm an cdv ct) ⟨us, []⟩ = pure (ps.zip us)) : Binds K fd ps [] := by
  obtain ⟨oc, od, kV, doc, pm, an, cdv, ct, osl, rfl, lk, hcd⟩ := F.ex
  exact .all (h kV doc pm an cdv ct)
theorem fun_mk {x qual : Str} {st : Stmt} {f : Addr} {oc : Value} {od an : Option Addr} {osl : Array (Option Value)} {kV doc pm cdv ct : Value} (l : K.lookup f = some ⟨oc, od, .func (PySem.W.fnOf x qual (defArgs st) (defBody st) (defScope st) .none kV doc pm an cdv ct), osl⟩)
    (c : PySem.W.codeIn K cdv qual = true) (k : PySem.W.keepIn K (.ref f) = true) : Fun K x qual st f (PySem.W.fnOf x qual (defArgs st) (defBody st) (defScope st) .none kV doc pm an cdv ct) := ⟨⟨oc, od, kV, doc, pm, an, cdv, ct, osl, rfl, l, c⟩, k⟩
end
/-! ### expressions in short: the name that stands in the i-th slot -/
section
variable {X : Cx}
theorem pv (i : Nat) {x : Str} {pos : Pos} (hN : X.N[i]? = some x := by rfl) (hv : Vis X.env.scope x := by first | exact Or.inl rfl | exact Or.inr (Or.inl rfl) | exact Or.inr (Or.inr rfl)) (hd : (x == ("__debug__" : Str)) = false := by decide)
    (hcd : (x == ("__classdict__" : Str)) = false := by decide) : PE X (.Name x pos) (tVar i) := pe_var hN hv hd hcd
end

/-! ### tests -/
theorem iteF {A B : Prop} (h : B) : if false = true then A else B := by
  rw [if_neg Bool.false_ne_true]
  exact h
theorem iteT {A B : Prop} (h : A) : if true = true then A else B := by
  rw [if_pos rfl]
  exact h
theorem ite2 {c A B : Prop} [Decidable c] (h1 : c → A) (h2 : ¬ c → B) : if c then A else B := by
  by_cases h : c
  · rw [if_pos h]
    exact h1 h
  · rw [if_neg h]
    exact h2 h
/-! ### heaps -/
/-- all that was tracked is as it was -/
def Same (H H' : Hp) : Prop := ∀ b o, H b = some o → H' b = some o
theorem Same.refl (H : Hp) : Same H H := fun _ _ h => h
theorem Same.trans {H H1 H2 : Hp} (a : Same H H1) (b : Same H1 H2) : Same H H2 := fun c o h => b c o (a c o h)
theorem Same.free {H H' : Hp} (e : Same H H') {l : Addr} (h : H' l = Option.none) : H l = Option.none := by
  cases q : H l with
  | none => rfl
  | some o =>
    rw [e l o q] at h
    cases h
theorem Same.seq {K : PySem.W.Frag} {H H' : Hp} {a : Addr} {xs : List V} (e : Same H H') (h : SqL K H a xs) : SqL K H' a xs := by
  rcases h with (h | ⟨o, h⟩) | h
  · exact .inl (.inl (e _ _ h))
  · exact .inl (.inr ⟨o, e _ _ h⟩)
  · exact .inr h

end L2
namespace L2
open PySem PySem.Spec PyProof.Rows

/-! ### a comprehension's block -/
/-- the closure of a block: the cells of the names that are free in it -/
def clFrom (env : Env) : List (Str × NameKind) → List (Str × Addr) → List (Str × Addr)
  | [], acc => acc
  | (n, k) :: r, acc => if k == .free then clFrom env r ((n, (env.cells.lookup n).getD 0) :: acc) else clFrom env r acc
theorem closure_eq {env : Env} : ∀ (names : List (Str × NameKind)) (acc : List (Str × Addr)) (f : Str × NameKind → List (Str × Addr) → Sem (ForInStep (List (Str × Addr)))),
    (∀ n k cs, f (n, k) cs = if k == .free then (do let c ← cellOf env n; pure (.yield ((n, c) :: cs))) else pure (.yield cs)) →
    (∀ x ∈ names, x.2 = .free → ∃ c, env.cells.lookup x.1 = some c) → (forIn names acc f : Sem _) = pure (clFrom env names acc)
  | [], acc, f, _, _ => rfl
  | (n, k) :: r, acc, f, hf, h => by
    rw [List.forIn_cons, hf]
    unfold clFrom
    by_cases hk : (k == .free) = true
    · rw [if_pos hk, if_pos hk]
      obtain ⟨c, e⟩ := h (n, k) List.mem_cons_self (beq_iff_eq.mp hk)
      have e' : env.cells.lookup n = some c := e
      unfold cellOf
      rw [e']
      show (forIn r ((n, c) :: acc) f : Sem _) = _
      exact closure_eq r _ f hf fun x hx => h x (List.mem_cons_of_mem _ hx)
    · rw [if_neg hk, if_neg hk]
      show (forIn r acc f : Sem _) = _
      exact closure_eq r _ f hf fun x hx => h x (List.mem_cons_of_mem _ hx)
theorem closure_of {env : Env} {scope : Scope} (h : ∀ x ∈ scope.names, x.2 = .free → ∃ c, env.cells.lookup x.1 = some c) : closureFor scope env = pure (clFrom env scope.names []) := by
  unfold closureFor
  have e := closure_eq scope.names [] (fun x cs => if x.2 == .free then (do let c ← cellOf env x.1; pure (.yield ((x.1, c) :: cs))) else pure (.yield cs)) (fun _ _ _ => rfl) h
  show (forIn scope.names [] _ >>= fun cs => pure cs) = _
  exact (bind_pure_comp_id e)
where
  bind_pure_comp_id {α : Type} {a : α} {t : Sem α} (e : t = pure a) : (t >>= fun x => pure x) = pure a := by rw [e]; rfl
theorem clFrom_look {env : Env} {x : Str} {c : Addr} : ∀ (names : List (Str × NameKind)) (acc : List (Str × Addr)), (∀ y ∈ names, y.2 = .free → ∃ c, env.cells.lookup y.1 = some c) →
    (∀ c, acc.lookup x = some c → env.cells.lookup x = some c) → (clFrom env names acc).lookup x = some c → env.cells.lookup x = some c
  | [], acc, _, ha, h => ha c h
  | (n, k) :: r, acc, hn, ha, h => by
    unfold clFrom at h
    have hr : ∀ y ∈ r, y.2 = .free → ∃ c, env.cells.lookup y.1 = some c := fun y hy => hn y (List.mem_cons_of_mem _ hy)
    by_cases hk : (k == .free) = true
    · rw [if_pos hk] at h
      obtain ⟨c', e⟩ := hn (n, k) List.mem_cons_self (beq_iff_eq.mp hk)
      have e' : env.cells.lookup n = some c' := e
      rw [e'] at h
      refine clFrom_look r _ hr (fun c2 q => ?_) h
      rw [List.lookup_cons] at q
      cases hb : x == n with
      | true => rw [hb] at q; cases q; rw [beq_iff_eq.mp hb]; exact e'
      | false => rw [hb] at q; exact ha c2 q
    · rw [if_neg hk] at h
      exact clFrom_look r _ hr ha h
theorem clFrom_has {env : Env} {x : Str} : ∀ (names : List (Str × NameKind)) (acc : List (Str × Addr)), ((x, NameKind.free) ∈ names ∨ ∃ c, acc.lookup x = some c) → ∃ c, (clFrom env names acc).lookup x = some c
  | [], acc, h => h.elim (fun z => by cases z) id
  | (n, k) :: r, acc, h => by
    unfold clFrom
    by_cases hk : (k == .free) = true
    · rw [if_pos hk]
      refine clFrom_has r _ ?_
      cases hb : x == n with
      | true => exact .inr ⟨_, by rw [List.lookup_cons, hb]⟩
      | false =>
        rcases h with h | ⟨c, h⟩
        · rcases List.mem_cons.mp h with e | e
          · injection e with e1 _
            rw [e1] at hb; simp at hb
          · exact .inl e
        · exact .inr ⟨c, by rw [List.lookup_cons, hb]; exact h⟩
    · rw [if_neg hk]
      refine clFrom_has r _ ?_
      rcases h with h | h
      · rcases List.mem_cons.mp h with e | e
        · injection e with _ e2
          rw [← e2] at hk; exact absurd rfl hk
        · exact .inl e
      · exact .inr h
/-! the cells of a block: its own, then the closure's -/
theorem cells_look {x : Str} {c : Addr} : ∀ (names : List (Str × NameKind)) (n : Nat) (acc : List (Str × Addr)), (cellsFrom n names acc).lookup x = some c → acc.lookup x = some c ∨ (n ≤ c ∧ (x, NameKind.cell) ∈ names)
  | [], _, _, h => .inl h
  | (y, k) :: r, n, acc, h => by
    unfold cellsFrom at h
    by_cases hk : (k == .cell) = true
    · rw [if_pos hk] at h
      rcases cells_look r _ _ h with q | ⟨q1, q2⟩
      · rw [List.lookup_cons] at q
        cases hb : x == y with
        | true => rw [hb] at q; cases q; exact .inr ⟨Nat.le_refl _, by rw [beq_iff_eq.mp hb, beq_iff_eq.mp hk]; exact List.mem_cons_self⟩
        | false => rw [hb] at q; exact .inl q
      · exact .inr ⟨by omega, List.mem_cons_of_mem _ q2⟩
    · rw [if_neg hk] at h
      rcases cells_look r _ _ h with q | ⟨q1, q2⟩
      · exact .inl q
      · exact .inr ⟨q1, List.mem_cons_of_mem _ q2⟩
theorem cells_own {x : Str} {lo : Nat} : ∀ (names : List (Str × NameKind)) (n : Nat) (acc : List (Str × Addr)), lo ≤ n → ((x, NameKind.cell) ∈ names ∨ ∃ c, acc.lookup x = some c ∧ lo ≤ c) → ∃ c, (cellsFrom n names acc).lookup x = some c ∧ lo ≤ c
  | [], _, _, _, h => h.elim (fun z => by cases z) id
  | (y, k) :: r, n, acc, hn, h => by
    unfold cellsFrom
    by_cases hk : (k == .cell) = true
    · rw [if_pos hk]
      refine cells_own r _ _ (by omega) ?_
      cases hb : x == y with
      | true => exact .inr ⟨n, by rw [List.lookup_cons, hb], hn⟩
      | false =>
        rcases h with h | ⟨c, h, hc⟩
        · rcases List.mem_cons.mp h with e | e
          · injection e with e1 _
            rw [e1] at hb; simp at hb
          · exact .inl e
        · exact .inr ⟨c, by rw [List.lookup_cons, hb]; exact h, hc⟩
    · rw [if_neg hk]
      refine cells_own r _ _ hn ?_
      rcases h with h | h
      · rcases List.mem_cons.mp h with e | e
        · injection e with _ e2
          rw [← e2] at hk; exact absurd rfl hk
        · exact .inl e
      · exact .inr h
theorem cells_keep {x : Str} : ∀ (names : List (Str × NameKind)) (n : Nat) (acc : List (Str × Addr)), (x, NameKind.cell) ∉ names → (cellsFrom n names acc).lookup x = acc.lookup x
  | [], _, _, _ => rfl
  | (y, k) :: r, n, acc, h => by
    unfold cellsFrom
    have hr : (x, NameKind.cell) ∉ r := fun z => h (List.mem_cons_of_mem _ z)
    by_cases hk : (k == .cell) = true
    · rw [if_pos hk, cells_keep r _ _ hr, List.lookup_cons]
      cases hb : x == y with
      | true => exact absurd (by rw [beq_iff_eq.mp hb, beq_iff_eq.mp hk]; exact List.mem_cons_self) h
      | false => rfl
    · rw [if_neg hk]; exact cells_keep r _ _ hr
theorem cells_inj : ∀ (names : List (Str × NameKind)) (n : Nat) (acc : List (Str × Addr)), (∀ x c, acc.lookup x = some c → c < n) → (∀ x y c, acc.lookup x = some c → acc.lookup y = some c → x = y) →
    ∀ x y c, (cellsFrom n names acc).lookup x = some c → (cellsFrom n names acc).lookup y = some c → x = y
  | [], _, _, _, h => h
  | (z, k) :: r, n, acc, hlt, h => by
    unfold cellsFrom
    by_cases hk : (k == .cell) = true
    · rw [if_pos hk]
      refine cells_inj r (n + 1) _ (fun x c e => ?_) fun x y c e1 e2 => ?_
      · rw [List.lookup_cons] at e
        cases hb : x == z with
        | true => rw [hb] at e; cases e; exact Nat.lt_succ_self _
        | false => rw [hb] at e; exact Nat.lt_succ_of_lt (hlt x c e)
      · rw [List.lookup_cons] at e1 e2
        cases hb : x == z with
        | true =>
          rw [hb] at e1; cases e1
          cases hb2 : y == z with
          | true => rw [beq_iff_eq.mp hb, beq_iff_eq.mp hb2]
          | false => rw [hb2] at e2; exact absurd (hlt y _ e2) (Nat.lt_irrefl _)
        | false =>
          rw [hb] at e1
          cases hb2 : y == z with
          | true => rw [hb2] at e2; cases e2; exact absurd (hlt x _ e1) (Nat.lt_irrefl _)
          | false => rw [hb2] at e2; exact h x y c e1 e2
    · rw [if_neg hk]; exact cells_inj r n _ hlt h
theorem push_cells_is {x : Str} {c : Addr} : ∀ (names : List (Str × NameKind)) (h : Heap) (acc : List (Str × Addr)), (∀ y c, acc.lookup y = some c → ∃ v, h.IsCell c v) →
    (cellsFrom h.objs.size names acc).lookup x = some c → ∃ v, (pushCells h names).IsCell c v
  | [], h, acc, ha, e => ha x c e
  | (y, k) :: r, h, acc, ha, e => by
    unfold cellsFrom at e
    unfold pushCells
    by_cases hk : (k == .cell) = true
    · rw [if_pos hk] at e ⊢
      rw [show h.objs.size + 1 = (h.push { cls := .type "cell", data := .cell none }).objs.size from (Heap.size_push ..).symm] at e
      refine push_cells_is r _ _ (fun z c' q => ?_) e
      rw [List.lookup_cons] at q
      cases hb : z == y with
      | true => rw [hb] at q; cases q; exact ⟨none, _, Heap.get?_push_size _ rfl, rfl⟩
      | false =>
        rw [hb] at q
        obtain ⟨v, w⟩ := ha z c' q
        exact ⟨v, w.keeps fun b o e => Heap.get?_push_of_some _ e⟩
    · rw [if_neg hk] at e ⊢
      exact push_cells_is r _ _ ha e

section
variable {M : Model} {A : Around} {E : Value → Shared → Prop} {s : Shared}
/-- the environment of a comprehension's block -/
theorem newEnv_comp {scope : Scope} {globals : Addr} {cl : List (Str × Addr)} {qual : Str} {env : Env} {Q : Env → Shared → Prop}
    (h : Q { scope, locals := s.heap.objs.size, globals, cells := cellsFrom (s.heap.objs.size + 1) scope.names cl, qual, func := none, code := env.code, frame := env.frame, builtins := env.builtins }
      { s with heap := pushCells (s.heap.push { cls := .type "dict", data := .dict #[] }) scope.names }) :
    wpAny M A (newFunctionEnv scope globals cl [] qual none .none (some env)) Q E s := by
  simp only [newFunctionEnv, Option.isSome_some, if_true]
  refine wpAny_bind (wpAny_alloc ?_)
  refine wpAny_bind (wpAny_layCells _ (fun name kind cells => by cases hkc : kind == NameKind.cell <;> simp [hkc]) _ _ _ _ ?_)
  rw [show ({ s with heap := s.heap.push { cls := .type "dict", data := .dict #[] } } : Shared).heap.objs.size = s.heap.objs.size + 1 from Heap.size_push ..]
  refine wpAny_bind ?_
  rw [List.forIn_nil]
  exact wpAny_pure (wpAny_pure h)
end
section
variable {prog : Program} {w : World} {A : Around} {R : Result → Shared → Prop} {s : Shared}
/-- the loop of a list comprehension of one clause, whatever its target -/
theorem compLoop_any {elt target iter : Expr} {ifs : List Expr} {scope : Scope} {pos : Pos} {it acc : Value} {env : Env} (I : Nat → Shared → Prop)
    (turn : ∀ n s, I n s → wpAny (model prog w) A (pyNext it) (fun r s₁ => match r with
      | none => R (.ok .next) s₁
      | some v => wpAny (model prog w) A (letOwnedTupleGo target it v) (fun _ s₁' => wpAny (model prog w) A (assign target env v) (fun _ s₂ =>
          wpAny (model prog w) A (forIn ifs true fun c r => if r = true then do let ok ← isTrue c env (eval c env); pure (ForInStep.yield ok) else pure (ForInStep.yield r)) (fun ok s₃ =>
            if ok = true then wpAny (model prog w) A (eval elt env) (fun x s₄ =>
              wpAny (model prog w) A (call (.builtin "list.append") [acc, x]) (fun _ s₅ => ∃ m, m < n ∧ I m s₅) (fun _ _ => False) s₄) (fun _ _ => False) s₃
            else ∃ m, m < n ∧ I m s₃) (fun _ _ => False) s₂) (fun _ _ => False) s₁') (fun _ _ => False) s₁) (fun _ _ => False) s)
    (n : Nat) (h : I n s) :
    codeAny (model prog w) A (.compLoop (.ListComp elt [⟨target, iter, ifs, 0⟩] scope pos) 0 it acc env) R s := by
  refine codeAny_loop rfl I (fun n s hI => ?_) n h
  show wpAny _ A ((compTurn (.ListComp elt [⟨target, iter, ifs, 0⟩] scope pos) 0 it acc env).onRaise (fun x => do noteFrame x env; theTreesLotGoes x)) _ _ s
  refine wpAny_noted ?_
  rw [compTurn_list]
  refine wpAny_bind (wpAny_standAt (wpAny_bind (wpAny_mono (turn n s hI) (fun r s₁ h₁ => ?_) fun _ _ h' => h'.elim)))
  cases r with
  | none => exact wpAny_pure h₁
  | some v =>
    refine wpAny_bind (wpAny_mono h₁ (fun _ s₁' h₁' => ?_) fun _ _ h' => h'.elim)
    refine wpAny_bind (wpAny_mono h₁' (fun _ s₂ h₂ => wpAny_bind (wpAny_mono h₂ (fun ok s₃ h₃ => ?_) fun _ _ h' => h'.elim)) fun _ _ h' => h'.elim)
    cases ok with
    | false => exact wpAny_pure ⟨rfl, h₃⟩
    | true =>
      exact wpAny_bind (wpAny_bind (wpAny_mono h₃ (fun x s₄ h₄ => wpAny_bind (wpAny_mono h₄ (fun _ s₅ h₅ => wpAny_pure (wpAny_pure ⟨rfl, h₅⟩)) fun _ _ h' => h'.elim)) fun _ _ h' => h'.elim))
end
end L2
namespace L2
open PySem PySem.Spec PyProof.Rows

/-- the context of a comprehension's block; no exception leaves it -/
def cxC (X : Cx) (Nc : List Str) (scope : Scope) (C : Addr) (fp : List Addr) (s : Shared) (H : Hp) : Cx where
  prog := X.prog
  w := X.w
  K := X.K
  mg := X.mg
  base := X.base
  A := X.A
  N := Nc
  s₀ := s
  H₀ := H
  env := compEnvC scope (cellsFrom (C + 1) scope.names (clFrom X.env scope.names [])) C X.env
  outer := X.stack
  stack := X.stack
  ex := fp
  fn := fun x => scope.names.contains (x, NameKind.cell)
  calm := X.calm
  pn := []
  xe := fun _ _ => False

/-- the names of a block: ix tells of each the outer slot that it is read from, or none (its own) -/
structure CompScope (X : Cx) (Nc : List Str) (ix : List (Option Nat)) (scope : Scope) : Prop where
  kind : scope.kind = .function
  nd : Nc.Nodup
  len : ix.length = Nc.length
  loc : ∀ x ∈ scope.names, x.2 = .local → scope.names.lookup x.1 = some .local
  free : ∀ x ∈ scope.names, x.2 = .free → X.env.kindOf x.1 = some .cell ∨ X.env.kindOf x.1 = some .free
  once : ∀ x, (x, NameKind.free) ∈ scope.names → (x, NameKind.cell) ∉ scope.names
  out : ∀ (i j : Nat) (x : Str), ix[i]? = some (some j) → Nc[i]? = some x → X.N[j]? = some x ∧ scope.names.lookup x = some .free

/-- the names' values at the block's entry -/
def startC (ix : List (Option Nat)) (σ : St) : St := ix.map fun o => o.bind fun j => (σ[j]?).bind id

theorem relabel_look {env : Env} {x : Str} : ∀ {names : List (Str × NameKind)} {k : NameKind}, names.lookup x = some k →
    (names.map fun (n, k) => if (k == NameKind.free && env.scope.kind == .function && env.kindOf n == some .cell) then (n, NameKind.cell) else (n, k)).lookup x =
      some (if (k == NameKind.free && env.scope.kind == .function && env.kindOf x == some .cell) then NameKind.cell else k)
  | [], _, h => by simp at h
  | (n, k') :: r, k, h => by
    show List.lookup x ((if (k' == NameKind.free && env.scope.kind == .function && env.kindOf n == some .cell) = true then (n, NameKind.cell) else (n, k')) :: _) = _
    cases hx : x == n with
    | true =>
      simp only [List.lookup_cons, hx] at h
      cases h
      have e := beq_iff_eq.mp hx
      subst e
      split <;> simp [List.lookup_cons]
    | false =>
      simp only [List.lookup_cons, hx] at h
      have ih := relabel_look (env := env) (names := r) h
      split <;> (simp only [List.lookup_cons, hx]; exact ih)
theorem relabel_none {env : Env} {x : Str} : ∀ {names : List (Str × NameKind)}, names.lookup x = none →
    (names.map fun (n, k) => if (k == NameKind.free && env.scope.kind == .function && env.kindOf n == some .cell) then (n, NameKind.cell) else (n, k)).lookup x = none
  | [], _ => rfl
  | (n, k') :: r, h => by
    show List.lookup x ((if (k' == NameKind.free && env.scope.kind == .function && env.kindOf n == some .cell) = true then (n, NameKind.cell) else (n, k')) :: _) = _
    cases hx : x == n with
    | true => simp only [List.lookup_cons, hx] at h; cases h
    | false =>
      simp only [List.lookup_cons, hx] at h
      have ih := relabel_none (env := env) (names := r) h
      split <;> (simp only [List.lookup_cons, hx]; exact ih)

section
variable {X : Cx} {pins : List (Addr × Obj)} {σ : St} {H : Hp} {s : Shared} {Nc : List Str} {ix : List (Option Nat)} {scope : Scope} {fp : List Addr}

theorem CompScope.cells (S : CompScope X Nc ix scope) (I : Inv X pins σ H s) : ∀ x ∈ scope.names, x.2 = .free → ∃ c, X.env.cells.lookup x.1 = some c := fun x hx hf => I.ok.has x.1 (S.free x hx hf)

/-- where a cell of the block comes from -/
theorem cell_from (S : CompScope X Nc ix scope) (I : Inv X pins σ H s) {C : Addr} {x : Str} {c : Addr} (e : (cellsFrom (C + 1) scope.names (clFrom X.env scope.names [])).lookup x = some c) :
    X.env.cells.lookup x = some c ∨ (C + 1 ≤ c ∧ (x, NameKind.cell) ∈ scope.names) := by
  rcases cells_look _ _ _ e with q | q
  · exact .inl (clFrom_look _ _ (S.cells I) (fun _ z => by simp at z) q)
  · exact .inr q

theorem inv_comp (S : CompScope X Nc ix scope) (I : Inv X pins σ H s) (hfp : ∀ b ∈ fp, FpOk X pins H b) (ho : ∀ b ∈ fp, ∃ o, s.heap.get? b = some o) {t' : Nat} :
    Inv (cxC X Nc scope (s.heap.objs.size + 1) fp s H) [] (startC ix σ) (upd H s.heap.objs.size (.lst []))
      { s with heap := pushCells ((s.heap.push { cls := .type "list", dict := none, data := .seq ([] : List Value).toArray }).push { cls := .type "dict", data := .dict #[] }) scope.names, toks := t' } := by
  have keep : ∀ b o, s.heap.get? b = some o → (pushCells ((s.heap.push { cls := .type "list", dict := none, data := .seq ([] : List Value).toArray }).push { cls := .type "dict", data := .dict #[] }) scope.names).get? b = some o :=
    fun b o e => pushCells_keeps _ _ b o (Heap.get?_push_of_some _ (Heap.get?_push_of_some _ e))
  have hD : (pushCells ((s.heap.push { cls := .type "list", dict := none, data := .seq ([] : List Value).toArray }).push { cls := .type "dict", data := .dict #[] }) scope.names).get? s.heap.objs.size =
      some { cls := .type "list", dict := none, data := .seq ([] : List Value).toArray } := pushCells_keeps _ _ _ _ (Heap.get?_push_of_some _ (Heap.get?_push_size _ rfl))
  have hsz : (s.heap.push { cls := .type "list", dict := none, data := .seq ([] : List Value).toArray }).objs.size = s.heap.objs.size + 1 := Heap.size_push ..
  have fresh : ∀ a : Addr, s.heap.objs.size ≤ a → H a = none := fun a h => I.hok.fresh h
  have hcc : ∀ x c, X.env.cells.lookup x = some c → c < s.heap.objs.size := fun x c e => let ⟨_, q⟩ := I.cell x c e; q.lt
  have clt : ∀ x c, (clFrom X.env scope.names []).lookup x = some c → c < s.heap.objs.size + 1 + 1 := fun x c e =>
    Nat.lt_succ_of_lt (Nat.lt_succ_of_lt (hcc x c (clFrom_look _ _ (S.cells I) (fun _ z => by simp at z) e)))
  have cinj : ∀ x y c, (clFrom X.env scope.names []).lookup x = some c → (clFrom X.env scope.names []).lookup y = some c → x = y := fun x y c e1 e2 =>
    I.ok.inj x y c (clFrom_look _ _ (S.cells I) (fun _ z => by simp at z) e1) (clFrom_look _ _ (S.cells I) (fun _ z => by simp at z) e2)
  refine ⟨⟨I.ok.mod, S.kind, I.ok.glob, I.ok.blt, Nat.le_succ _, cells_inj _ _ _ clt cinj, fun x hx => ?has, fun x c hf e => ?cab, I.ok.hd, I.ok.frames, .inl rfl, fun b hb => ?exf, I.bs, Nat.le_trans I.ok.bsz I.sz, fun b o e hb => ?noex, fun b hb hs => ?exfs, I.stack, I.stkFree⟩,
    rfl, I.bare, Un.laid keep (Nat.le_refl _) (fresh _ (Nat.le_refl _)), ⟨fun _ => none, ?ns, fun i x v e1 e2 e3 => ?loc⟩, fun x c e => ?cell, ?free, fun x c e => ?freeC, fun p hp => absurd (show p ∈ ([] : List (Addr × Obj)) from hp) (by simp), I.hok.laid keep (Nat.le_refl _) ?obj, ?len⟩
  case has =>
    have hx : (relabel scope X.env).names.lookup x = some .cell ∨ (relabel scope X.env).names.lookup x = some .free := hx
    show ∃ c, (cellsFrom (s.heap.objs.size + 1 + 1) scope.names (clFrom X.env scope.names [])).lookup x = some c
    cases hk : scope.names.lookup x with
    | none =>
      rw [show (relabel scope X.env).names.lookup x = none from relabel_none hk] at hx
      rcases hx with z | z <;> cases z
    | some k =>
      have hm := PySem.mem_of_lookup hk
      rw [show (relabel scope X.env).names.lookup x = _ from relabel_look hk] at hx
      cases k with
      | cell => obtain ⟨c, e, _⟩ := cells_own (x := x) (lo := 0) scope.names (s.heap.objs.size + 1 + 1) (clFrom X.env scope.names []) (Nat.zero_le _) (.inl hm); exact ⟨c, e⟩
      | free =>
        obtain ⟨c, e⟩ := clFrom_has (env := X.env) (x := x) scope.names [] (.inl hm)
        exact ⟨c, by rw [cells_keep _ _ _ (S.once x hm)]; exact e⟩
      | _ => rcases hx with z | z <;> simp at z
  case cab =>
    have hm : (x, NameKind.cell) ∈ scope.names := List.contains_iff_mem.mp hf
    obtain ⟨c', e', hc⟩ := cells_own (x := x) (lo := s.heap.objs.size + 1 + 1) scope.names (s.heap.objs.size + 1 + 1) (clFrom X.env scope.names []) (Nat.le_refl _) (.inl hm)
    have e2 : (cellsFrom (s.heap.objs.size + 1 + 1) scope.names (clFrom X.env scope.names [])).lookup x = some c := e
    rw [e'] at e2; cases e2
    exact Nat.le_trans (Nat.le_trans (Nat.le_succ _) (Nat.le_succ _)) hc
  case exf =>
    obtain ⟨o, eo⟩ := ho b hb
    have hlt := Heap.lt_size eo
    refine ⟨Nat.ne_of_lt (Nat.lt_succ_of_lt hlt), fun x c e => ?_⟩
    rcases cell_from S I e with q | ⟨q, _⟩
    · exact (hfp b hb).2.2.2.2.1 x c q
    · exact Nat.ne_of_gt (Nat.lt_of_lt_of_le (Nat.lt_succ_of_lt (Nat.lt_succ_of_lt hlt)) q)
  case noex =>
    obtain ⟨_, _, _, q, _⟩ := hfp b hb
    rcases q with q | q
    · exact I.ok.noex b o e q
    · exact absurd (Nat.lt_of_lt_of_le (Nat.lt_of_lt_of_le (Heap.lt_size e) I.ok.bsz) q) (Nat.lt_irrefl _)
  case exfs =>
    obtain ⟨_, q1, q2, _⟩ := hfp b hb
    rcases List.mem_cons.mp (I.stkSub b hs) with z | z
    · exact q1 z
    · exact q2 z
  case ns =>
    refine Heap.Ns.keeps (h := (s.heap.push { cls := .type "list", dict := none, data := .seq ([] : List Value).toArray }).push { cls := .type "dict", data := .dict #[] }) ?_ (pushCells_keeps _ _)
    have q := Heap.Ns.new (s.heap.push { cls := .type "list", dict := none, data := .seq ([] : List Value).toArray }) (.type "dict")
    rw [hsz] at q
    exact q
  case loc =>
    have e2' : (ix.map fun o => o.bind fun j => (σ[j]?).bind id)[i]? = some (some v) := e2
    rw [List.getElem?_map] at e2'
    cases ei : ix[i]? with
    | none => rw [ei] at e2'; cases e2'
    | some o =>
      rw [ei] at e2'
      cases o with
      | none => simp at e2'
      | some j =>
        obtain ⟨hN, hfr⟩ := S.out i j x ei e1
        have ej : σ[j]? = some (some v) := by
          cases q : σ[j]? with
          | none => simp [q] at e2'
          | some y => simp [q] at e2'; rw [e2']
        have hm := PySem.mem_of_lookup hfr
        have hvis : Vis X.env.scope x := by
          rcases S.free (x, .free) hm rfl with z | z
          · exact .inr (.inl z)
          · exact .inr (.inr z)
        obtain ⟨m0, hn0, hl0⟩ := I.loc
        obtain ⟨u, r, l⟩ := hl0 j x v hN ej hvis
        refine ⟨u, r, ?_⟩
        have hk : X.env.kindOf x = some .cell ∨ X.env.kindOf x = some .free := S.free (x, .free) hm rfl
        rcases l with ⟨z, _⟩ | ⟨_, c, ec, hcell⟩
        · rcases hk with y | y <;> (rw [z] at y; cases y)
        · refine .inr ⟨?_, c, ?_, hcell.keeps keep⟩
          · show (relabel scope X.env).names.lookup x = _ ∨ (relabel scope X.env).names.lookup x = _
            rw [show (relabel scope X.env).names.lookup x = _ from relabel_look hfr]
            split
            · exact .inl rfl
            · exact .inr rfl
          · show (cellsFrom (s.heap.objs.size + 1 + 1) scope.names (clFrom X.env scope.names [])).lookup x = some c
            rw [cells_keep _ _ _ (S.once x hm)]
            obtain ⟨c', e'⟩ := clFrom_has (env := X.env) (x := x) scope.names [] (.inl hm)
            have q := clFrom_look _ _ (S.cells I) (fun _ z => by simp at z) e'
            rw [ec] at q; cases q
            exact e'
  case cell =>
    have q := push_cells_is (x := x) (c := c) scope.names ((s.heap.push { cls := .type "list", dict := none, data := .seq ([] : List Value).toArray }).push { cls := .type "dict", data := .dict #[] }) (clFrom X.env scope.names [])
      (fun y c' e' => by
        obtain ⟨v, z⟩ := I.cell y c' (clFrom_look _ _ (S.cells I) (fun _ z => by simp at z) e')
        exact ⟨v, z.keeps fun b o e => Heap.get?_push_of_some _ (Heap.get?_push_of_some _ e)⟩)
    rw [Heap.size_push, hsz] at q
    exact q e
  case free =>
    show upd H s.heap.objs.size (.lst []) (s.heap.objs.size + 1) = none
    rw [upd_ne (Nat.succ_ne_self _)]
    exact fresh _ (Nat.le_succ _)
  case freeC =>
    rcases cell_from S I e with q | ⟨q, _⟩
    · rw [upd_ne (Nat.ne_of_lt (hcc x c q))]
      exact I.freeC x c q
    · have h1 : s.heap.objs.size < c := Nat.lt_of_lt_of_le (Nat.lt_succ_of_lt (Nat.lt_succ_self _)) q
      rw [upd_ne (Nat.ne_of_gt h1)]
      exact fresh c (Nat.le_of_lt h1)
  case obj => exact ⟨Nat.zero_le _, [], 0, .nil, hD⟩
  case len =>
    show (startC ix σ).length = Nc.length
    unfold startC
    rw [List.length_map, S.len]
end

/-- the tests of a clause -/
def PTs (X : Cx) (ifs : List Expr) (t : TT) : Prop :=
  ∀ (pins : List (Addr × Obj)) (s : Shared) (σ : St) (H : Hp) (Q : Bool → Hp → Prop), Inv X pins σ H s → t σ H Q →
    wpAny (model X.prog X.w) X.A (forIn ifs true fun c r => if r = true then do let ok ← isTrue c X.env (eval c X.env); pure (ForInStep.yield ok) else pure (ForInStep.yield r)) (TP X pins σ Q) X.xe s
def tYes : TT := fun _ H Q => Q true H
theorem pts_nil {X : Cx} : PTs X [] tYes := fun _ _ _ H _ I h => wpAny_tests_nil ⟨H, I, h⟩
theorem pts_one {X : Cx} {c : Expr} {t : TT} (h : PT X c t) : PTs X [c] t := fun pins s σ H Q I hw => wpAny_tests_one (h pins s σ H Q I hw)

/-- a comprehension's turns, its list at D. W: the invariant, by the turn and a measure, over the block's names -/
def lcRun (J : It) (g : TG) (tt : TT) (te : TE) (D : Addr) (σ : St) (H : Hp) (Q : VK) : Prop := ∃ W : Nat → Nat → St → Hp → Prop, (∃ m, W 0 m σ H) ∧ ∀ i m σ' H', W i m σ' H' →
  (J.stop i H' ∧ Q (.ref D) H') ∨ (J.go i H' ∧ ∀ x H2, J.yld i H' x H2 → g x σ' H2 fun σ3 H3 => tt σ3 H3 fun b H4 =>
    if b = true then te σ3 H4 fun v H5 => ∃ xs, H5 D = some (.lst xs) ∧ xs.length < sizeLine ∧ ∃ m', m' < m ∧ W (i + 1) m' σ3 (upd H5 D (.lst (xs ++ [v])))
    else ∃ m', m' < m ∧ W (i + 1) m' σ3 H4)
/-- a list comprehension of one clause -/
def tLC (wi : TI) (ix : List (Option Nat)) (g : TG) (tt : TT) (te : TE) : TE := fun σ H Q => wi σ H fun J H1 => ∀ D, H1 D = none → lcRun J g tt te D (startC ix σ) (upd H1 D (.lst [])) Q

section
variable {X : Cx} {tg elt iter : Expr} {ifs : List Expr} {scope : Scope} {pos : Pos} {wi : TI} {g : TG} {tt : TT} {te : TE} {Nc : List Str} {ix : List (Option Nat)}

/-- the block, run: from the state behind the iterator to that behind the last turn -/
theorem comp_run {pins : List (Addr × Obj)} {σ : St} {H : Hp} {s : Shared} {it : Addr} {fp : List Addr} {tn : Nat → Heap → Prop} {J : It} {Q : VK} {R : Value → Addr → Result → Shared → Prop}
    (hc : X.calm = true) (S : CompScope X Nc ix scope) (I : Inv X pins σ H s) (T : Turn X.prog X.w X.K tg J fp it tn) (st : tn 0 s.heap) (f : ∀ b ∈ fp, FpOk X pins H b)
    (hg : PG (cxC X Nc scope (s.heap.objs.size + 1) fp s H) tg g) (ht : PTs (cxC X Nc scope (s.heap.objs.size + 1) fp s H) ifs tt) (he : PE (cxC X Nc scope (s.heap.objs.size + 1) fp s H) elt te)
    (h : ∀ D, H D = none → ∃ W : Nat → Nat → St → Hp → Prop, (∃ m, W 0 m (startC ix σ) (upd H D (.lst []))) ∧ ∀ i m σ' H', W i m σ' H' →
      (J.stop i H' ∧ Q (.ref D) H') ∨ (J.go i H' ∧ ∀ x H2, J.yld i H' x H2 → g x σ' H2 fun σ3 H3 => tt σ3 H3 fun b H4 =>
        if b = true then te σ3 H4 fun v H5 => ∃ xs, H5 D = some (.lst xs) ∧ xs.length < sizeLine ∧ ∃ m', m' < m ∧ W (i + 1) m' σ3 (upd H5 D (.lst (xs ++ [v])))
        else ∃ m', m' < m ∧ W (i + 1) m' σ3 H4))
    (hR : ∀ σ' H' s', Inv (cxC X Nc scope (s.heap.objs.size + 1) fp s H) [] σ' H' s' → (∀ b ∈ fp, H' b = none) → Q (.ref s.heap.objs.size) H' → R (.ref s.heap.objs.size) (s.heap.objs.size + 1) (.ok .next) s') :
    wpAny (model X.prog X.w) X.A (newList []) (fun acc s₃ => wpAny (model X.prog X.w) X.A (newFunctionEnv scope X.env.globals (clFrom X.env scope.names []) [] X.env.qual none .none (some X.env)) (fun cenv s₄ =>
      codeAny (model X.prog X.w) X.A (.compStart (.ListComp elt [⟨tg, iter, ifs, 0⟩] scope pos) 0 (.ref it) acc { cenv with scope := relabel scope X.env }) (R acc cenv.locals) s₄) X.xe s₃) X.xe s := by
  obtain ⟨W, ⟨m0, w0⟩, turn⟩ := h s.heap.objs.size (I.hok.fresh (Nat.le_refl _))
  refine wpAny_newObj_type (newEnv_comp ?_)
  have I4 := inv_comp (t' := s.toks) S I f (fun b hb => let ⟨o, e, _⟩ := T.obj _ _ st b hb; ⟨o, e⟩)
  have hsz : (s.heap.push { cls := .type "list", dict := none, data := .seq ([] : List Value).toArray }).objs.size = s.heap.objs.size + 1 := Heap.size_push ..
  dsimp only
  rw [hsz]
  have st4 : tn 0 (pushCells ((s.heap.push { cls := .type "list", dict := none, data := .seq ([] : List Value).toArray }).push { cls := .type "dict", data := .dict #[] }) scope.names) :=
    T.keep _ _ _ st fun b _ o e => pushCells_keeps _ _ b o (Heap.get?_push_of_some _ (Heap.get?_push_of_some _ e))
  have fr4 : ∀ b ∈ fp, upd H s.heap.objs.size (.lst []) b = none := fun b hb => by
    obtain ⟨o, e, _⟩ := T.obj _ _ st b hb
    rw [upd_ne (Nat.ne_of_lt (Heap.lt_size e))]
    exact (f b hb).1
  have stat : ∀ {H' : Hp}, (∀ b ∈ fp, H' b = none) → ∀ b ∈ fp, FpOk (cxC X Nc scope (s.heap.objs.size + 1) fp s H) [] H' b := fun {H'} hn b hb => by
    obtain ⟨q1, q2⟩ := I4.ok.exf b hb
    exact ⟨hn b hb, q1, I4.ok.exfs b hb, .inl hb, q2, fun p hp => absurd (show p ∈ ([] : List (Addr × Obj)) from hp) (by simp)⟩
  have loop : codeAny (model X.prog X.w) X.A (.compLoop (.ListComp elt [⟨tg, iter, ifs, 0⟩] scope pos) 0 (.ref it) (.ref s.heap.objs.size) (cxC X Nc scope (s.heap.objs.size + 1) fp s H).env)
      (R (.ref s.heap.objs.size) (s.heap.objs.size + 1))
      { s with heap := pushCells ((s.heap.push { cls := .type "list", dict := none, data := .seq ([] : List Value).toArray }).push { cls := .type "dict", data := .dict #[] }) scope.names } := by
    refine compLoop_any (fun n s' => ∃ i σ' H', Inv (cxC X Nc scope (s.heap.objs.size + 1) fp s H) [] σ' H' s' ∧ tn i s'.heap ∧ (∀ b ∈ fp, H' b = none) ∧ W i n σ' H') ?_ m0 ⟨0, _, _, I4, st4, fr4, w0⟩
    rintro n s5 ⟨i, σ5, H5, I5, st5, fr5, w5⟩
    rcases turn i n σ5 H5 w5 with ⟨stop, qn⟩ | ⟨go, step⟩
    · refine thn (T.done (cxC X Nc scope (s.heap.objs.size + 1) fp s H) rfl rfl rfl hc i [] s5 σ5 H5 _ I5 (stat fr5) st5 stop) fun r s6 ⟨hr, I6⟩ => ?_
      subst hr
      exact hR σ5 H5 s6 I6 fr5 qn
    · refine thn (T.item (cxC X Nc scope (s.heap.objs.size + 1) fp s H) rfl rfl rfl hc i [] s5 σ5 H5 _ I5 (stat fr5) st5 go) fun r s6 ⟨u, hr, h6⟩ => ?_
      subst hr
      refine thn h6 fun _ s7 ⟨x, H7, I7, r7, y7, st7, fr7⟩ => ?_
      have I7' := I7.pinned (stat fr7) (T.obj _ _ st7)
      refine thn (hg _ s7 σ5 H7 x u _ I7' r7 (step x H7 y7)) fun _ s8 ⟨σ8, H8, I8, q8⟩ => ?_
      refine thn (ht _ s8 σ8 H8 _ I8 q8) fun b s9 ⟨H9, I9, q9⟩ => ?_
      have again : ∀ {s' : Shared} {σ' : St} {H' : Hp}, Inv (cxC X Nc scope (s.heap.objs.size + 1) fp s H) ([] ++ pinsAt fp s7.heap) σ' H' s' → tn (i + 1) s'.heap ∧ ∀ b ∈ fp, H' b = none := fun {s' σ' H'} I' => by
        refine ⟨T.keep _ _ _ st7 fun b hb o e => (I'.pin (b, o) (List.mem_append_right _ (List.mem_append_right _ (mem_pinsAt hb e)))).1, fun b hb => ?_⟩
        obtain ⟨o, e, d⟩ := T.obj _ _ st7 b hb
        exact (I'.pin (b, o) (List.mem_append_right _ (List.mem_append_right _ (mem_pinsAt hb e)))).2.1
      cases b with
      | false =>
        rw [if_neg Bool.false_ne_true] at q9 ⊢
        obtain ⟨m', hm, w9⟩ := q9
        obtain ⟨a1, a2⟩ := again I9
        exact ⟨m', hm, i + 1, σ8, H9, I9.unpinned, a1, a2, w9⟩
      | true =>
        rw [if_pos rfl] at q9 ⊢
        refine thn (he _ s9 σ8 H9 _ I9 q9) fun v s10 ⟨x', H10, I10, r10, xs, eD, hlt, m', hm, w10⟩ => ?_
        refine thn (mt_append (X := cxC X Nc scope (s.heap.objs.size + 1) fp s H) _ s10 σ8 H10 (.ref s.heap.objs.size) [x'] (.ref s.heap.objs.size) [v] (fun _ H' => H' = upd H10 s.heap.objs.size (.lst (xs ++ [x']))) I10 rfl (.cons r10 .nil)
          ⟨_, xs, x', rfl, rfl, eD, hlt, rfl⟩) fun _ s11 ⟨_, H11, I11, _, e11⟩ => ?_
        subst e11
        obtain ⟨a1, a2⟩ := again I11
        exact ⟨m', hm, i + 1, σ8, _, I11.unpinned, a1, a2, w10⟩
  exact codeAny_compStart_list loop (T.self X.A 0 _ _ _ st4 loop)

/-- behind the block: the outer frame again -/
theorem comp_back {pins : List (Addr × Obj)} {σ σ' : St} {H H' : Hp} {s s' : Shared} {fp : List Addr} (I : Inv X pins σ H s) (f : ∀ b ∈ fp, FpOk X pins H b) (J : Inv (cxC X Nc scope (s.heap.objs.size + 1) fp s H) [] σ' H' s') : Inv X pins σ H' s' :=
  I.call' (ch := fp) J.os J.base J.hok J.bare fun b hb => let ⟨_, q1, _, q3, q4, q5⟩ := f b hb; ⟨q3, q1, q4, q5⟩
theorem Inv.letgo {pins : List (Addr × Obj)} {σ : St} {H : Hp} {s : Shared} {C : Addr} {h' : Heap} (I : Inv X pins σ H s) (f : FpOk X pins H C) (hs : Heap.SameBut C s.heap h') : Inv X pins σ H { s with heap := h' } :=
  I.turned (t' := s.toks) (it := C) (fun b o hb e => (hs.2 b hb).trans e) f.1 f.2.1 f.2.2.2.1 f.2.2.2.2.1 f.2.2.2.2.2

theorem pe_lc (hc : X.calm = true) (S : CompScope X Nc ix scope) (hi : PI X tg iter wi)
    (hb : ∀ (C : Addr) (fp : List Addr) (s : Shared) (H : Hp), PG (cxC X Nc scope C fp s H) tg g ∧ PTs (cxC X Nc scope C fp s H) ifs tt ∧ PE (cxC X Nc scope C fp s H) elt te)
    (hs : ∀ x, foldedSetIterable iter X.env x = pure x := by intro _; rfl) : PE X (.ListComp elt [⟨tg, iter, ifs, 0⟩] scope pos) (tLC wi ix g tt te) := by
  intro pins s σ H Q I h
  rw [eval_ListComp]
  refine wpAny_comprehension_free (use := none) rfl hs (closure_of (S.cells I)) S.kind S.loc (thn (hi pins s σ H _ I h) fun v s1 h1 => thn h1 fun itv s2 h2 => ?_)
  obtain ⟨it, fp, tn, J, H2, e, I2, T, st2, f2, q2⟩ := h2
  subst e
  obtain ⟨hg, ht, he⟩ := hb (s2.heap.objs.size + 1) fp s2 H2
  refine comp_run (R := fun acc C => compPost (model X.prog X.w) X.A X.xe none (EP X pins σ Q) acc C) hc S I2 T st2 f2 hg ht he q2 fun σ' H' s' J' fr' q' => ?_
  obtain ⟨m, hn, _⟩ := J'.loc
  refine ⟨m, hn, fun h' hsb => ⟨.ref _, H', ?_, rfl, q'⟩⟩
  exact (comp_back I2 f2 J').letgo (I2.fpOk (Nat.le_succ _) J'.free) hsb
/-- x = [..], where the name is stored ahead of the block's end -/
theorem ps_setLC {i : Nat} {y : Str} {py spos : Pos} (hN : X.N.Nodup) (hy : X.N[i]? = some y) (hl : Loc X.env.scope y) (hc : X.calm = true) (S : CompScope X Nc ix scope) (hi : PI X tg iter wi)
    (hb : ∀ (C : Addr) (fp : List Addr) (s : Shared) (H : Hp), PG (cxC X Nc scope C fp s H) tg g ∧ PTs (cxC X Nc scope C fp s H) ifs tt ∧ PE (cxC X Nc scope C fp s H) elt te)
    (hsw : swapsWith (.ListComp elt [⟨tg, iter, ifs, 0⟩] scope pos) (some (.Name y py)) spos.line X.env = pure true := by rfl)
    (hs : ∀ x, foldedSetIterable iter X.env x = pure x := by intro _; rfl)
    (hf : X.fn y = true ∨ X.env.scope.names.lookup y = some .local := by first | exact .inl rfl | exact .inr rfl | assumption) :
    PS X (.Assign [.Name y py] (.ListComp elt [⟨tg, iter, ifs, 0⟩] scope pos) spos) (tAsg (tLC wi ix g tt te) (gName i)) := by
  intro pins s σ H D I h
  rw [exec_Assign_Name_used _ _ _ _ hsw]
  refine wpAny_bind (wpAny_standAt (wpAny_bind ?_))
  show wpAny _ X.A (do let _ ← comprehension (.ListComp elt [⟨tg, iter, ifs, 0⟩] scope pos) scope X.env _ (newList []) false (eval iter X.env) (some (assign (.Name y py) X.env))) _ _ s
  refine wpAny_bind (wpAny_mono (wpAny_comprehension_free (use := some (assign (.Name y py) X.env)) (Q := fun _ s' => SP X pins D .next s') rfl hs (closure_of (S.cells I)) S.kind S.loc
    (thn (hi pins s σ H _ I h) fun v s1 h1 => thn h1 fun itv s2 h2 => ?_)) (fun _ s' hq => wpAny_pure (wpAny_pure hq)) fun _ _ e => e)
  obtain ⟨it, fp, tn, J, H2, e, I2, T, st2, f2, q2⟩ := h2
  subst e
  obtain ⟨hg, ht, he⟩ := hb (s2.heap.objs.size + 1) fp s2 H2
  refine comp_run (Q := fun x H1 => gName i x σ H1 D.nx) (R := fun acc C => compPost (model X.prog X.w) X.A X.xe (some (assign (.Name y py) X.env)) (fun _ s' => SP X pins D .next s') acc C) hc S I2 T st2 f2 hg ht he q2 fun σ' H' s' J' fr' q' => ?_
  obtain ⟨m, hn, _⟩ := J'.loc
  have I3 := comp_back I2 f2 J'
  have fC := I2.fpOk (Nat.le_succ _) J'.free
  show wpAny _ X.A (assign (.Name y py) X.env (.ref s2.heap.objs.size)) _ _ s'
  refine wpAny_assign_Name (store_ok2 (v := .ref s2.heap.objs.size) I3 hN hy hl rfl (fun s4 I4 ⟨a, hsa, ha⟩ => ?_) hf)
  have haC : s2.heap.objs.size + 1 ≠ a := by
    rcases ha with z | z
    · rw [z]; exact fC.2.1
    · exact Ne.symm (fC.2.2.2.2.1 y a z)
  refine ⟨m, hn.sameBut hsa haC, fun h' hsb => ⟨_, H', I4.letgo fC hsb, q'⟩⟩
end
end L2
namespace L2
open PySem PySem.Spec PyProof.Rows
/-! ### an exception's own context stays what it is -/
/-- a record whose third field is nothing -/
def D2 (o : Obj) : Prop := ∃ vs, o.data = .fields vs ∧ vs[2]? = some .none
def C0 (h : Heap) (e : Addr) : Prop := ∃ o, h.get? e = some o ∧ D2 o
/-- a tree whose writes leave the third field of any record alone -/
def Kp {α : Type} : Sem α → Prop
  | .pure _ => True
  | .raise _ => True
  | .unsupported _ => True
  | .finish _ => True
  | .rule _ k => Kp (k ())
  | .at _ k => Kp (k ())
  | .load _ _ k => ∀ o, Kp (k o)
  | .update _ _ f k => (∀ o, D2 o → D2 (f o)) ∧ Kp (k ())
  | .alloc _ k => ∀ a, Kp (k a)
  | .loadIfAlive _ k => ∀ o, Kp (k o)
  | .point _ k => Kp (k ())
  | .register _ _ => True
  | .fresh k => ∀ t, Kp (k t)
  | .ask k => ∀ t, Kp (k t)
  | .choose _ _ _ => False
  | .os _ _ _ => False
  | .call _ _ _ _ _ => False
  | .handled _ k => ∀ v, Kp (k v)
  | .newGen _ _ => False
  | .genState _ _ => False
  | .resume _ _ _ _ => False
  | .yield _ _ _ _ => True
  | .stack k => ∀ l, Kp (k l)
  | .fork _ _ => True
  | .thread k => ∀ n, Kp (k n)
  | .await _ _ _ _ _ => True
theorem kp_wp {α : Type} {M : Model} {Γ : PySem.Ctx} {e : Addr} {Q : α → Pos → Shared → Prop} {E : Value → Pos → Shared → Prop} (t : Sem α) : ∀ (p : Pos) (s : Shared), Kp t → C0 s.heap e → Sem.wp M Γ t Q E p s → Sem.wp M Γ t (fun a p s => Q a p s ∧ C0 s.heap e) E p s := by
  induction t with
  | pure a => exact fun p s _ c h => ⟨h, c⟩
  | raise v => exact fun p s _ c h => h
  | unsupported | finish | yield | fork | await | register => exact fun p s _ c h => h
  | rule _ k ih | «at» _ k ih | point _ k ih => exact fun p s kp c h => ih () _ _ kp c h
  | loadIfAlive _ k ih | fresh k ih | ask k ih | handled _ k ih | stack k ih | thread k ih => exact fun p s kp c h => ih _ _ _ (kp _) c h
  | alloc o k ih => exact fun p s kp c h => ih _ _ _ (kp _) (by obtain ⟨o1, h1, h2⟩ := c; exact ⟨o1, Heap.get?_push_of_some _ h1, h2⟩) h
  | load a _ k ih => exact fun p s kp c ⟨o, ho, h⟩ => ⟨o, ho, ih _ _ _ (kp _) c h⟩
  | update a _ f k ih =>
    refine fun p s kp c h => ⟨h.1, ih _ _ _ kp.2 ?_ h.2⟩
    obtain ⟨o1, h1, h2⟩ := c
    by_cases z : a = e
    · subst z
      have d := kp.1 o1 h2
      obtain ⟨vs, dv, _⟩ := id d
      exact ⟨_, Heap.get?_update_self f h1 (Obj.isFreed_of_fields dv), d⟩
    · exact ⟨o1, (Heap.get?_update_other _ _ z).trans h1, h2⟩
  | choose | os | call | newGen | genState | resume => exact fun p s kp c h => kp.elim
theorem kp_any {α : Type} {M : Model} {A : Around} {e : Addr} {t : Sem α} {Q : α → Shared → Prop} {E : Value → Shared → Prop} {s : Shared} (k : Kp t) (c : C0 s.heap e) (h : wpAny M A t Q E s) : wpAny M A t (fun a s' => Q a s' ∧ C0 s'.heap e) E s := fun Γ p hΓ => kp_wp t p s k c (h Γ p hΓ)
theorem kp_bind {α β : Type} {g : α → Sem β} (t : Sem α) : Kp t → (∀ a, Kp (g a)) → Kp (t >>= g) := by
  show Kp t → (∀ a, Kp (g a)) → Kp (Sem.bind t g)
  induction t with
  | pure a => exact fun _ h => h a
  | raise v => exact fun _ _ => trivial
  | unsupported | finish | yield | fork | await | register => exact fun _ _ => trivial
  | rule _ k ih | «at» _ k ih | point _ k ih => exact fun kp h => ih () kp h
  | loadIfAlive _ k ih | fresh k ih | ask k ih | handled _ k ih | stack k ih | thread k ih | alloc _ k ih | load _ _ k ih => exact fun kp h x => ih x (kp x) h
  | update a _ f k ih => exact fun kp h => ⟨kp.1, ih () kp.2 h⟩
  | choose | os | call | newGen | genState | resume => exact fun kp _ => kp.elim
theorem kp_pure {α : Type} {a : α} : Kp (pure a : Sem α) := trivial
theorem kp_uns {α : Type} {z : String} : Kp (unsupported z : Sem α) := trivial
theorem kp_load {a : Addr} : Kp (load a) := fun _ => trivial
theorem kp_stack : Kp stack := fun _ => trivial
theorem kp_fieldsOf {v : Value} : Kp (fieldsOf v) := by
  unfold fieldsOf
  cases v <;> first
    | exact kp_uns
    | (refine kp_bind _ kp_load fun o => ?_
       split <;> first | exact kp_uns | exact kp_pure)
theorem kp_field {v : Value} {i : Nat} : Kp (field v i) := by
  unfold field
  refine kp_bind _ kp_fieldsOf fun vs => ?_
  split <;> first | exact kp_uns | exact kp_pure
theorem kp_setField {v x : Value} {i : Nat} (hi : i ≠ 2) : Kp (setField v i x) := by
  unfold setField
  cases v <;> first
    | exact kp_uns
    | (unfold updateField
       refine kp_bind _ kp_load fun o => ?_
       split <;> first
         | exact kp_uns
         | (split <;> first
             | exact kp_uns
             | exact ⟨fun o ⟨vs, d, z⟩ => ⟨_, Obj.data_mapFields d _, by rw [Array.getElem?_setIfInBounds_ne hi]; exact z⟩, trivial⟩))
theorem kp_ready : ∀ l : List Env, Kp (readyFrames l) := by
  intro l
  induction l with
  | nil => exact kp_pure
  | cons env outer ih =>
    unfold readyFrames
    split
    · refine kp_bind _ kp_load fun o => ?_
      split
      · exact kp_pure
      · refine kp_bind _ ?_ fun b => kp_bind _ ?_ fun v => kp_bind _ ⟨fun o d => d, trivial⟩ fun _ => ih
        · unfold behindIsImport
          split
          · exact kp_pure
          · split
            · exact kp_pure
            · exact kp_bind _ kp_field fun _ => kp_pure
        · unfold keptBack
          split
          · split
            · exact kp_pure
            · exact kp_bind _ (kp_bind _ kp_stack fun _ => kp_pure) fun _ => kp_pure
          · exact kp_pure
    · exact kp_uns
theorem kp_frameOf {env : Env} : Kp (PySem.frameOf env) := by
  unfold PySem.frameOf
  refine kp_bind _ (kp_bind _ kp_stack fun _ => kp_pure) fun l => kp_bind _ ?_ fun r => ?_
  · unfold frameObject
    split
    · exact kp_pure
    · exact kp_bind _ (kp_ready _) fun _ => kp_pure
  · split <;> first | exact kp_pure | exact kp_uns
theorem kp_place {f : Addr} {b : Bool} : Kp (entryPlaceOf f b) := by
  unfold entryPlaceOf
  refine kp_bind _ kp_stack fun l => ?_
  split <;> exact kp_pure
theorem kp_asIs {z : String} {d : Data} : Kp (newObjAsIs (.type z) d) := kp_bind _ (fun _ => trivial) fun _ => kp_pure
theorem kp_entry {a b c d e : Value} {l : List Value} : Kp (EntryCells.newEntry a b c d e l) := by
  unfold EntryCells.newEntry newFields newObj
  dsimp only
  generalize (if l.isEmpty = true then List.replicate 6 Value.none else l) = l'
  split
  · exact kp_bind _ kp_uns fun _ => kp_asIs
  · exact kp_asIs
theorem kp_note {e : Value} {env : Env} : Kp (noteFrame e env) := by
  unfold noteFrame
  split
  · rename_i f _
    refine kp_bind _ kp_field fun h => ?_
    have rest : Kp (PySem.frameOf env >>= fun a => entryPlaceOf f (h != Value.none) >>= fun pl => EntryCells.newEntry h a Value.none (rawInt f) Value.none pl >>= fun b => setField e 1 b) := kp_bind _ kp_frameOf fun _ => kp_bind _ kp_place fun _ => kp_bind _ kp_entry fun _ => kp_setField (by decide)
    split
    · refine kp_bind _ kp_field fun v => ?_
      split
      · exact kp_pure
      · exact kp_bind _ (kp_setField (by decide)) fun _ => rest
    · exact rest
  · exact kp_uns
theorem kp_flight {e : Value} {f : Option Addr} : Kp (setFlight e f) := by
  unfold setFlight
  refine kp_bind _ kp_field fun v => ?_
  split
  · exact kp_setField (by decide)
  · exact kp_pure
theorem kp_leaving {e : Value} {env : Env} : Kp (leaving env e) := kp_bind _ kp_note fun _ => kp_flight
/-- a station, with the context kept -/
theorem kp_on {M : Model} {A : Around} {e : Addr} {t : Sem Unit} {P : Heap → Prop} {Q : Unit → Shared → Prop} {E : Value → Shared → Prop} {s : Shared} (k : Kp t) (c : C0 s.heap e) (h : ∀ Q' : Unit → Shared → Prop, (∀ h', P h' → Q' () { s with heap := h' }) → wpAny M A t Q' E s) (hQ : ∀ h', P h' → C0 h' e → Q () { s with heap := h' }) : wpAny M A t Q E s :=
  wpAny_mono (kp_any k c (h (fun _ s' => ∃ h', s' = { s with heap := h' } ∧ P h') fun h' p => ⟨h', rfl, p⟩)) (fun _ s' ⟨⟨h', z, p⟩, c'⟩ => by subst z; exact hQ h' p c') fun _ _ z => z
end L2
namespace L2
open PySem PySem.Spec PyProof.Rows

/-! ### exceptions of one's own classes: raised, passed on, caught -/
/-- an exception of the class at C, its object at a, has left all frames but those of outer. B: what stood at the raise, but the frames -/
structure Thrown (P : Program) (w : World) (outer : List Env) (H : Hp) (s : Shared) (a C : Addr) (a0 : Value) (B : Heap) (H' : Hp) (s' : Shared) : Prop where
  os : s'.os = s.os
  bare : AllBare s'.gens
  un : Un (frs outer) [] H H' s.heap s'.heap
  hok : HOk P w H' s'.heap
  fly : Heap.FlyingW B outer a (.ref C) a0 s'.heap
  cov : ∀ b o, s.heap.get? b = some o → b ∉ frs outer → ∃ o', B.get? b = some o'
  trk : ∀ b u, H' b = some u → ∃ o', B.get? b = some o'
  cx : C0 s'.heap a
def CX1 (P : Program) (w : World) : CXT := fun outer H s E e s' => ∃ (a C : Addr) (a0 : Value) (B : Heap) (H' : Hp), e = .ref a ∧ Thrown P w outer H s a C a0 B H' s' ∧ E (.ref C) none H'

theorem frs_mem {l : List Env} {b : Addr} {base h : Heap} (F : h.FunFrames base l) (hb : b ∈ frs l) : base.get? b = none ∧ ∃ o, h.get? b = some o ∧ ∀ vs, o.data ≠ .fields vs := F.mem hb

/-- from a heap in which B stands to a later one -/
theorem un_later {outer : List Env} {H H' : Hp} {h h1 h2 B : Heap} (u : Un (frs outer) [] H H' h h1) (F : h1.FunFrames B outer) (hB1 : B.StaysIn h1) (hB2 : B.StaysIn h2) (up : h1.UpToSlots h2)
    (cov : ∀ b o, h.get? b = some o → b ∉ frs outer → ∃ o', B.get? b = some o') : Un (frs outer) [] H H' h h2 := by
  have at2 : ∀ b o, h.get? b = some o → b ∉ frs outer → ∀ o1, h1.get? b = some o1 → h2.get? b = some o1 := fun b o e hb o1 e1 => by
    obtain ⟨o', eB⟩ := cov b o e hb
    have q := hB1 b o' eB
    rw [e1] at q; cases q
    exact hB2 b _ eB
  refine ⟨fun b o e n hb hx => at2 b o e hb o (u.keep b o e n hb hx), fun b o e n hb hx => ?_, u.free, fun b o e hx => ?_, u.tups, u.frzs, u.tbls⟩
  · obtain ⟨sl, e1⟩ := u.slot b o e n hb hx
    obtain ⟨_, o1, q1, q2⟩ := frs_mem F hb
    rw [e1] at q1; cases q1
    obtain ⟨sl2, e2⟩ := up b _ e1 q2
    exact ⟨sl2, e2⟩
  · obtain ⟨o1, e1⟩ := u.there b o e hx
    by_cases hb : b ∈ frs outer
    · obtain ⟨_, o2, q1, q2⟩ := frs_mem F hb
      obtain ⟨sl2, e2⟩ := up b _ q1 q2
      exact ⟨_, e2⟩
    · exact ⟨o1, at2 b o e hb o1 e1⟩
theorem hok_later {P : Program} {w : World} {H : Hp} {h1 h2 B : Heap} (x : HOk P w H h1) (hB1 : B.StaysIn h1) (hB2 : B.StaysIn h2) (trk : ∀ b u, H b = some u → ∃ o', B.get? b = some o') : HOk P w H h2 := fun b o e => by
  refine (x b o e).stay (fun c u hc q => ?_) (fun _ q => q) fun _ _ q => q
  have ht : ∃ o', B.get? c = some o' := by
    rcases hc with z | z
    · rw [z]; exact trk b o e
    · exact trk c _ z
  obtain ⟨o', eB⟩ := ht
  have q1 := hB1 c o' eB
  rw [q] at q1; cases q1
  exact hB2 c _ eB

/-- a def's body as its exceptions see it -/
structure Body (X : Cx) (E : XK) : Prop where
  xe : X.xe = fun e s' => wpAny (model X.prog X.w) X.A (leaving X.env e) (fun _ s'' => CX1 X.prog X.w X.outer X.H₀ X.s₀ E e s'') (fun e' s'' => CX1 X.prog X.w X.outer X.H₀ X.s₀ E e' s'') s'
  stk : X.stack = X.env :: X.outer
  fr : X.env.frame = some X.env.locals
  ex : X.ex = []
section
variable {X : Cx} {E : XK} {pins : List (Addr × Obj)} {σ : St} {H : Hp} {s : Shared}
theorem Inv.old (I : Inv X pins σ H s) {b : Addr} {o : Obj} (e : X.s₀.heap.get? b = some o) : b ≠ X.env.locals := Nat.ne_of_lt (Nat.lt_of_lt_of_le (Heap.lt_size e) I.ok.above)
theorem Body.base (Bd : Body X E) (I : Inv X pins σ H s) : Un X.fs [] X.H₀ H X.s₀.heap s.heap := by
  have q := I.base
  rw [Bd.ex] at q
  exact q
theorem Body.notin (Bd : Body X E) {b : Addr} (h1 : b ≠ X.env.locals) (h2 : b ∉ frs X.outer) : b ∉ frs X.stack := by
  rw [Bd.stk]
  intro z
  obtain ⟨env, he, hf⟩ := List.mem_filterMap.mp z
  rcases List.mem_cons.mp he with rfl | he
  · rw [Bd.fr] at hf; exact h1 (Option.some.inj hf).symm
  · exact h2 (List.mem_filterMap.mpr ⟨env, he, hf⟩)

/-- an exception of a callee passes through this body -/
theorem pass1 (Bd : Body X E) : Passes (CX1 X.prog X.w) X E := by
  intro pins σ H s e s' I h
  obtain ⟨a, C, a0, B, H', rfl, T, q⟩ := h
  rw [Bd.xe]
  have hfr : X.A.frames = some (X.env :: X.outer) := by rw [← Bd.stk]; exact I.ok.frames
  have fly := T.fly
  rw [Bd.stk] at fly
  refine kp_on (P := fun h' => Heap.FlyingW B X.outer a (.ref C) a0 h' ∧ s'.heap.UpToSlots h') kp_leaving T.cx (fun Q' hq => wpAny_leaves_onW hfr Bd.fr fly fun h' fly' up => hq h' ⟨fly', up⟩) fun h' ⟨fly', up⟩ cx' => ?_
  have cov : ∀ b o, X.s₀.heap.get? b = some o → b ∉ frs X.outer → ∃ o', B.get? b = some o' := fun b o e hb => by
    obtain ⟨o1, e1⟩ := (Bd.base I).there b o e (by simp)
    exact T.cov b o1 e1 (Bd.notin (I.old e) hb)
  have u1 : Un (frs X.outer) [] X.H₀ H' X.s₀.heap s'.heap := by
    have ub := Bd.base I
    refine ⟨fun b o e n hb hx => T.un.keep b o (ub.keep b o e n hb hx) (ub.free b o e n hx) (Bd.notin (I.old e) hb) (by simp), fun b o e n hb hx => ?_, fun b o e n hx => ?_, fun b o e hx => ?_, fun b xs e => T.un.tups b xs (ub.tups b xs e),
      fun b o xs e => T.un.frzs b o xs (ub.frzs b o xs e), fun b ps e => ?_⟩
    · obtain ⟨sl, e1⟩ := ub.slot b o e n hb hx
      obtain ⟨sl', e2⟩ := T.un.any e1 (ub.free b o e n hx) (by simp)
      exact ⟨sl', e2⟩
    · obtain ⟨o1, e1⟩ := ub.there b o e hx
      exact T.un.free b o1 e1 (ub.free b o e n hx) (by simp)
    · obtain ⟨o1, e1⟩ := ub.there b o e hx
      exact T.un.there b o1 e1 (by simp)
    · obtain ⟨m1, e1⟩ := ub.tbls b ps e
      obtain ⟨m2, e2⟩ := T.un.tbls b _ e1
      exact ⟨m1 ++ m2, by rw [e2, Array.append_assoc]⟩
  have F' : s'.heap.FunFrames B X.outer := by obtain ⟨_, _, ⟨_, _, k⟩, _⟩ := fly; exact k
  exact ⟨a, C, a0, B, H', rfl, ⟨T.os.trans I.os, T.bare, un_later u1 F' fly.1 fly'.1 up cov, hok_later T.hok fly.1 fly'.1 T.trk, fly', cov, T.trk, cx'⟩, q⟩

/-- an own exception class, as the written part has it -/
theorem own_of_K {K : PySem.W.Frag} {h : Heap} {mg : Str → Option Value} {x : Str} {C : Addr} {bmB : List Value} {newId : String} (KX : K.In h) (hm : mg x = some (.ref C)) (q : PySem.W.excIn K C bmB newId = true) : OwnCls x C bmB newId mg h := by
  refine ⟨hm, ?_⟩
  unfold PySem.W.excIn at q
  split at q
  · rename_i dd cd sl ho
    split at q
    · rename_i C' bm k0 k1 k2 k3 n k5 hm' hs
      simp only [Bool.and_eq_true, beq_iff_eq, Bool.not_eq_true'] at q
      obtain ⟨⟨⟨⟨⟨rfl, rfl⟩, hdel⟩, ht⟩, hok⟩, hni⟩ := q
      obtain ⟨nm, bs, mro, ns, qn, hd, sn, sub, ab, col, del⟩ := cd
      dsimp only at hm' hdel hok hni
      subst hm' hdel
      have hsl : sl = #[k0, k1, k2, k3, some (.builtin n), k5] := by
        obtain ⟨l⟩ := sl
        simp only at hs
        rw [hs]
      subst hsl
      exact ⟨bm, ns, nm, qn, bs, hd, sn, sub, ab, col, dd, k0, k1, k2, k3, k5, _, KX _ _ ho, .of_isNs (PySem.W.isNs_of_in KX hok), PySem.W.nsMap_none_of_in KX hok hni, PySem.W.tail_of_in KX ht⟩
    · cases q
  · cases q

/-- raise C(e, ..) -/
def tRaise (C : Addr) (E : XK) (t : TA) : TS := fun _ σ H => t σ H fun vs H1 => vs.length ≤ sizeLine ∧ E (.ref C) none H1
theorem ps_raise {x : Str} {np cpos pos : Pos} {e : Expr} {es : List Expr} {t : TA} {C : Addr} {bmB : List Value} {B newId initId : String} (Bd : Body X E) (hc : X.calm = true) (hg : Gl X x) (hm : X.mg x = some (.ref C))
    (hk : PySem.W.excIn X.K C bmB newId = true) (FB : ExcBaseFacts B newId initId bmB) (ha : PA X (e :: es) t)
    (he : starEach (e :: es) X.env = (false, eval e X.env) :: starEach es X.env := by rfl) (hpl : (backTo cpos (starEach es X.env)).any (·.1) = false := by rfl) (hdb : (x == ("__debug__" : Str)) = false := by decide) :
    PS X (.Raise (some (.Call (.Name x np) (e :: es) [] cpos)) none pos) (tRaise C E t) := by
  intro pins s σ H D I h
  have O := own_of_K (I.mod.kin) hm hk
  obtain ⟨tl, N, nm, q, bs, hdct, sn, sub, ab, col, dd, k0, k1, k2, k3, k5, mN, hC, hN, hni, T⟩ := O.obj
  refine wpAny_Raise_call_subT (C := C) (nm := nm) (q := q) (N := N) (bs := bs) (bm := tl) (hdct := hdct) (sn := sn) (sub := sub) (ab := ab) (col := col) (dd := dd) (k0 := k0) (k1 := k1) (k2 := k2) (k3 := k3) (k5 := k5)
    FB (mN := mN) (T.hasType FB.hasBase) (I.ok.hd hc) (by rw [he]; show (false || (backTo cpos (starEach es X.env)).any (·.1)) = false; rw [hpl]; rfl) hni (ld_glob I hg hm ⟨rfl, ?_⟩ hdb)
  have hA := ha cpos pins s σ H _ I h
  rw [he] at hA ⊢
  refine Calls.evalArgs_plain (thn hA fun us s2 ⟨vs, H2, I2, r, hz, q2⟩ => ?_)
  refine ⟨rfl, by rw [← r.length]; exact hz, I2.bk _ _ hC, hN.keeps I2.bk, T.keeps I2.bk, fun h' a hx => ?_⟩
  rw [Bd.xe]
  have hfr : X.A.frames = some (X.env :: X.outer) := by rw [← Bd.stk]; exact I.ok.frames
  have hin : ∀ env ∈ X.stack, ∀ b, env.frame = some b → b ∈ frs X.stack := fun env he b hb => List.mem_filterMap.mpr ⟨env, he, hb⟩
  have F0 : s2.heap.FunFrames (PySem.W.hideAll s2.heap (frs X.stack)) X.stack := PySem.W.funFrames_hide I2.stack hin
  have F1 : s2.heap.FunFrames (PySem.W.hideAll s2.heap (frs X.stack)) (X.env :: X.outer) := by rw [← Bd.stk]; exact F0
  have hB0 : (PySem.W.hideAll s2.heap (frs X.stack)).StaysIn s2.heap := fun b o q => PySem.W.of_hideAll _ q
  have hBget : ∀ b o, s2.heap.get? b = some o → b ∉ frs X.stack → (PySem.W.hideAll s2.heap (frs X.stack)).get? b = some o := fun b o e hb => PySem.W.hideAll_get _ e hb
  have c0 : C0 h' a := by obtain ⟨t, q, _⟩ := hx.there; exact ⟨_, q, _, rfl, rfl⟩
  refine kp_on (P := fun h'' => ∃ t, Heap.FlyingW (PySem.W.hideAll s2.heap (frs X.stack)) X.outer a (.ref C) (.ref t) h'' ∧ h'.UpToSlots h'') kp_leaving c0 (fun Q' hq => wpAny_leaves_madeW hfr Bd.fr hB0 F1 hx fun h'' t fly tup tn up => hq h'' ⟨t, fly, up⟩) fun h'' ⟨t, fly, up⟩ cx' => ?_
  have cov : ∀ b o, X.s₀.heap.get? b = some o → b ∉ frs X.outer → ∃ o', (PySem.W.hideAll s2.heap (frs X.stack)).get? b = some o' := fun b o e hb => by
    obtain ⟨o1, e1⟩ := (Bd.base I2).there b o e (by simp)
    exact ⟨o1, hBget b o1 e1 (Bd.notin (I2.old e) hb)⟩
  have trk : ∀ b u, H2 b = some u → ∃ o', (PySem.W.hideAll s2.heap (frs X.stack)).get? b = some o' := fun b u e => by
    have hb : b ∉ frs X.stack := fun z => by rw [I2.stkFree b z] at e; cases e
    have hlt := I2.hok.lt e
    obtain ⟨o1, e1⟩ : ∃ o1, s2.heap.get? b = some o1 := by
      cases hq : s2.heap.get? b with
      | some o1 => exact ⟨o1, rfl⟩
      | none => exact absurd hq (objOk_there (I2.hok b u e))
    exact ⟨o1, hBget b o1 e1 hb⟩
  have F2 : s2.heap.FunFrames (PySem.W.hideAll s2.heap (frs X.stack)) X.outer := by obtain ⟨_, _, k⟩ := F1; exact k
  have up2 : s2.heap.UpToSlots h'' := (Heap.UpToSlots.of_keeps hx.keeps).trans up
  exact ⟨a, C, .ref t, _, H2, rfl, ⟨I2.os, I2.bare, un_later (Bd.base I2) F2 hB0 fly.1 up2 cov, hok_later I2.hok hB0 fly.1 trk, fly, cov, trk, cx'⟩, q2⟩
where
  objOk_there {P : Program} {w : World} {H : Hp} {h : Heap} {a : Addr} {o : HO} (x : ObjOk P w H h a o) : h.get? a ≠ none := by
    cases o with
    | lst xs => obtain ⟨_, _, _, _, e⟩ := x; rw [e]; simp
    | tup xs => obtain ⟨_, _, _, ob, e, _⟩ := x; rw [e]; simp
    | dK kvs => obtain ⟨_, _, _, _, o, _, _, e, _⟩ := x; rw [e]; simp
    | dT kvs => obtain ⟨_, _, _, _, o, _, _, e, _⟩ := x; rw [e]; simp
    | set S n => obtain ⟨o, _, _, _, e, _⟩ := x; rw [e]; simp
    | ins C dx fs => obtain ⟨_, _, _, e, _⟩ := x; rw [e]; simp
    | own y => obtain ⟨_, e⟩ := x; rw [e]; simp
    | xd fs => obtain ⟨_, ⟨_, _, _, e, _⟩, _⟩ := x; rw [e]; simp
    | rng lo hi => obtain ⟨_, _, _, e⟩ := x; rw [e]; simp
    | frz ob u => obtain ⟨e, _⟩ := x; rw [e]; simp
    | tbl ps => have e : h.get? a = some _ := x; rw [e]; simp
    | met f y => have e : h.get? a = some _ := x; rw [e]; simp
    | ext φ => obtain ⟨_, ⟨_, e⟩, _⟩ := x; rw [e]; simp
end
end L2
namespace L2
open PySem PySem.Spec PyProof.Rows

def ExcAt (a C : Addr) (h : Heap) : Prop := ∃ oe vs, h.get? a = some oe ∧ oe.cls = .ref C ∧ oe.data = .fields vs ∧ vs[2]? = some .none
theorem ExcAt.mono {a C : Addr} {h1 h2 : Heap} (x : ExcAt a C h1) (k : ∀ o, h1.get? a = some o → h2.get? a = some o) : ExcAt a C h2 := let ⟨oe, vs, e, c, d⟩ := x; ⟨oe, vs, k _ e, c, d⟩

/-- an own class that may be named in an except -/
structure Catch (K : PySem.W.Frag) (C : Addr) : Prop where
  ty : PySem.W.typeIn K (.ref C) = some (.type "type")
  cls : (PySem.W.clsIn K C).isSome = true
  base : PySem.W.subIn K (.ref C) (.type "BaseException") = some true
theorem looks_isType {K : PySem.W.Frag} {M : Model} {h : Heap} {C : Addr} (KX : K.In h) (z0 : (PySem.W.clsIn K C).isSome = true) : PySem.W.Looks M h (isType (.ref C)) true := by
  unfold PySem.W.clsIn at z0
  split at z0
  · rename_i c' d' cd' sl' ho
    intro A' Q' E' s' k q
    unfold isType loadHead
    exact wpAny_bind (wpAny_loadPart (k _ _ (KX _ _ ho)) (wpAny_pure q))
  · cases z0
theorem excMatches_K {M : Model} {A : Around} {E : Value → Shared → Prop} {s : Shared} {K : PySem.W.Frag} {a C C2 : Addr} {b : Bool} {Q : Bool → Shared → Prop} (KX : K.In s.heap) (x : ExcAt a C s.heap) (c : Catch K C2)
    (hs : PySem.W.subIn K (.ref C) (.ref C2) = some b) (q : Q b s) : wpAny M A (excMatches (.ref a) (.ref C2)) Q E s := by
  obtain ⟨h, g, d, t, os⟩ := s
  obtain ⟨oe, vs, he, hc, hd, _⟩ := x
  have L1 : PySem.W.Looks M h (typeOf (.ref C2)) (.type "type") := PySem.W.looks_typeIn KX c.ty
  have L2 : PySem.W.Looks M h (isType (.ref C2)) true := looks_isType KX c.cls
  have L3 : PySem.W.Looks M h (isSubtype (.ref C2) (.type "BaseException")) true := PySem.W.looks_subIn KX c.base
  have L4 : PySem.W.Looks M h (isSubtype (.ref C) (.ref C2)) b := PySem.W.looks_subIn KX hs
  have L5 : PySem.W.Looks M h (typeOf (.ref a)) (.ref C) := hc ▸ (PySem.W.Looks.ld he).andThen .now
  have f := tc_notTuple
  have L6 : PySem.W.Looks M h (isSubtype (.type "type") (.type "tuple")) false := PySem.W.Looks.of_pure f
  have L7 : PySem.W.Looks M h (isInstance (.ref C2) (.type "tuple")) false := L1.andThen L6
  unfold excMatches
  refine wpAny_bind (L7.at ?_)
  simp only [Bool.false_eq_true, if_false]
  refine wpAny_bind (wpAny_pure ?_)
  rw [List.forIn_cons]
  unfold isExcClass
  refine wpAny_bind (wpAny_bind (wpAny_bind (wpAny_bind (L2.at ?_))))
  simp only [if_true]
  refine L3.at ?_
  simp only [Bool.not_true, Bool.false_eq_true, if_false]
  refine wpAny_pure ?_
  simp only [List.forIn_nil]
  refine wpAny_pure (wpAny_bind (L5.at ?_))
  rw [List.forIn_cons]
  refine wpAny_bind (wpAny_bind (wpAny_bind (L4.at ?_)))
  cases b with
  | true => simp only [if_true]; exact wpAny_pure (wpAny_pure (wpAny_pure q))
  | false => simp only [Bool.false_eq_true, if_false]; exact wpAny_pure (wpAny_pure (wpAny_pure q))

/-- the context of a try's body: what is raised there is caught here -/
def tryCx (X : Cx) (pins : List (Addr × Obj)) (E : XK) : Cx := { X with
  pn := X.pn ++ pins
  xe := fun e s' => ∃ (a C : Addr) (a0 : Value) (B : Heap) (σ : St) (H H' : Hp) (s : Shared), e = .ref a ∧ Inv X pins σ H s ∧ Thrown X.prog X.w X.stack H s a C a0 B H' s' ∧ E (.ref C) none H' }
/-- the context of an except's suite -/
def hndCx (X : Cx) (a : Addr) : Cx := { X with A := X.A.mark (some (.ref a)), calm := false, xe := fun _ _ => False }
section
variable {X : Cx} {E : XK} {pins : List (Addr × Obj)} {σ : St} {H : Hp} {s : Shared} {a : Addr}
theorem Inv.toTry (I : Inv X pins σ H s) : Inv (tryCx X pins E) [] σ H s :=
  ⟨⟨I.ok.mod, I.ok.kind, I.ok.glob, I.ok.blt, I.ok.above, I.ok.inj, I.ok.has, I.ok.cab, I.ok.hd, I.ok.frames, I.ok.stk, I.ok.exf, I.ok.bs, I.ok.bsz, I.ok.noex, I.ok.exfs, I.ok.funs, I.ok.frf⟩,
    I.os, I.bare, I.base, I.loc, I.cell, I.free, I.freeC, fun p hp => I.pin p (by rw [List.append_nil] at hp; exact hp), I.hok, I.len⟩
theorem Inv.ofTry {pins2 : List (Addr × Obj)} (I : Inv (tryCx X pins E) pins2 σ H s) : Inv X pins σ H s :=
  ⟨⟨I.ok.mod, I.ok.kind, I.ok.glob, I.ok.blt, I.ok.above, I.ok.inj, I.ok.has, I.ok.cab, I.ok.hd, I.ok.frames, I.ok.stk, I.ok.exf, I.ok.bs, I.ok.bsz, I.ok.noex, I.ok.exfs, I.ok.funs, I.ok.frf⟩,
    I.os, I.bare, I.base, I.loc, I.cell, I.free, I.freeC, fun p hp => I.pin p (List.mem_append_left _ hp), I.hok, I.len⟩
theorem Inv.toHnd (I : Inv X pins σ H s) : Inv (hndCx X a) pins σ H s :=
  ⟨⟨I.ok.mod, I.ok.kind, I.ok.glob, I.ok.blt, I.ok.above, I.ok.inj, I.ok.has, I.ok.cab, (fun z => by cases z), I.ok.frames, I.ok.stk, I.ok.exf, I.ok.bs, I.ok.bsz, I.ok.noex, I.ok.exfs, I.ok.funs, I.ok.frf⟩,
    I.os, I.bare, I.base, I.loc, I.cell, I.free, I.freeC, I.pin, I.hok, I.len⟩
theorem Inv.ofHnd (hd : X.calm = true → X.A.handled = none) (I : Inv (hndCx X a) pins σ H s) : Inv X pins σ H s :=
  ⟨⟨I.ok.mod, I.ok.kind, I.ok.glob, I.ok.blt, I.ok.above, I.ok.inj, I.ok.has, I.ok.cab, hd, I.ok.frames, I.ok.stk, I.ok.exf, I.ok.bs, I.ok.bsz, I.ok.noex, I.ok.exfs, I.ok.funs, I.ok.frf⟩,
    I.os, I.bare, I.base, I.loc, I.cell, I.free, I.freeC, I.pin, I.hok, I.len⟩
/-- what a call in the try's body wants -/
theorem passTry : Passes (CX1 X.prog X.w) (tryCx X pins E) E := by
  intro pins2 σ H s e s' I h
  obtain ⟨a, C, a0, B, H', rfl, T, q⟩ := h
  exact ⟨a, C, a0, B, σ, H, H', s, rfl, I.ofTry, T, q⟩

theorem Un.ext {fs : List Addr} {H H' : Hp} {h h' : Heap} {a : Addr} {o : HO} (u : Un fs [] H H' h h') (ha : h.get? a = none) (hn : H' a = none) : Un fs [] H (upd H' a o) h h' where
  keep := u.keep
  slot := u.slot
  free := fun b ob e n hx => by rw [upd_ne (fun z => by rw [z, ha] at e; cases e)]; exact u.free b ob e n hx
  there := u.there
  tups := fun b xs e => by have q := u.tups b xs e; rw [upd_ne (ne_of_none q hn)]; exact q
  frzs := fun b ob xs e => by have q := u.frzs b ob xs e; rw [upd_ne (ne_of_none q hn)]; exact q
  tbls := fun b ps e => by obtain ⟨m, q⟩ := u.tbls b ps e; exact ⟨m, by rw [upd_ne (ne_of_none q hn)]; exact q⟩

/-- behind the landing: the frame again, with the exception tracked -/
theorem caught_inv {C : Addr} {a0 : Value} {B : Heap} {H' : Hp} {s' : Shared} {h2 : Heap} (I : Inv X pins σ H s) (T : Thrown X.prog X.w X.stack H s a C a0 B H' s') (fl : Heap.FlyingW B X.stack a (.ref C) a0 h2) (up : s'.heap.UpToSlots h2) (cx : C0 h2 a) :
    Inv X pins σ (upd H' a (.ext (ExcAt a C))) { s' with heap := h2 } ∧ H' a = none := by
  obtain ⟨oe, vs, he, hcl, hd, _⟩ := fl.first
  obtain ⟨oe1, vs1, he1, _, hd1, _⟩ := T.fly.first
  have hBa : B.get? a = none := T.fly.2.1
  have hn : H' a = none := by
    cases q : H' a with
    | none => rfl
    | some u => obtain ⟨o', z⟩ := T.trk a u q; rw [hBa] at z; cases z
  have ha : s.heap.get? a = none := by
    cases q : s.heap.get? a with
    | none => rfl
    | some o =>
      by_cases hf : a ∈ frs X.stack
      · obtain ⟨_, o1, q1, q2⟩ := frs_mem T.fly.2.2.1 hf
        rw [he1] at q1; cases q1
        exact absurd hd1 (q2 vs1)
      · obtain ⟨o', z⟩ := T.cov a o q hf
        rw [hBa] at z; cases z
  have u1 := un_later T.un T.fly.2.2.1 T.fly.1 fl.1 up T.cov
  have hk1 := hok_later T.hok T.fly.1 fl.1 T.trk
  have ex : ExcAt a C h2 := by
    obtain ⟨o2, g1, ws, g2, g3⟩ := cx
    rw [he] at g1; cases g1
    rw [hd] at g2; cases g2
    exact ⟨oe, vs, he, hcl, hd, g3⟩
  have hk2 : HOk X.prog X.w (upd H' a (.ext (ExcAt a C))) h2 := fun b o e => by
    by_cases hb : b = a
    · subst hb
      rw [upd_same] at e; cases e
      exact ⟨ex, ⟨oe, he⟩, fun h1 h2 p k => p.mono k⟩
    · rw [upd_ne hb] at e
      exact (hk1 b o e).stay (fun _ _ _ q => q) (fun c q => by rw [upd_ne (ne_of_none q hn)]; exact q) fun c xs q => by rw [upd_ne (ne_of_none q hn)]; exact q
  exact ⟨I.call' (s' := { s' with heap := h2 }) (ch := []) T.os (u1.ext ha hn) hk2 T.bare (fun b z => absurd z (by simp)), hn⟩

end
end L2
namespace L2
open PySem PySem.Spec PyProof.Rows
/-! ### isinstance of an exception of one's own -/
structure ExcCls (K : PySem.W.Frag) (C : Addr) : Prop where
  ga : PySem.W.findIn K (.ref C) "__getattribute__" = some (some (.builtin "BaseException.__getattribute__"))
  nga : PySem.W.findIn K (.ref C) "__getattr__" = some none
  at_ : PySem.W.findIn K (.ref C) "__class__" = some (some (.builtin "object.__class__"))
  cls : (PySem.W.clsIn K C).isSome = true
  obj : PySem.W.mroIn K C (.type "object") = some true
  base : PySem.W.subIn K (.ref C) (.type "BaseException") = some true
section
variable {prog : Program} {w : World} {A : Around} {E : Value → Shared → Prop} {h : Heap} {g : Array GenState} {d : Drawn} {t : Nat} {os : OsState} {K : PySem.W.Frag} {a C : Addr}
theorem ExcAt.type {M : Model} (x : ExcAt a C h) : PySem.W.Looks M h (typeOf (.ref a)) (.ref C) := by
  obtain ⟨oe, vs, he, hc, hd, _⟩ := x
  exact hc ▸ (PySem.W.Looks.ld he).andThen .now
open PySem.W Builtin Builtin.ObjectAttr Builtin.Getset_descriptor in
theorem exc_class_get {R : Result → Shared → Prop} {tp : Value} (KX : K.In h) (x : ExcAt a C h) (c : ExcCls K C) (hq : R (.ok (.ret (.ref C))) ⟨h, g, d, t, os⟩) :
    codeAny (model prog w) A (.call (.builtin "getset_descriptor.__get__") ⟨[.builtin "object.__class__", .ref a, tp], []⟩) R ⟨h, g, d, t, os⟩ := by
  have L0 := x.type (M := model prog w)
  have L1 := looks_mroIn (M := model prog w) KX c.obj
  refine codeAny_call_builtin KF.slot_gs.plain KF.entry_gs (KF.slot_gs.check _ _ _ _ _ _ _ _ KF.type_class (KF.args_gs _ _ _) ?_)
  unfold Builtin.«getset_descriptor.__get__» descrGet
  rw [dga_obj]
  refine wpAny_bind (wpAny_pure ?_)
  unfold descrGetter descrCheckInstance descrNameAndClass isInstance
  simp only [KF.owner_class]
  repeat lk
  refine ⟨Code.quiet_builtin _ (by decide +kernel), codeAny_builtin KF.entry_class ?_⟩
  unfold Builtin.«object.__class__» shownTypeOf
  repeat lk
  exact hq
open PySem.W in
theorem exc_check {M : Model} {nameV : Value} {Q : Unit → Shared → Prop} (KX : K.In h) (x : ExcAt a C h) (c : ExcCls K C) (hq : Q () ⟨h, g, d, t, os⟩) :
    wpAny M A (checkBuiltinCall "BaseException.__getattribute__" ⟨[.ref a, nameV], []⟩) Q E ⟨h, g, d, t, os⟩ := by
  have hk : builtinKind "BaseException.__getattribute__" = some .slot := by decide +kernel
  have hsplit : splitId "BaseException.__getattribute__" = some ("BaseException", "__getattribute__") := by decide +kernel
  have ha := PySem.F.args_bexc_ga (.ref a) nameV
  have L0 := x.type (M := M)
  have L1 := looks_subIn (M := M) KX c.base
  simp only [checkBuiltinCall, hk, hsplit]
  refine wpAny_bind ?_
  unfold isInstance
  refine wpAny_bind (L0.at ?_)
  refine L1.at ?_
  repeat (first | assumption | wp_step)
open PySem.W in
theorem exc_entry {tk : Tok} {Q : Fin → Shared → Prop} (KX : K.In h) (x : ExcAt a C h) (c : ExcCls K C) (hq : Q (.done (.ret (.ref C))) ⟨h, g, d, t, os⟩) :
    wpAny (model prog w) A (Builtin.«object.__getattribute__» ⟨[.ref a, .str "__class__" tk], []⟩) Q E ⟨h, g, d, t, os⟩ := by
  have hT5 : (⟨h, g, d, t, os⟩ : Shared).TypeIs (.builtin "object.__class__") "getset_descriptor" := PySem.F.typeOf_object_class
  have f5 := PySem.F.typeOf_object_class
  have f6 := PySem.F.slot_gs_get.lookup
  have f7 := PySem.F.slot_gs_set.lookup
  have L0 := x.type (M := model prog w)
  have L1 := looks_findIn (M := model prog w) KX c.at_
  repeat (any_goals (first | assumption | with_reducible refine L0.at ?_ | with_reducible refine L1.at ?_ | wp_step))
  refine exc_class_get KX x c ?_
  repeat (any_goals (first | assumption | wp_step))
open PySem.W in
theorem exc_attr {Q : Option Value → Shared → Prop} (KX : K.In h) (x : ExcAt a C h) (c : ExcCls K C) (hq : Q (some (.ref C)) ⟨h, g, d, t + 1, os⟩) :
    wpAny (model prog w) A (getAttr? (.ref a) "__class__") Q E ⟨h, g, d, t, os⟩ := by
  have f3 := PySem.F.excAttr_ValueError.ga.bind (.ref a)
  have L0 := x.type (M := model prog w)
  have L1 := looks_findIn (M := model prog w) KX c.ga
  have L2 := looks_findIn (M := model prog w) KX c.nga
  have hx2 : (Value.builtin "BaseException.__getattribute__" == Value.builtin "object.__getattribute__") = false := by decide +kernel
  have hx1 : (onTheHeap (Value.ref C) && Value.builtin "BaseException.__getattribute__" == Value.builtin "object.__getattribute__") = false := by rw [hx2]; rfl
  unfold getAttr? getAttrBy? getAttrBy
  repeat (any_goals (first | assumption | with_reducible refine L0.at ?_ | with_reducible refine L1.at ?_ | with_reducible refine L2.at ?_ | wp_step))
  refine codeAny_call_builtin PySem.F.excAttr_ValueError.ga.plain PySem.F.entry_bexc_ga (exc_check KX x c (exc_entry KX x c ?_))
  repeat (any_goals (first | assumption | wp_step))
open PySem.W in
theorem kitx_exc (c : ExcCls K C) : KitX K (.ref a) (.ref C) (ExcAt a C) where
  ty := fun _ _ _ x => x.type
  it := fun _ _ KX _ => looks_isType KX c.cls
  ne := fun h tp dd its n sl KX htp => by
    refine Bool.eq_false_iff.mpr fun q => ?_
    have e : C = tp := Value.ref.inj (beq_iff_eq.mp q)
    subst e
    have z := c.cls
    unfold PySem.W.clsIn at z
    split at z
    · rename_i c' d' cd' sl' ho
      have z := (KX _ _ ho).symm.trans htp
      cases z
    · cases z
  ca := fun {prog w A E Q s} KX x k => by obtain ⟨h, g, d, t, os⟩ := s; exact exc_attr KX x c k
end
end L2
namespace L2
open PySem PySem.Spec PyProof.Rows
/-! ### f-strings -/
abbrev TJ := Str → St → Hp → VK → Prop
/-- the parts of an f-string behind what stands already -/
def PJ (X : Cx) (es : List Expr) (t : TJ) : Prop :=
  ∀ (out : Str) (pins : List (Addr × Obj)) (s : Shared) (σ : St) (H : Hp) (Q : VK), Inv X pins σ H s → t out σ H Q → wpAny (model X.prog X.w) X.A (joinParts out (evalEach es X.env)) (EP X pins σ Q) X.xe s
section
variable {X : Cx} {e : Expr} {es : List Expr} {te : TE} {t : TJ} {pos : Pos}
def jNil : TJ := fun out _ H Q => out.length ≤ sizeLine ∧ Q (.str out) H
theorem pj_nil : PJ X [] jNil := fun out pins s σ H Q I h => joinParts_nil (show EP X pins σ Q (.str out s.toks) { s with toks := s.toks + 1 } from ⟨.str out, H, I.tok _, ⟨_, rfl⟩, h.2⟩) h.1
/-- a part whose value is a text -/
def jCons (te : TE) (t : TJ) : TJ := fun out σ H Q => te σ H fun v H1 => ∃ y, v = .str y ∧ (out ++ y).length ≤ sizeLine ∧ t (out ++ y) σ H1 Q
theorem pj_cons (he : PE X e te) (hr : PJ X es t) : PJ X (e :: es) (jCons te t) := by
  intro out pins s σ H Q I h
  refine joinParts_consE (joinParts_cons (thn (he pins s σ H _ I h) fun v s1 ⟨x, H1, I1, r1, y, ex, hz, q⟩ => ?_))
  subst ex
  obtain ⟨tk, rfl⟩ := r1
  exact ⟨hz, hr _ pins s1 σ H1 Q I1 q⟩
theorem pe_fstr {e1 e2 : Expr} {rest : List Expr} (h : PJ X (e1 :: e2 :: rest) t) : PE X (.JoinedStr (e1 :: e2 :: rest) pos) (fun σ H Q => t Str.empty σ H Q) := fun pins s σ H Q I hw => JoinedStr_many (h Str.empty pins s σ H Q I hw)
/-- {e}, an int -/
def tFmtI (te : TE) : TE := fun σ H Q => te σ H fun v H1 => ∃ i, v = .int i ∧ i.natAbs.log2 < 1920 ∧ Q (.str (toString i)) H1
theorem pe_fmtI (he : PE X e te) : PE X (.FormattedValue e (-1) none pos) (tFmtI te) := by
  intro pins s σ H Q I h
  refine FormattedValue_plain (thn (he pins s σ H _ I h) fun v s1 ⟨x, H1, I1, r1, i, ex, hi, q⟩ => ?_)
  subst ex
  obtain ⟨tk, rfl⟩ := r1
  exact formatField_int_small hi ⟨.str _, H1, I1.tok _, ⟨_, rfl⟩, q⟩
theorem log_lt {i : Int} {n : Nat} (h : i.natAbs < 2 ^ n) (hn : n ≤ 1920) (h0 : 0 < n) : i.natAbs.log2 < 1920 := by
  by_cases z : i.natAbs = 0
  · rw [z]; decide
  · have := (Nat.log2_lt z).mpr h
    omega
end
end L2
namespace L2
open PySem PySem.Spec PyProof.Rows
theorem PS.nox {X : Cx} {st : Stmt} {t : TS} (h : PS X.nox st t) : PS X st t := fun pins s σ H D I hw =>
  wpAny_mono (h pins s σ H D (I.wish _) hw) (fun _ _ q => q.unwish) fun _ _ z => False.elim z
/-- no exception is wanted of a callee -/
theorem passN {X : Cx} : Passes (CX1 X.prog X.w) X E0 := fun _ _ _ _ _ _ _ h => by obtain ⟨_, _, _, _, _, _, _, q⟩ := h; exact q.elim
/-- a def of the text, with its promise -/
structure Def (P : Program) (w : World) (K : PySem.W.Frag) (mg : Str → Option Value) (base : Heap) (k : Nat) (x : Str) (ps : List Str) (sp : Sp) : Prop where
  ex : ∃ (f : Addr) (fd : FuncData), FnOk P w K mg base (CX1 P w) k f fd ps sp ∧ mg x = some (.ref f) ∧ PySem.W.keepIn K (.ref f) = true ∧ Binds K fd ps []
section
variable {P : Program} {w : World} {K : PySem.W.Frag} {mg : Str → Option Value} {base : Heap}
theorem Def.mono {j k : Nat} {x : Str} {ps : List Str} {sp : Sp} (D : Def P w K mg base j x ps sp) (h : j ≤ k) : Def P w K mg base k x ps sp := let ⟨f, fd, a, r⟩ := D.ex; ⟨f, fd, a.mono h, r⟩
/-- where a def stands behind the top -/
structure Site (K : PySem.W.Frag) (mg : Str → Option Value) (x : Str) (st : Stmt) : Prop where
  ex : ∃ (f : Addr) (fd : FuncData), Fun K x x st f fd ∧ mg x = some (.ref f)
theorem Site.mk' {h : Heap} {x : Str} {st : Stmt} {f : Addr} {oc : Value} {od an : Option Addr} {osl : Array (Option Value)} {kV doc pm cdv ct : Value} (KX : K.In h) (G : h.Ns mainGlobals mg)
    (a : PySem.W.nsIn K mainGlobals x = some (some (.ref f))) (l : K.lookup f = some ⟨oc, od, .func (PySem.W.fnOf x x (defArgs st) (defBody st) (defScope st) .none kV doc pm an cdv ct), osl⟩)
    (c : PySem.W.codeIn K cdv x = true) (k : PySem.W.keepIn K (.ref f) = true) : Site K mg x st := ⟨f, _, fun_mk l c k, PySem.W.mg_of KX G a⟩
abbrev cx1 (P : Program) (w : World) (K : PySem.W.Frag) (mg : Str → Option Value) (base : Heap) (N : List Str) (x : Str) (st : Stmt) (f : Addr) (cdv : Value) (A : Around) (outer : List Env) (s : Shared) (H : Hp) (E : XK) : Cx :=
  cxOf (CX1 P w) P w K mg base N x (defScope st) f cdv A outer s H E
theorem cx1_body {N : List Str} {x : Str} {st : Stmt} {f : Addr} {cdv : Value} {A : Around} {outer : List Env} {s : Shared} {H : Hp} {E : XK} : Body (cx1 P w K mg base N x st f cdv A outer s H E) E := ⟨rfl, rfl, rfl, rfl⟩
/-- THE RULE for a def -/
theorem Site.def {x : Str} {st : Stmt} {N ps : List Str} {k : Nat} {sp : Sp} (F : Site K mg x st) (S : FnScope N ps (defScope st))
    (hb : ∀ (kV doc pm : Value) (an : Option Addr) (cdv ct : Value) (us : List Value), us.length = ps.length → bindArgs (PySem.W.fnOf x x (defArgs st) (defBody st) (defScope st) .none kV doc pm an cdv ct) ⟨us, []⟩ = pure (ps.zip us))
    (len : ∀ vs H Q E, sp vs H Q E → vs.length = ps.length)
    (hbody : ∀ (f : Addr) (cdv : Value) (A : Around) (outer : List Env) (s : Shared) (H : Hp) (vs : List V) (Q : VK) (E : XK), Room k (A.deeper (envOfC x (defScope st) s.heap.objs.size f cdv)) → sp vs H Q E →
      ∃ t, PSs (cx1 P w K mg base N x st f cdv A outer s H E) (defBody st) t ∧ t { nx := fun _ H' => Q .non H', rt := Q } (start N vs) H) : Def P w K mg base (k + 1) x ps sp := by
  obtain ⟨f, fd, F1, hm⟩ := F.ex
  have b := F1.binds hb
  have kp := F1.kp
  obtain ⟨oc, od, kV, doc, pm, an, cdv, ct, osl, rfl, lk, hcd⟩ := F1.ex
  exact ⟨f, _, fn_of lk hcd S len fun A outer s H vs Q E hr hsp => hbody f cdv A outer s H vs Q E hr hsp, hm, kp, b⟩
end
section
variable {X : Cx} {k : Nat} {ps : List Str} {sp : Sp} {E : XK} {x : Str} {p pos : Pos} {e : Expr} {es : List Expr} {t : TA}
/-- f(e, ..) of a def of the text -/
theorem pe_def (D : Def X.prog X.w X.K X.mg X.base k x ps sp) (hr : Room k X.A) (hx : Passes (CX1 X.prog X.w) X E) (ha : PA X (e :: es) t) (hg : Gl X x := by rfl) (hdb : (x == ("__debug__" : Str)) = false := by decide)
    (he : starEach (e :: es) X.env = (false, eval e X.env) :: starEach es X.env := by rfl) (hpl : (backTo pos (starEach es X.env)).any (·.1) = false := by rfl) :
    PE X (.Call (.Name x p) (e :: es) [] pos) (tCall sp [] E t) := by
  obtain ⟨f, fd, F, hm, hk, hb⟩ := D.ex
  exact pe_call F hr hg hm hk hb .nil hx ha hdb he hpl
end
end L2
namespace L2
open PySem PySem.Spec PyProof.Rows
section
variable {X : Cx}
/-! ### xs + ys of lists that are read -/
def rCatS (K : PySem.W.Frag) : R2 := fun x y H Q => ∃ l b xs zs, x = .ref l ∧ y = .ref b ∧ SqL K H l xs ∧ SqL K H b zs ∧ xs.length + zs.length ≤ sizeLine ∧ ∀ p, H p = none → Q (.ref p) (upd H p (.lst (xs ++ zs)))
theorem op_catS : OpR X (binaryOp .Add) (rCatS X.K) := by
  intro pins s σ H x y v u Q I rx ry h
  obtain ⟨l, b, xs, zs, rfl, rfl, hH, hB, hz, q⟩ := h
  cases rx
  cases ry
  obtain ⟨its, r, pl, _⟩ := I.list hH
  obtain ⟨its2, r2, pl2, _⟩ := I.list hB
  obtain ⟨⟨cls, dd, data, sl⟩, ho, hc, n, hd⟩ := id pl.isList
  obtain ⟨⟨cls2, dd2, data2, sl2⟩, ho2, hc2, n2, hd2⟩ := id pl2.isList
  simp only at hc hd hc2 hd2
  subst hc hd hc2 hd2
  have e : its.toArray ++ its2.toArray = (its ++ its2).toArray := by simp
  have hsz : its.toArray.size + its2.toArray.size ≤ sizeLine := by
    rw [List.size_toArray, List.size_toArray, ← r.length, ← r2.length]; exact hz
  refine concat_meets ⟨_, ho, rfl⟩ ⟨_, ho2, rfl⟩ noFill_list_add seq_list_add PySem.F.slot_list_add PySem.F.entry_list_add (PySem.F.args_list_add_2 _ _) (list_addW l b its.toArray its2.toArray n n2 dd dd2 sl sl2 hsz) ⟨ho, ho2, ?_⟩
  rw [e]
  exact ⟨.ref _, _, I.lnew (t' := s.toks) (r.append r2) (by rw [List.length_append]; exact hz), rfl, q _ I.fresh⟩
/-! ### isinstance -/
/-- isinstance(x, C): C a built-in class or one's own -/
def clsV : V → Value → Prop
  | .ty n, c => c = .type n
  | .ref a, c => c = .ref a
  | _, _ => False
theorem clsV_rel {v : V} {c u : Value} (h : clsV v c) (r : RelV v u) : u = c := by
  cases v with
  | ty n => exact (show u = Value.type n from r).trans (show c = Value.type n from h).symm
  | ref a => exact (show u = Value.ref a from r).trans (show c = Value.ref a from h).symm
  | _ => exact h.elim
/-- what isinstance may be asked of: TyOf's, or an exception of one's own -/
inductive TyX (K : PySem.W.Frag) (H : Hp) : V → Value → Prop where
  | of {x : V} {t : Value} : TyOf K H x t → TyX K H x t
  | exc {a C : Addr} : H a = some (.ext (ExcAt a C)) → ExcCls K C → TyX K H (.ref a) (.ref C)
def rIsi (K : PySem.W.Frag) : List V → Hp → VK → Prop := fun xs H Q => ∃ x y t c b, xs = [x, y] ∧ clsV y c ∧ TyX K H x t ∧ PySem.W.kitOne K t c = some b ∧ Q (.bl b) H
theorem call_isi : CallR X (.builtin "isinstance") (rIsi X.K) := by
  intro pins s σ H vs us Q I rv h
  obtain ⟨x, y, t, c, b, rfl, hc, ty, e, q⟩ := h
  obtain ⟨u, v, rfl, ru, rw'⟩ := rv.two
  obtain rfl := clsV_rel hc rw'
  cases ty with
  | of ty => exact isinst_ok I ru ty e fun tk => ⟨.bl b, H, I.tok _, rfl, q⟩
  | exc ex ec =>
    cases ru
    exact PySem.W.kia_one (kitx_exc ec) I.kIn (I.hok _ _ ex).1 e (fun z => nomatch z) fun tk => ⟨.bl b, H, I.tok _, rfl, q⟩
end
end L2
namespace L2
open PySem PySem.Spec PyProof.Rows
/-- isinstance(..), the written part named: for a suite whose reading may not name its exception -/
theorem pe_isi {X : Cx} (K : PySem.W.Frag) {e1 e2 : Expr} {t : TA} {p pos : Pos} (hm : X.mg "isinstance" = none) (ha : PA X [e1, e2] t) (hK : X.K = K := by rfl) (hg : Gl X "isinstance" := by rfl)
    (he : starEach [e1, e2] X.env = (false, eval e1 X.env) :: starEach [e2] X.env := by rfl) (hpl : (backTo pos (starEach [e2] X.env)).any (·.1) = false := by rfl) :
    PE X (.Call (.Name "isinstance" p) [e1, e2] [] pos) (tCB (rIsi K) t) := by
  subst hK
  exact pe_callB call_isi hg hm boot_isinstance ha (by decide) (by decide) he hpl
theorem boot_ValueError : bootBuiltins "ValueError" = some (.type "ValueError") := by decide +kernel
end L2
namespace L2
open PySem PySem.Spec PyProof.Rows
/-- law's promise: a list of at most 63 ints is handed in, True comes out -/
def spLaw (K : PySem.W.Frag) : Sp := fun vs H Q _ => ∃ (a : Addr) (ns : List Int), vs = [.ref a] ∧ SqL K H a (ns.map V.int) ∧ ns.length ≤ 63 ∧ ∀ H', Q (.bl true) H'
section
variable {P : Program} {w : World} {K : PySem.W.Frag} {mg : Str → Option Value} {base : Heap}
theorem Fun.ok1 {x : Str} {st : Stmt} {f : Addr} {fd : FuncData} {N ps : List Str} {k : Nat} {sp : Sp} (F : Fun K x x st f fd) (S : FnScope N ps (defScope st)) (len : ∀ vs H Q E, sp vs H Q E → vs.length = ps.length)
    (hbody : ∀ (f : Addr) (cdv : Value) (A : Around) (outer : List Env) (s : Shared) (H : Hp) (vs : List V) (Q : VK) (E : XK), Room k (A.deeper (envOfC x (defScope st) s.heap.objs.size f cdv)) → sp vs H Q E →
      ∃ t, PSs (cx1 P w K mg base N x st f cdv A outer s H E) (defBody st) t ∧ t { nx := fun _ H' => Q .non H', rt := Q } (start N vs) H) : FnOk P w K mg base (CX1 P w) (k + 1) f fd ps sp := by
  obtain ⟨oc, od, kV, doc, pm, an, cdv, ct, osl, rfl, lk, hcd⟩ := F.ex
  exact fn_of lk hcd S len fun A outer s H vs Q E hr hsp => hbody f cdv A outer s H vs Q E hr hsp
theorem law_site {st : Stmt} {fa : Addr} {k : Nat} (S : Site K mg "law" st)
    (hb : ∀ (kV doc pm : Value) (an : Option Addr) (cdv ct : Value) (us : List Value), us.length = 1 → bindArgs (PySem.W.fnOf "law" "law" (defArgs st) (defBody st) (defScope st) .none kV doc pm an cdv ct) ⟨us, []⟩ = pure ((["script"] : List Str).zip us))
    (hmg : mg "law" = some (.ref fa)) (hF : ∀ (f : Addr) (fd : FuncData) (base : Heap), Fun K "law" "law" st f fd → FnOk P w K mg base (CX1 P w) k f fd ["script"] (spLaw K)) :
    ∃ fd : FuncData, (∀ (s : Shared) (u : Value), BindsTo s fd ⟨[u], []⟩ [("script", u)]) ∧ ∀ base : Heap, K.In base → base.Ns mainGlobals mg → FnOk P w K mg base (CX1 P w) k fa fd ["script"] (spLaw K) := by
  obtain ⟨f, fd, F, hm⟩ := S.ex
  rw [hmg] at hm
  cases hm
  refine ⟨fd, ?_, fun base _ _ => hF fa fd base F⟩
  obtain ⟨oc, od, kV, doc, pm, an, cdv, ct, osl, rfl, lk, hcd⟩ := F.ex
  exact fun s u => .of_eq (hb kV doc pm an cdv ct [u] rfl)
end
theorem walk_ofS {l : PySem.W.OpenLaw} {k : Nat} {q : Program} {loose : List Str} {XP : (Str → Option Value) → Heap → Prop} {YP : World → Heap → Prop} {d : DefRec} {K : Params → PySem.W.Frag}
    (hr : Room k callerA) (hn : l.most = some 63) (hdf : d.params.defaults = [])
    (hY : ∀ (w : World) (h : Heap), YP w h → (K w.params).In h)
    (F : ∀ (w : World) (mg : Str → Option Value) (fa : Addr) (h : Heap), (K w.params).In h → h.Ns mainGlobals mg → mg d.name = some (.ref fa) →
      ∃ fd : FuncData, (∀ (s : Shared) (u : Value), BindsTo s fd ⟨[u], []⟩ [("script", u)]) ∧
        ∀ base : Heap, (K w.params).In base → base.Ns mainGlobals mg → FnOk l.prog w (K w.params) mg base (CX1 l.prog w) k fa fd ["script"] (spLaw (K w.params))) :
    PySem.W.WalkO q loose XP YP l.row.toRowW d [] (fun f vs => PySem.call f vs) :=
  walk_of (n := 63) (k := k) (x := "script") (CX := fun w => CX1 l.prog w) (sp := fun w => spLaw (K w.params)) hn (by decide) hdf hr hY F (fun _ _ a ns hl _ hS => ⟨a, ns, rfl, hS, hl, fun _ => rfl⟩)
    fun _ _ _ _ _ h => by obtain ⟨_, _, _, _, _, _, _, q⟩ := h; exact q.elim
/-! ### globals -/
theorem pe_gint {X : Cx} {x : Str} {n : Int} {pos : Pos} (h : ∃ tk, X.mg x = some (.int n tk)) (hg : Gl X x := by rfl) (hd : (x == ("__debug__" : Str)) = false := by decide) : PE X (.Name x pos) (tC (.int n)) := by
  obtain ⟨tk, e⟩ := h
  exact pe_glob hg e ⟨tk, rfl⟩ hd
end L2
namespace L2
open PySem
theorem iteN {p A B : Prop} [Decidable p] (hp : ¬ p) (h : B) : if decide p = true then A else B := by rw [decide_eq_false hp]; exact iteF h
theorem iteY {p A B : Prop} [Decidable p] (hp : p) (h : A) : if decide p = true then A else B := by rw [decide_eq_true hp]; exact iteT h
theorem iteNN {p A B : Prop} [Decidable p] (hp : p) (h : B) : if (!decide p) = true then A else B := by rw [decide_eq_true hp]; exact iteF h
theorem iteNY {p A B : Prop} [Decidable p] (hp : ¬ p) (h : A) : if (!decide p) = true then A else B := by rw [decide_eq_false hp]; exact iteT h
theorem small_abs {n : Int} (h : -1000 ≤ n) (h2 : n ≤ 1000) : n.natAbs < 2 ^ 1000 := by
  have : n.natAbs ≤ 1000 := by omega
  exact Nat.lt_of_le_of_lt this (by decide)
/-- one more object -/
theorem Same.put {H H' : Hp} {p : Addr} {o : HO} (s : Same H H') (hp : H p = none) : Same H (upd H' p o) := fun b u e => by rw [upd_ne (ne_of_none e hp)]; exact s b u e
theorem Same.new {H H' : Hp} {p : Addr} {o : HO} (s : Same H H') (hp : H' p = none) : Same H (upd H' p o) := s.put (s.free hp)
end L2
namespace L2
open PySem
theorem at4 (c a0 a1 a2 a3 : Int) : ∃ v, atI [V.int a0, V.int a1, V.int a2, V.int a3] (c % 4) = some (V.int v) ∧ (v = a0 ∨ v = a1 ∨ v = a2 ∨ v = a3) := by
  have h : c % 4 = 0 ∨ c % 4 = 1 ∨ c % 4 = 2 ∨ c % 4 = 3 := by omega
  rcases h with h | h | h | h <;> rw [h]
  · exact ⟨a0, rfl, .inl rfl⟩
  · exact ⟨a1, rfl, .inr (.inl rfl)⟩
  · exact ⟨a2, rfl, .inr (.inr (.inl rfl))⟩
  · exact ⟨a3, rfl, .inr (.inr (.inr rfl))⟩
end L2
namespace L2
open PySem PySem.Spec PyProof.Rows
theorem entry_unchain : entryFor table "proto.unchain" = some Builtin.«proto.unchain» := entryFor_of_fast (by kernel_rfl)
section
variable {prog : Program} {w : World} {A : Around} {E : Value → Shared → Prop} {s : Shared} {α : Type}
theorem raise_h {e a : Addr} {oe oa : Obj} {ves vas : Array Value} {Q : α → Shared → Prop} (hh : A.handled = some (.ref a)) (hne : a ≠ e) (he : s.heap.get? e = some oe) (de : oe.data = .fields ves) (ze : 2 < ves.size) (ha : s.heap.get? a = some oa) (da : oa.data = .fields vas) (v2 : vas[2]? = some .none)
    (hE : E (.ref e) { s with heap := s.heap.update e (Obj.mapFields (·.setIfInBounds 2 (.ref a))) }) : wpAny (model prog w) A (raiseNew (.ref e) : Sem α) Q E s := by
  unfold raiseNew
  refine wpAny_bind (wpAny_handled ?_)
  rw [hh]
  dsimp only
  rw [if_pos (show (Value.ref a != Value.ref e) = true by simp [hne])]
  refine wpAny_bind (wpAny_holding (wpAny_runValue (codeAny_builtin entry_unchain ?_)))
  show wpAny _ _ (field (.ref a) 2 >>= _) _ _ s
  refine wpAny_bind (wpAny_field ha da v2 ?_)
  rw [if_pos (show (Value.none == Value.none) = true by rfl)]
  refine wpAny_pure ?_
  show wpAny (model prog w) A (setField (.ref e) 2 (.ref a) >>= fun _ => throw (Value.ref e)) Q E s
  exact wpAny_bind (wpAny_setField he de ze (wpAny_throw hE))
/-- a range ends while an exception is handled -/
theorem next_end_h {it a : Addr} {x left step : Int} {oa : Obj} {vas : Array Value} {Q : Option Value → Shared → Prop} (hh : A.handled = some (.ref a)) (hit : IsRangeIter s.heap it x left step) (hleft : left ≤ 0) (ha : s.heap.get? a = some oa) (da : oa.data = .fields vas) (v2 : vas[2]? = some .none)
    (hQ : ∀ h', Heap.ExtBut it s.heap h' → Q none { s with heap := h' }) : wpAny (model prog w) A (pyNext (.ref it)) Q E s := by
  have ty : s.TypeIs (.ref it) "range_iterator" := ⟨_, hit, rfl⟩
  unfold pyNext
  refine wpAny_bind (wpAny_attempt (wpAny_callSpecial?_slot (name := Str.ofString "__next__") ty F.slot_range_iterator_next (wpAny_call_entry F.slot_range_iterator_next ty F.entry_range_iterator_next ?_ (F.args_range_iterator_next_1 _))))
  show wpAny _ _ (do let y ← field (.ref it) 0; _) _ _ s
  refine wpAny_bind (wpAny_field (x := rawInt x) hit rfl rfl ?_)
  show wpAny _ _ (do let y ← field (.ref it) 1; _) _ _ s
  refine wpAny_bind (wpAny_field (x := rawInt left) hit rfl rfl ?_)
  show wpAny _ _ (do let y ← field (.ref it) 2; _) _ _ s
  refine wpAny_bind (wpAny_field (x := rawInt step) hit rfl rfl ?_)
  show wpAny _ _ (ite (left ≤ 0) _ _) _ _ s
  rw [if_pos hleft]
  refine wpAny_bind (wpAny_rule (wpAny_bind ?_))
  show wpAny _ _ (do let y ← newExc (.type "StopIteration") []; _) _ _ _
  refine wpAny_bind ?_
  simp only [newExc, newTuple]
  refine wpAny_bind (wpAny_newObj_type ?_ (by size_fits))
  refine wpAny_bind (m := firstArgMember _ _) (wpAny_of_eq (a := Value.none) (by first | rfl | (simp only [firstArgMember]; rfl)) ?_)
  refine wpAny_newObj_type ?_ (by size_fits)
  have k1 : ∀ b o, s.heap.get? b = some o → ((s.heap.push { cls := Value.type "tuple", data := Data.seq #[] }).push { cls := Value.type "StopIteration", data := Data.fields (#[Value.ref s.heap.objs.size, Value.none, Value.none, Value.none, Value.bool false, Value.none] ++ ownMembersOf (Value.type "StopIteration") []) }).get? b = some o := fun b o e => Heap.get?_push_of_some _ (Heap.get?_push_of_some _ e)
  have hz : (s.heap.push { cls := Value.type "tuple", data := Data.seq #[] }).objs.size = s.heap.objs.size + 1 := Heap.size_push ..
  have hlt : ∀ b o, s.heap.get? b = some o → b ≠ (s.heap.push { cls := Value.type "tuple", data := Data.seq #[] }).objs.size := fun b o e => by rw [hz]; exact Nat.ne_of_lt (Nat.lt_succ_of_lt (Heap.lt_size e))
  refine raise_h (a := a) hh (hlt a oa ha) (Heap.get?_push_size _ rfl) rfl (by rw [Array.size_append]; exact Nat.lt_of_lt_of_le (show 2 < 6 by decide) (Nat.le_add_right _ _)) (k1 a oa ha) da v2 ?_
  refine wpAny_bind (wpAny_isInstance (T := "StopIteration") (b := true) ⟨_, Heap.get?_update_self _ (Heap.get?_push_size _ rfl) (Obj.isFreed_of_fields (Obj.data_mapFields rfl _)), Obj.cls_mapFields _ _⟩ isSubtype_stop ?_)
  exact wpAny_pure (hQ _ fun b o _ e => (Heap.get?_update_other _ _ (Ne.symm (hlt b o e))).trans (k1 b o e))
end
end L2
namespace L2
open PySem PySem.Spec PyProof.Rows
structure TurnH (ha : Addr) (P : Program) (w : World) (K : PySem.W.Frag) (tg : Expr) (J : It) (fp : List Addr) (it : Addr) (tn : Nat → Heap → Prop) : Prop where
  mem : it ∈ fp
  obj : ∀ i h, tn i h → ∀ b ∈ fp, ∃ o, h.get? b = some o ∧ ∀ v, o.data ≠ .cell v
  keep : ∀ i h h', tn i h → (∀ b ∈ fp, ∀ o, h.get? b = some o → h'.get? b = some o) → tn i h'
  item : ∀ (X : Cx), X.prog = P → X.w = w → X.K = K → X.A.handled = some (.ref ha) → ∀ (i : Nat) (pins : List (Addr × Obj)) (s : Shared) (σ : St) (H : Hp) (E : Value → Shared → Prop), Inv X pins σ H s → (∀ b ∈ fp, FpOk X pins H b) → tn i s.heap → J.go i H →
    wpAny (model P w) X.A (pyNext (.ref it)) (fun r s1 => ∃ u, r = some u ∧
      wpAny (model P w) X.A (letOwnedTupleGo tg (.ref it) u) (fun _ s2 => ∃ x H', Inv X pins σ H' s2 ∧ RelV x u ∧ J.yld i H x H' ∧ tn (i + 1) s2.heap ∧ ∀ b ∈ fp, H' b = none) E s1) E s
  done : ∀ (X : Cx), X.prog = P → X.w = w → X.K = K → X.A.handled = some (.ref ha) → ∀ (i : Nat) (pins : List (Addr × Obj)) (s : Shared) (σ : St) (H : Hp) (E : Value → Shared → Prop), Inv X pins σ H s → (∀ b ∈ fp, FpOk X pins H b) → tn i s.heap → J.stop i H →
    wpAny (model P w) X.A (pyNext (.ref it)) (fun r s1 => r = none ∧ Inv X pins σ H s1) E s
  self : ∀ (A : Around) (i : Nat) (s : Shared) (Q : Value → Shared → Prop) (E : Value → Shared → Prop), tn i s.heap → Q (.ref it) s → wpAny (model P w) A (pyIter (.ref it)) Q E s
def PIEH (ha : Addr) (X : Cx) (pins : List (Addr × Obj)) (σ : St) (tg : Expr) (R : It → Hp → Prop) (itv : Value) (s2 : Shared) : Prop :=
  ∃ (it : Addr) (fp : List Addr) (tn : Nat → Heap → Prop) (J : It) (H' : Hp), itv = .ref it ∧ Inv X pins σ H' s2 ∧ TurnH ha X.prog X.w X.K tg J fp it tn ∧ tn 0 s2.heap ∧ (∀ b ∈ fp, FpOk X pins H' b) ∧ R J H'
def PIH (ha : Addr) (X : Cx) (tg iter : Expr) (wi : TI) : Prop :=
  ∀ (pins : List (Addr × Obj)) (s : Shared) (σ : St) (H : Hp) (R : It → Hp → Prop), Inv X pins σ H s → wi σ H R →
    wpAny (model X.prog X.w) X.A (eval iter X.env) (fun v s1 => wpAny (model X.prog X.w) X.A (pyIter v) (PIEH ha X pins σ tg R) X.xe s1) X.xe s

/-- lo, lo + 1, ..; at the end the exception that is handled must be known -/
def ItrH (ha : Addr) (lo : Int) (n : Nat) : It := ⟨fun i _ => i < n, fun i H x H' => H' = H ∧ x = .int (lo + i), fun i H => n ≤ i ∧ ∃ C, H ha = some (.ext (ExcAt ha C))⟩
theorem turn_rangeH {P : Program} {w : World} {K : PySem.W.Frag} {tg : Expr} (ha it : Addr) (lo : Int) (n : Nat) : TurnH ha P w K tg (ItrH ha lo n) [it] it (fun i h => IsRangeIter h it (lo + (i : Nat) * 1) ((n : Int) - (i : Nat)) 1) := by
  refine ⟨by simp, fun i h st b hb => ?_, fun i h h' st k => k it (by simp) _ st, ?_, ?_, fun _ _ _ _ _ st h => wpAny_pyIter_rangeiter st h⟩
  · obtain rfl : b = it := by simpa using hb
    exact ⟨_, st, fun v z => by
      have z' : Data.fields _ = Data.cell v := z
      cases z'⟩
  · intro X hP hw hK hh i pins s σ H E I hf st hg
    subst hP hw hK
    have hg : i < n := hg
    obtain ⟨f0, f1, f2, f3, f4, f5⟩ := hf it (by simp)
    refine wpAny_pyNext_range_item st (by omega) fun h' st' sb => ?_
    have I1 : Inv X pins σ H { s with heap := h', toks := s.toks + 1 } := I.turned (fun b o hb e => (sb.2 b hb).trans e) f0 f1 f3 f4 f5
    have st2 : IsRangeIter h' it (lo + ((i + 1 : Nat) : Int) * 1) ((n : Int) - ((i + 1 : Nat) : Int)) 1 := by
      rw [show lo + ((i + 1 : Nat) : Int) * 1 = lo + (i : Int) * 1 + 1 by omega, show (n : Int) - ((i + 1 : Nat) : Int) = (n : Int) - (i : Int) - 1 by omega]
      exact st'
    refine ⟨_, rfl, go_of (s := { s with heap := h', toks := s.toks + 1 }) (n := "range_iterator") st2 rfl rfl (by decide) ⟨.int (lo + i), H, I1, ⟨s.toks, ?_⟩, ⟨rfl, rfl⟩, st2, fun b hb => (hf b hb).1⟩⟩
    rw [Int.mul_one]
  · intro X hP hw hK hh i pins s σ H E I hf st hg
    subst hP hw hK
    obtain ⟨hn, C, hx⟩ := hg
    obtain ⟨f0, f1, f2, f3, f4, f5⟩ := hf it (by simp)
    obtain ⟨oe, vs, he, _, hd, h2⟩ := (I.hok ha _ hx).1
    exact next_end_h hh st (by omega) he hd h2 fun h' eb => ⟨rfl, I.turned (t' := s.toks) (fun b o hb e => eb b o hb e) f0 f1 f3 f4 f5⟩
section
variable {X : Cx} {tg : Expr} {ha : Addr}
theorem range_itH {pins : List (Addr × Obj)} {σ : St} {H : Hp} {s : Shared} {R : It → Hp → Prop} {E : Value → Shared → Prop} {lo hi : Int} {t u v : Tok} {tk : Nat} (I : Inv X pins σ H s) (h1 : -(2 ^ 62) ≤ lo) (h2 : lo < 2 ^ 62) (h3 : -(2 ^ 62) ≤ hi) (h4 : hi < 2 ^ 62)
    (q : R (ItrH ha lo (hi - lo).toNat) H) : wpAny (model X.prog X.w) X.A (pyIter (.ref s.heap.objs.size)) (PIEH ha X pins σ tg R) E { s with heap := s.heap.push { cls := .type "range", data := .fields #[.int lo t, .int hi u, .int 1 v] }, toks := tk } := by
  refine wpAny_pyIter_range (IsRange.new ..) (small_one h1 h2 h3 h4) ?_
  have I1 : Inv X pins σ H { s with heap := s.heap.push { cls := .type "range", data := .fields #[.int lo t, .int hi u, .int 1 v] }, toks := tk } := I.kept fun b o e => Heap.get?_push_of_some _ e
  refine ⟨(s.heap.push { cls := .type "range", data := .fields #[.int lo t, .int hi u, .int 1 v] }).objs.size, [(s.heap.push { cls := .type "range", data := .fields #[.int lo t, .int hi u, .int 1 v] }).objs.size], _, _, H, rfl,
    I1.kept (t' := tk) fun b o e => Heap.get?_push_of_some _ e, turn_rangeH ha _ lo (hi - lo).toNat, ?_, fun b hb => ?_, q⟩
  · have e1 : lo + ((0 : Nat) : Int) * 1 = lo := by simp
    have e2 : (((hi - lo).toNat : Nat) : Int) - ((0 : Nat) : Int) = Builtin.Range.rangeSize lo hi 1 := by rw [rangeSize_one]; split <;> omega
    show IsRangeIter _ _ (lo + ((0 : Nat) : Int) * 1) ((((hi - lo).toNat : Nat) : Int) - ((0 : Nat) : Int)) 1
    rw [e1, e2]
    exact Heap.get?_push_size _ rfl
  · have e : b = (s.heap.push { cls := .type "range", data := .fields #[.int lo t, .int hi u, .int 1 v] }).objs.size := by simpa using hb
    subst e
    exact I1.fpOk (Nat.le_refl _) (I1.hok.fresh (Nat.le_refl _))
def iRng1H (ha : Addr) (ta : TA) : TI := fun σ H R => ta σ H fun vs H1 => ∃ j : Int, vs = [.int j] ∧ -(2 ^ 62) ≤ j ∧ j < 2 ^ 62 ∧ R (ItrH ha 0 j.toNat) H1
theorem pi_range1H {a : Expr} {ta : TA} {p pos : Pos} (hg : Gl X "range") (hm : X.mg "range" = none) (ha' : PA X [a] ta) (hs : starEach [a] X.env = [(false, eval a X.env)] := by rfl) : PIH ha X tg (.Call (.Name "range" p) [a] [] pos) (iRng1H ha ta) := by
  intro pins s σ H R I h
  refine Call_ (ld_blt I hg hm boot_range (PyProof.Rows.callWith_type1 (thn (ha' pos pins s σ H _ I h) fun us s1 ⟨vs, H1, I1, r1, q1⟩ => ?_) hs rfl))
  obtain ⟨j, e, q1, q2, q⟩ := q1
  subst e
  cases r1 with
  | cons r rr =>
    cases rr
    obtain ⟨t, rfl⟩ := r
    exact call_range_1 (range_itH I1 (by omega) (by omega) q1 q2 (by simpa using q))
end
structure RoomH (k : Nat) (A : Around) : Prop where
  dp : A.depth + 3 * k + 5 < recursionLimit
  un : A.units + 16 * k + 200 < cLine
theorem RoomH.depth {k : Nat} {A : Around} (r : RoomH k A) : A.depth < recursionLimit := by have := r.dp; omega
theorem RoomH.deeper {k : Nat} {A : Around} (r : RoomH (k + 1) A) (env : Env) : RoomH k (A.deeper env) :=
  ⟨by have := r.dp; show A.depth + 1 + 3 * k + 5 < _; omega, by have := r.un; show A.units + 3 + 16 * k + 200 < _; omega⟩
theorem Room.toH {j k : Nat} {A : Around} (r : Room k A) (h : j ≤ k) (v : Option Value) : RoomH j (A.mark v) := ⟨by have := r.dp; show A.depth + 3 * j + 5 < _; omega, by have := r.un; show A.units + 16 * j + 200 < _; omega⟩
def cxOfH (CX : CXT) (P : Program) (w : World) (K : PySem.W.Frag) (mg : Str → Option Value) (base : Heap) (N : List Str) (qual : Str) (scope : Scope) (f : Addr) (cd : Value) (A : Around) (outer : List Env) (s : Shared) (H : Hp) (E : XK) : Cx :=
  { cxOf CX P w K mg base N qual scope f cd A outer s H E with calm := false }
/-- a def that may be called while the exception at a is handled -/
structure FnOkH (P : Program) (w : World) (K : PySem.W.Frag) (mg : Str → Option Value) (base : Heap) (CX : CXT) (k : Nat) (f : Addr) (fd : FuncData) (ps : List Str) (sp : Addr → Sp) : Prop where
  len : ∀ a vs H Q E, sp a vs H Q E → vs.length = ps.length
  run : ∀ (A : Around) (outer : List Env) (s : Shared) (H : Hp) (args : Args) (us : List Value) (vs : List V) (Q : VK) (E : XK) (a : Addr), A.handled = some (.ref a) → RoomH k A → Env0 P w K mg base A outer s H → BindsTo s fd args (ps.zip us) → Vals vs us → sp a vs H Q E →
    codeAny (model P w) A (.call (.ref f) args) (CR CX outer P w H s Q E) s
theorem inv_startH {CX : CXT} {P : Program} {w : World} {K : PySem.W.Frag} {mg : Str → Option Value} {base : Heap} {N ps : List Str} {qual : Str} {scope : Scope} {f : Addr} {cd : Value} {A : Around} {outer : List Env} {s s1 : Shared} {H : Hp} {E : XK} {us : List Value} {vs : List V}
    (S : FnScope N ps scope) (e0 : Env0 P w K mg base A outer s H) (hl : vs.length = ps.length) (r : Vals vs us)
    (x : InCallC s s.heap.objs.size (bindL (envOfC qual scope s.heap.objs.size f cd).kindOf (ps.zip us) fun _ => none) (cellsFrom (s.heap.objs.size + 1) scope.names []) (bindC (envOfC qual scope s.heap.objs.size f cd).kindOf (ps.zip us) fun _ => none) s1) :
    Inv (cxOfH CX P w K mg base N qual scope f cd A outer s H E) [] (start N vs) H s1 := by
  have hpl : ps.length ≤ N.length := by have := congrArg List.length S.pre; rw [List.length_take] at this; omega
  obtain ⟨h1, tk, rfl, hk⟩ := x.done
  have noA : ∀ b : Addr, b ∉ (cxOfH CX P w K mg base N qual scope f cd A outer s H E).ex := fun b z => absurd (show b ∈ ([] : List Addr) from z) (by simp)
  refine ⟨⟨e0.mod, S.kind, rfl, rfl, Nat.le_refl _, fun y z c h1 h2 => ?_, fun y hy => ?_, fun y c _ h => ?_, (fun z => by cases z), Around.frames_deeper e0.frames, .inr ⟨rfl, rfl⟩, fun b z => absurd z (noA b), e0.bs, e0.bsz, fun b _ _ => noA b, fun b z => absurd z (noA b), e0.funs, e0.frf⟩,
    rfl, e0.bare, Un.kept hk, ⟨_, x.toInCall.ns, fun i y v h1 h2 h3 => ?_⟩, fun y c h => ⟨_, x.cell y c h⟩, e0.hok.fresh (Nat.le_refl _), fun y c h => ?_, fun p hp => absurd (show p ∈ ([] : List (Addr × Obj)) from hp) (by simp), e0.hok.kept hk, ?_⟩
  · exact name_of_addr x.apart (PySem.mem_of_lookup h1) (PySem.mem_of_lookup h2)
  · have hy : scope.names.lookup y = some .cell ∨ scope.names.lookup y = some .free := hy
    rcases hy with hy | hy
    · exact cell_has hy
    · exact absurd rfl (S.nofree _ (PySem.mem_of_lookup hy))
  · exact Nat.le_of_lt (x.above y c (PySem.mem_of_lookup h))
  · have hi : i < vs.length := by
      unfold start at h2
      by_cases hi : i < vs.length
      · exact hi
      · rw [List.getElem?_append_right (by simpa using hi)] at h2
        rw [List.getElem?_replicate] at h2
        split at h2 <;> cases h2
    have ha : vs[i]? = some v := by
      unfold start at h2
      rw [List.getElem?_append_left (by simpa using hi), List.getElem?_map] at h2
      cases e : vs[i]? with
      | none => rw [e] at h2; cases h2
      | some a => rw [e] at h2; cases h2; rfl
    obtain ⟨u, hu, rv⟩ := r.get ha
    have hp : ps[i]? = some y := by
      rw [← S.pre, List.getElem?_take_of_lt (by omega)]; exact h1
    have ndP : ps.Nodup := by rw [← S.pre]; exact S.nd.sublist (List.take_sublist _ _)
    refine ⟨u, rv, ?_⟩
    rcases S.par y (List.mem_of_getElem? hp) with k | k
    · exact .inl ⟨k, bindL_get ndP hp hu k⟩
    · obtain ⟨c, e⟩ := cell_has (n := s.heap.objs.size + 1) k
      refine .inr ⟨.inl k, c, e, ?_⟩
      have q := x.cell y c e
      rw [bindC_get ndP hp hu (by show scope.names.lookup y ≠ _; rw [k]; decide)] at q
      exact q
  · exact e0.hok.fresh (Nat.le_of_lt (x.above y c (PySem.mem_of_lookup h)))
  · unfold start
    show _ = N.length
    rw [List.length_append, List.length_map, List.length_replicate]
    omega

theorem fn_ofH {CX : CXT} {P : Program} {w : World} {K : PySem.W.Frag} {mg : Str → Option Value} {base : Heap} {k : Nat} {f : Addr} {name qual : Str} {params : Arguments} {body : List Stmt} {scope : Scope} {dV kV doc pm cdv ct oc : Value} {an od : Option Addr}
    {osl : Array (Option Value)} {N ps : List Str} {sp : Addr → Sp} (lk : K.lookup f = some ⟨oc, od, .func (PySem.W.fnOf name qual params body scope dV kV doc pm an cdv ct), osl⟩) (hcd : PySem.W.codeIn K cdv qual = true) (S : FnScope N ps scope)
    (len : ∀ a vs H Q E, sp a vs H Q E → vs.length = ps.length)
    (hbody : ∀ (A : Around) (outer : List Env) (s : Shared) (H : Hp) (vs : List V) (Q : VK) (E : XK) (a : Addr), A.handled = some (.ref a) → RoomH k (A.deeper (envOfC qual scope s.heap.objs.size f cdv)) → sp a vs H Q E →
      ∃ t, PSs (cxOfH CX P w K mg base N qual scope f cdv A outer s H E) body t ∧ t { nx := fun _ H' => Q .non H', rt := Q } (start N vs) H) :
    FnOkH P w K mg base CX (k + 1) f (PySem.W.fnOf name qual params body scope dV kV doc pm an cdv ct) ps sp := by
  refine ⟨len, fun A outer s H args us vs Q E a hh hr e0 hb r hsp => ?_⟩
  have hl := len _ _ _ _ _ hsp
  have KX : K.In s.heap := e0.mod.kin.keeps fun b o e => (e0.bs b o e).1
  have lim : s.heap.NoLimit := e0.mod.nolimit.keeps fun b o e => (e0.bs b o e).1
  have hkind : ∀ y ∈ ps.zip us, scope.names.lookup y.1 = some .local ∨ (scope.names.lookup y.1 = some .cell ∧ ((cellsFrom (s.heap.objs.size + 1) scope.names []).lookup y.1).isSome = true) := fun ⟨n, v⟩ hy => by
    rcases S.par n (List.of_mem_zip hy).1 with q | q
    · exact .inl q
    · exact .inr ⟨q, PySem.W.cellsFrom_some _ _ _ (.inl q)⟩
  refine codeAny_call_function hr.depth (KX _ _ lk) rfl S.co S.gen rfl (PySem.W.codeRec_of KX hcd) (hb _ _ _ _ ?_)
  refine wpAny_newFunctionEnv_cells S.kind hkind fun env he s1 x => ?_
  subst he
  refine ⟨lim.keeps x.toInCall.keep, codeAny_func ?_⟩
  obtain ⟨t, ht, hq⟩ := hbody A outer s H vs Q E a hh (hr.deeper _) hsp
  have I : Inv (cxOfH CX P w K mg base N qual scope f cdv A outer s H E) [] (start N vs) H s1 := inv_startH S e0 hl r x
  refine wpAny_mono (ht [] s1 (start N vs) H _ I hq) (fun fl s' hs => ?_) fun e s' hs => hs
  have fin : ∀ {σ' : St} {H' : Hp} {v : V} {u : Value}, Inv (cxOfH CX P w K mg base N qual scope f cdv A outer s H E) [] σ' H' s' → RelV v u → Q v H' → CE outer P w H s Q u s' :=
    fun {σ' H' v u} J rv q => ⟨v, H', J.os, J.bare, J.base, J.hok, rv, q⟩
  cases fl with
  | ret u =>
    obtain ⟨v, σ', H', J, rv, q⟩ := hs
    exact fin J rv q
  | next =>
    obtain ⟨σ', H', J, q⟩ := hs
    exact fin (v := V.non) (u := Value.none) J rfl q
  | brk =>
    obtain ⟨_, _, _, q⟩ := hs
    exact False.elim q
  | cont =>
    obtain ⟨_, _, _, q⟩ := hs
    exact False.elim q
section
variable {X : Cx} {CX : CXT} {k : Nat} {f C ha : Addr} {fd : FuncData} {ps : List Str} {sp : Addr → Sp} {dvs : List V} {ds : List Value} {E : XK} {x m : Str} {p pos apos : Pos} {e o : Expr} {es : List Expr} {ta : TE} {t : TA}
theorem run_fnH {pins : List (Addr × Obj)} {σ : St} {H : Hp} {s : Shared} {Q : VK} {us : List Value} {vs : List V} (F : FnOkH X.prog X.w X.K X.mg X.base CX k f fd ps sp) (hh : X.A.handled = some (.ref ha)) (hr : RoomH k X.A) (hb : Binds X.K fd ps ds) (hd : Vals dvs ds) (hx : Passes CX X E)
    (I : Inv X pins σ H s) (r : Vals vs us) (h : sp ha (vs ++ dvs) H Q E) : wpAny (model X.prog X.w) X.A (call (.ref f) us) (EP X pins σ Q) X.xe s := by
  have r2 : Vals (vs ++ dvs) (us ++ ds) := r.append hd
  have hl : (us ++ ds).length = ps.length := by rw [← r2.length]; exact F.len _ _ _ _ _ h
  refine wpAny_call (codeAny_mono (F.run X.A X.stack s H ⟨us, []⟩ (us ++ ds) (vs ++ dvs) Q E ha hh hr I.env0 (hb s us I.kIn hl) r2 h) fun r s' hq => ?_)
  cases r with
  | error e => exact hx pins σ H s e s' I hq
  | ok fl =>
    cases fl with
    | ret u => exact I.after hq
    | next => exact False.elim hq
    | brk => exact False.elim hq
    | cont => exact False.elim hq

theorem pe_callH (F : FnOkH X.prog X.w X.K X.mg X.base CX k f fd ps sp) (hh : X.A.handled = some (.ref ha)) (hr : RoomH k X.A) (hg : Gl X x) (hm : X.mg x = some (.ref f)) (hk : PySem.W.keepIn X.K (.ref f) = true) (hb : Binds X.K fd ps ds) (hd : Vals dvs ds) (hx : Passes CX X E)
    (ha' : PA X (e :: es) t) (hdb : (x == ("__debug__" : Str)) = false := by decide) (he : starEach (e :: es) X.env = (false, eval e X.env) :: starEach es X.env := by rfl) (hpl : (backTo pos (starEach es X.env)).any (·.1) = false := by rfl) :
    PE X (.Call (.Name x p) (e :: es) [] pos) (tCall (sp ha) dvs E t) := by
  intro pins s σ H Q I h
  refine wpAny_Call_Name_kw (ld_glob I hg hm ?_ hdb)
  refine PySem.W.callWith_K (h₀ := X.base) I.ok.mod.kin hk (thn (ha' pos pins s σ H _ I h) fun us s1 ⟨vs, H1, I1, r, q⟩ => ⟨I1.kIn, ?_⟩) he hpl
  exact run_fnH F hh hr hb hd hx I1 r q
end
structure DefH (P : Program) (w : World) (K : PySem.W.Frag) (mg : Str → Option Value) (base : Heap) (k : Nat) (x : Str) (ps : List Str) (sp : Addr → Sp) : Prop where
  ex : ∃ (f : Addr) (fd : FuncData), FnOkH P w K mg base (CX1 P w) k f fd ps sp ∧ mg x = some (.ref f) ∧ PySem.W.keepIn K (.ref f) = true ∧ Binds K fd ps []
theorem Site.defH {P : Program} {w : World} {K : PySem.W.Frag} {mg : Str → Option Value} {base : Heap} {x : Str} {st : Stmt} {N ps : List Str} {k : Nat} {sp : Addr → Sp} (F : Site K mg x st) (S : FnScope N ps (defScope st))
    (hb : ∀ (kV doc pm : Value) (an : Option Addr) (cdv ct : Value) (us : List Value), us.length = ps.length → bindArgs (PySem.W.fnOf x x (defArgs st) (defBody st) (defScope st) .none kV doc pm an cdv ct) ⟨us, []⟩ = pure (ps.zip us))
    (len : ∀ a vs H Q E, sp a vs H Q E → vs.length = ps.length)
    (hbody : ∀ (f : Addr) (cdv : Value) (A : Around) (outer : List Env) (s : Shared) (H : Hp) (vs : List V) (Q : VK) (E : XK) (a : Addr), A.handled = some (.ref a) → RoomH k (A.deeper (envOfC x (defScope st) s.heap.objs.size f cdv)) → sp a vs H Q E →
      ∃ t, PSs (cxOfH (CX1 P w) P w K mg base N x (defScope st) f cdv A outer s H E) (defBody st) t ∧ t { nx := fun _ H' => Q .non H', rt := Q } (start N vs) H) : DefH P w K mg base (k + 1) x ps sp := by
  obtain ⟨f, fd, F1, hm⟩ := F.ex
  have b := F1.binds hb
  have kp := F1.kp
  obtain ⟨oc, od, kV, doc, pm, an, cdv, ct, osl, rfl, lk, hcd⟩ := F1.ex
  exact ⟨f, _, fn_ofH lk hcd S len fun A outer s H vs Q E a hh hr hsp => hbody f cdv A outer s H vs Q E a hh hr hsp, hm, kp, b⟩
/-- f(e, ..) within an except -/
theorem pe_defH {X : Cx} {k : Nat} {ps : List Str} {sp : Addr → Sp} {E : XK} {x : Str} {p pos : Pos} {e : Expr} {es : List Expr} {t : TA} {ha : Addr} (D : DefH X.prog X.w X.K X.mg X.base k x ps sp) (hh : X.A.handled = some (.ref ha)) (hr : RoomH k X.A) (hx : Passes (CX1 X.prog X.w) X E) (ha' : PA X (e :: es) t) (hg : Gl X x := by rfl) (hdb : (x == ("__debug__" : Str)) = false := by decide)
    (he : starEach (e :: es) X.env = (false, eval e X.env) :: starEach es X.env := by rfl) (hpl : (backTo pos (starEach es X.env)).any (·.1) = false := by rfl) :
    PE X (.Call (.Name x p) (e :: es) [] pos) (tCall (sp ha) [] E t) := by
  obtain ⟨f, fd, F, hm, hk, hb⟩ := D.ex
  exact pe_callH F hh hr hg hm hk hb .nil hx ha' hdb he hpl
section
variable {X : Cx} {tg elt iter : Expr} {ifs : List Expr} {scope : Scope} {pos : Pos} {wi : TI} {g : TG} {tt : TT} {te : TE} {Nc : List Str} {ix : List (Option Nat)} {ha : Addr}
theorem comp_runH {pins : List (Addr × Obj)} {σ : St} {H : Hp} {s : Shared} {it : Addr} {fp : List Addr} {tn : Nat → Heap → Prop} {J : It} {Q : VK} {R : Value → Addr → Result → Shared → Prop}
    (hc : X.A.handled = some (.ref ha)) (S : CompScope X Nc ix scope) (I : Inv X pins σ H s) (T : TurnH ha X.prog X.w X.K tg J fp it tn) (st : tn 0 s.heap) (f : ∀ b ∈ fp, FpOk X pins H b)
    (hg : PG (cxC X Nc scope (s.heap.objs.size + 1) fp s H) tg g) (ht : PTs (cxC X Nc scope (s.heap.objs.size + 1) fp s H) ifs tt) (he : PE (cxC X Nc scope (s.heap.objs.size + 1) fp s H) elt te)
    (h : ∀ D, H D = none → ∃ W : Nat → Nat → St → Hp → Prop, (∃ m, W 0 m (startC ix σ) (upd H D (.lst []))) ∧ ∀ i m σ' H', W i m σ' H' →
      (J.stop i H' ∧ Q (.ref D) H') ∨ (J.go i H' ∧ ∀ x H2, J.yld i H' x H2 → g x σ' H2 fun σ3 H3 => tt σ3 H3 fun b H4 =>
        if b = true then te σ3 H4 fun v H5 => ∃ xs, H5 D = some (.lst xs) ∧ xs.length < sizeLine ∧ ∃ m', m' < m ∧ W (i + 1) m' σ3 (upd H5 D (.lst (xs ++ [v])))
        else ∃ m', m' < m ∧ W (i + 1) m' σ3 H4))
    (hR : ∀ σ' H' s', Inv (cxC X Nc scope (s.heap.objs.size + 1) fp s H) [] σ' H' s' → (∀ b ∈ fp, H' b = none) → Q (.ref s.heap.objs.size) H' → R (.ref s.heap.objs.size) (s.heap.objs.size + 1) (.ok .next) s') :
    wpAny (model X.prog X.w) X.A (newList []) (fun acc s₃ => wpAny (model X.prog X.w) X.A (newFunctionEnv scope X.env.globals (clFrom X.env scope.names []) [] X.env.qual none .none (some X.env)) (fun cenv s₄ =>
      codeAny (model X.prog X.w) X.A (.compStart (.ListComp elt [⟨tg, iter, ifs, 0⟩] scope pos) 0 (.ref it) acc { cenv with scope := relabel scope X.env }) (R acc cenv.locals) s₄) X.xe s₃) X.xe s := by
  obtain ⟨W, ⟨m0, w0⟩, turn⟩ := h s.heap.objs.size (I.hok.fresh (Nat.le_refl _))
  refine wpAny_newObj_type (newEnv_comp ?_)
  have I4 := inv_comp (t' := s.toks) S I f (fun b hb => let ⟨o, e, _⟩ := T.obj _ _ st b hb; ⟨o, e⟩)
  have hsz : (s.heap.push { cls := .type "list", dict := none, data := .seq ([] : List Value).toArray }).objs.size = s.heap.objs.size + 1 := Heap.size_push ..
  dsimp only
  rw [hsz]
  have st4 : tn 0 (pushCells ((s.heap.push { cls := .type "list", dict := none, data := .seq ([] : List Value).toArray }).push { cls := .type "dict", data := .dict #[] }) scope.names) :=
    T.keep _ _ _ st fun b _ o e => pushCells_keeps _ _ b o (Heap.get?_push_of_some _ (Heap.get?_push_of_some _ e))
  have fr4 : ∀ b ∈ fp, upd H s.heap.objs.size (.lst []) b = none := fun b hb => by
    obtain ⟨o, e, _⟩ := T.obj _ _ st b hb
    rw [upd_ne (Nat.ne_of_lt (Heap.lt_size e))]
    exact (f b hb).1
  have stat : ∀ {H' : Hp}, (∀ b ∈ fp, H' b = none) → ∀ b ∈ fp, FpOk (cxC X Nc scope (s.heap.objs.size + 1) fp s H) [] H' b := fun {H'} hn b hb => by
    obtain ⟨q1, q2⟩ := I4.ok.exf b hb
    exact ⟨hn b hb, q1, I4.ok.exfs b hb, .inl hb, q2, fun p hp => absurd (show p ∈ ([] : List (Addr × Obj)) from hp) (by simp)⟩
  have loop : codeAny (model X.prog X.w) X.A (.compLoop (.ListComp elt [⟨tg, iter, ifs, 0⟩] scope pos) 0 (.ref it) (.ref s.heap.objs.size) (cxC X Nc scope (s.heap.objs.size + 1) fp s H).env)
      (R (.ref s.heap.objs.size) (s.heap.objs.size + 1))
      { s with heap := pushCells ((s.heap.push { cls := .type "list", dict := none, data := .seq ([] : List Value).toArray }).push { cls := .type "dict", data := .dict #[] }) scope.names } := by
    refine compLoop_any (fun n s' => ∃ i σ' H', Inv (cxC X Nc scope (s.heap.objs.size + 1) fp s H) [] σ' H' s' ∧ tn i s'.heap ∧ (∀ b ∈ fp, H' b = none) ∧ W i n σ' H') ?_ m0 ⟨0, _, _, I4, st4, fr4, w0⟩
    rintro n s5 ⟨i, σ5, H5, I5, st5, fr5, w5⟩
    rcases turn i n σ5 H5 w5 with ⟨stop, qn⟩ | ⟨go, step⟩
    · refine thn (T.done (cxC X Nc scope (s.heap.objs.size + 1) fp s H) rfl rfl rfl hc i [] s5 σ5 H5 _ I5 (stat fr5) st5 stop) fun r s6 ⟨hr, I6⟩ => ?_
      subst hr
      exact hR σ5 H5 s6 I6 fr5 qn
    · refine thn (T.item (cxC X Nc scope (s.heap.objs.size + 1) fp s H) rfl rfl rfl hc i [] s5 σ5 H5 _ I5 (stat fr5) st5 go) fun r s6 ⟨u, hr, h6⟩ => ?_
      subst hr
      refine thn h6 fun _ s7 ⟨x, H7, I7, r7, y7, st7, fr7⟩ => ?_
      have I7' := I7.pinned (stat fr7) (T.obj _ _ st7)
      refine thn (hg _ s7 σ5 H7 x u _ I7' r7 (step x H7 y7)) fun _ s8 ⟨σ8, H8, I8, q8⟩ => ?_
      refine thn (ht _ s8 σ8 H8 _ I8 q8) fun b s9 ⟨H9, I9, q9⟩ => ?_
      have again : ∀ {s' : Shared} {σ' : St} {H' : Hp}, Inv (cxC X Nc scope (s.heap.objs.size + 1) fp s H) ([] ++ pinsAt fp s7.heap) σ' H' s' → tn (i + 1) s'.heap ∧ ∀ b ∈ fp, H' b = none := fun {s' σ' H'} I' => by
        refine ⟨T.keep _ _ _ st7 fun b hb o e => (I'.pin (b, o) (List.mem_append_right _ (List.mem_append_right _ (mem_pinsAt hb e)))).1, fun b hb => ?_⟩
        obtain ⟨o, e, d⟩ := T.obj _ _ st7 b hb
        exact (I'.pin (b, o) (List.mem_append_right _ (List.mem_append_right _ (mem_pinsAt hb e)))).2.1
      cases b with
      | false =>
        rw [if_neg Bool.false_ne_true] at q9 ⊢
        obtain ⟨m', hm, w9⟩ := q9
        obtain ⟨a1, a2⟩ := again I9
        exact ⟨m', hm, i + 1, σ8, H9, I9.unpinned, a1, a2, w9⟩
      | true =>
        rw [if_pos rfl] at q9 ⊢
        refine thn (he _ s9 σ8 H9 _ I9 q9) fun v s10 ⟨x', H10, I10, r10, xs, eD, hlt, m', hm, w10⟩ => ?_
        refine thn (mt_append (X := cxC X Nc scope (s.heap.objs.size + 1) fp s H) _ s10 σ8 H10 (.ref s.heap.objs.size) [x'] (.ref s.heap.objs.size) [v] (fun _ H' => H' = upd H10 s.heap.objs.size (.lst (xs ++ [x']))) I10 rfl (.cons r10 .nil)
          ⟨_, xs, x', rfl, rfl, eD, hlt, rfl⟩) fun _ s11 ⟨_, H11, I11, _, e11⟩ => ?_
        subst e11
        obtain ⟨a1, a2⟩ := again I11
        exact ⟨m', hm, i + 1, σ8, _, I11.unpinned, a1, a2, w10⟩
  exact codeAny_compStart_list loop (T.self X.A 0 _ _ _ st4 loop)

theorem pe_lcH (hc : X.A.handled = some (.ref ha)) (S : CompScope X Nc ix scope) (hi : PIH ha X tg iter wi)
    (hb : ∀ (C : Addr) (fp : List Addr) (s : Shared) (H : Hp), PG (cxC X Nc scope C fp s H) tg g ∧ PTs (cxC X Nc scope C fp s H) ifs tt ∧ PE (cxC X Nc scope C fp s H) elt te)
    (hs : ∀ x, foldedSetIterable iter X.env x = pure x := by intro _; rfl) : PE X (.ListComp elt [⟨tg, iter, ifs, 0⟩] scope pos) (tLC wi ix g tt te) := by
  intro pins s σ H Q I h
  rw [eval_ListComp]
  refine wpAny_comprehension_free (use := none) rfl hs (closure_of (S.cells I)) S.kind S.loc (thn (hi pins s σ H _ I h) fun v s1 h1 => thn h1 fun itv s2 h2 => ?_)
  obtain ⟨it, fp, tn, J, H2, e, I2, T, st2, f2, q2⟩ := h2
  subst e
  obtain ⟨hg, ht, he⟩ := hb (s2.heap.objs.size + 1) fp s2 H2
  refine comp_runH (R := fun acc C => compPost (model X.prog X.w) X.A X.xe none (EP X pins σ Q) acc C) hc S I2 T st2 f2 hg ht he q2 fun σ' H' s' J' fr' q' => ?_
  obtain ⟨m, hn, _⟩ := J'.loc
  refine ⟨m, hn, fun h' hsb => ⟨.ref _, H', ?_, rfl, q'⟩⟩
  exact (comp_back I2 f2 J').letgo (I2.fpOk (Nat.le_succ _) J'.free) hsb
end
/-- [.. for k in range(..) ..] while an exception is handled -/
theorem lc_rangeH {g : TG} {tt : TT} {te : TE} {D ha : Addr} {σ : St} {H : Hp} {Q : VK} {lo : Int} {n : Nat} (Pv : Nat → St → Hp → Prop) (h0 : Pv 0 σ H)
    (hs : ∀ (i : Nat) (σ : St) (H : Hp) (N : St → Hp → Prop), (∀ σ H, Pv (i + 1) σ H → N σ H) → i < n → Pv i σ H → g (.int (lo + i)) σ H fun σ3 H3 => tt σ3 H3 fun b H4 =>
      if b = true then te σ3 H4 fun v H5 => ∃ ys, H5 D = some (.lst ys) ∧ ys.length < sizeLine ∧ N σ3 (upd H5 D (.lst (ys ++ [v]))) else N σ3 H4)
    (hx : ∀ σ H, Pv n σ H → ∃ C, H ha = some (.ext (ExcAt ha C))) (hd : ∀ σ H, Pv n σ H → Q (.ref D) H) : lcRun (ItrH ha lo n) g tt te D σ H Q := by
  refine ⟨fun i m σ H => m = n - i ∧ i ≤ n ∧ Pv i σ H, ⟨n, (Nat.sub_zero n).symm, Nat.zero_le _, h0⟩, fun i m σ' H' ⟨hm, hi, p⟩ => ?_⟩
  subst hm
  rcases Nat.lt_or_ge i n with hlt | hge
  · refine .inr ⟨hlt, fun x H2 ⟨e, y⟩ => ?_⟩
    subst e y
    exact hs i σ' _ (fun σ3 H3 => ∃ m', m' < n - i ∧ m' = n - (i + 1) ∧ i + 1 ≤ n ∧ Pv (i + 1) σ3 H3) (fun σ3 H3 z => ⟨n - (i + 1), by omega, rfl, hlt, z⟩) hlt p
  · obtain rfl : i = n := by omega
    exact .inl ⟨⟨Nat.le_refl _, hx σ' H' p⟩, hd σ' H' p⟩
def tTryH (K : PySem.W.Frag) (C2 : Addr) (i : Nat) (E : XK) (tb : TS) (th : Addr → TS) : TS := fun D σ H => tb D σ H ∧ ∀ (σ' : St) (a C : Addr) (H' : Hp), σ'.length = σ.length → E (.ref C) none H' → H' a = none →
  PySem.W.subIn K (.ref C) (.ref C2) = some true ∧
    th a { nx := fun σ2 H2 => D.nx (σ2.set i none) H2, rt := D.rt, bk := fun σ2 H2 => D.bk (σ2.set i none) H2, ct := fun σ2 H2 => D.ct (σ2.set i none) H2 } (σ'.set i (some (.ref a))) (upd H' a (.ext (ExcAt a C)))

section
variable {X : Cx} {E : XK} {pins : List (Addr × Obj)} {σ : St} {H : Hp} {s : Shared} {a : Addr}
theorem ps_tryH {n cn : Str} {np hpos pos : Pos} {body suite : List Stmt} {b₀ : Stmt} {tb : TS} {th : Addr → TS} {C2 : Addr} {i : Nat} (hstk : X.stack = X.env :: X.outer) (hfr : X.env.frame = some X.env.locals) (hN : X.N.Nodup) (hi : X.N[i]? = some n)
    (hl : X.env.kindOf n = some .local) (hg : Gl X cn) (hm : X.mg cn = some (.ref C2)) (hC : Catch X.K C2)
    (hb : ∀ pins, PSs (tryCx X pins E) body tb) (hh : ∀ a, PSs (hndCx X a) (b₀ :: suite) (th a)) (hdb : (cn == ("__debug__" : Str)) = false := by decide) :
    PS X (.Try body [.ExceptHandler (some (.Name cn np)) (some n) (b₀ :: suite) hpos] [] [] pos) (tTryH X.K C2 i E tb th) := by
  intro pins s σ H D I h
  obtain ⟨h1, h2⟩ := h
  refine wpAny_Try_except (wpAny_mono (hb pins [] s σ H D I.toTry h1) (fun f s1 q => ?_) fun e s1 q => ?_)
  · cases f with
    | next => obtain ⟨σ', H', I', n'⟩ := q; exact wpAny_execs_nil ⟨σ', H', I'.ofTry, n'⟩
    | brk => obtain ⟨σ', H', I', n'⟩ := q; exact ⟨σ', H', I'.ofTry, n'⟩
    | cont => obtain ⟨σ', H', I', n'⟩ := q; exact ⟨σ', H', I'.ofTry, n'⟩
    | ret u => obtain ⟨v, σ', H', I', r', n'⟩ := q; exact ⟨v, σ', H', I'.ofTry, r', n'⟩
  · obtain ⟨a, C, a0, B, σ0, H0, H', s0, rfl, I0, T, qE⟩ := q
    have hframes : X.A.frames = some (X.env :: X.outer) := by rw [← hstk]; exact I.ok.frames
    have fly := T.fly
    rw [hstk] at fly
    refine kp_on (P := fun h4 => Heap.HeldW B (X.env :: X.outer) a (.ref C) a0 X.env.locals h4 ∧ s1.heap.UpToSlots h4) kp_note T.cx (fun Q' hq => wpAny_looks_onW hframes hfr fly fun h4 held up4 => hq h4 ⟨held, up4⟩) fun h4 ⟨held, up4⟩ c4 => ?_
    refine kp_on (P := fun h5 => Heap.FlyingW B (X.env :: X.outer) a (.ref C) a0 h5 ∧ h4.UpToSlots h5) kp_flight c4 (fun Q' hq => wpAny_landsW held fun h5 fly5 up5 => hq h5 ⟨fly5, up5⟩) fun h5 ⟨fly5, up5⟩ c5 => ?_
    have up45 := up4.trans up5
    rw [← hstk] at fly5
    obtain ⟨J5, hna⟩ := caught_inv I0 T fly5 up45 c5
    have I5 := J5.toHnd (a := a)
    obtain ⟨hsub, q7⟩ := h2 σ0 a C H' (by rw [I0.len, I.len]) qE hna
    have x5 : ExcAt a C h5 := (I5.hok a _ upd_same).1
    refine wpAny_handleBy_cons (codeAny_handlers_test (ld_glob (X := hndCx X a) I5 hg hm ?_ hdb)) (by intro q; cases q)
    refine excMatches_K (K := X.K) I5.kIn x5 hC hsub ?_
    refine codeAny_handlers_suite_as ?_
    refine kp_on (P := fun h6 => Heap.FlyingW B X.stack a (.ref C) a0 h6 ∧ h5.UpToSlots h6) kp_flight c5 (fun Q' hq => lands_againW fly5 fun h6 fly6 up6 => hq h6 ⟨fly6, up6⟩) fun h6 ⟨fly6, up6⟩ c6 => ?_
    obtain ⟨J6, _⟩ := caught_inv I0 T fly6 (up45.trans up6) c6
    have I6 := J6.toHnd (a := a)
    refine store_ok (X := hndCx X a) (v := .ref a) I6 hN hi (.inl hl) rfl (fun s7 I7 => ?_) (.inr hl)
    refine wpAny_mono (hh a pins s7 _ _ _ I7 q7) (fun f s8 q8 => ?_) fun _ _ z => z.elim
    have hp : (X.env.scope.kind == .class || (X.env.scope.kind == .module && X.env.locals != X.env.globals)) = false := by rw [I.ok.kind]; rfl
    have goes : ∀ {σ8 : St} {H8 : Hp} {P : Prop} {f : Flow}, Inv (hndCx X a) pins σ8 H8 s8 → (∀ s9, Inv X pins (σ8.set i none) H8 s9 → SP X pins D f s9) →
        wpAny (model X.prog X.w) X.A (do bindName X.env n .none; unbindBehindTheSuite X.env n hpos) (fun _ s₃ => SP X pins D f s₃) X.xe s8 := fun {σ8 H8 P f} I8 k => by
      have J8 := I8.ofHnd I.ok.hd
      obtain ⟨m, hn, hlk⟩ := id J8.loc
      refine wpAny_nameGoes_keeps hl hn hp fun h9 v hn9 hs9 => k _ ?_
      have cne := J8.cne
      obtain ⟨oL, _, _, hoL, _⟩ := id hn
      refine ⟨J8.ok, J8.os, J8.bare, ⟨fun b o e nn hb hx => ?_, fun b o e nn hb hx => ?_, J8.base.free, fun b o e hx => ?_, J8.base.tups, J8.base.frzs, J8.base.tbls⟩, ⟨_, hn9, fun j y v' e1 e2 e3 => ?_⟩, fun y c e => ?_, J8.free, J8.freeC, fun p hp => ?_, fun b ob e => ?_, by simpa using J8.len⟩
      · exact (hs9.2 b (J8.old e)).trans (J8.base.keep b o e nn hb hx)
      · obtain ⟨sl, e1⟩ := J8.base.slot b o e nn hb hx
        exact ⟨sl, (hs9.2 b (J8.old e)).trans e1⟩
      · obtain ⟨o', e1⟩ := J8.base.there b o e hx
        exact ⟨o', (hs9.2 b (J8.old e)).trans e1⟩
      · by_cases hj : j = i
        · subst hj
          have hlt : j < σ8.length := by rw [J8.len]; exact (List.getElem?_eq_some_iff.mp hi).1
          rw [List.getElem?_set_self hlt] at e2
          cases e2
        · rw [List.getElem?_set_ne (Ne.symm hj)] at e2
          obtain ⟨u', r', q⟩ := hlk j y v' e1 e2 e3
          refine ⟨u', r', ?_⟩
          rcases q with ⟨k', e⟩ | ⟨k', c, e, z⟩
          · refine .inl ⟨k', ?_⟩
            have hne : y ≠ n := fun e => hj (nodup_ix hN e1 (e ▸ hi))
            simp [hne, e]
          · exact .inr ⟨k', c, e, z.sameBut hs9 (cne y c e)⟩
      · obtain ⟨w', z⟩ := J8.cell y c e
        exact ⟨w', z.sameBut hs9 (cne y c e)⟩
      · obtain ⟨e, nn, ne, nf, d⟩ := J8.pin p hp
        exact ⟨(hs9.2 p.1 ne).trans e, nn, ne, nf, d⟩
      · refine (J8.hok b ob e).stay (fun c w' hc q => (hs9.2 c ?_).trans q) (fun _ q => q) fun _ _ q => q
        rintro rfl
        rcases hc with z | z
        · rw [← z, J8.free] at e; cases e
        · rw [J8.free] at z; cases z
    cases f with
    | next => obtain ⟨σ8, H8, I8, n8⟩ := q8; exact goes (P := True) I8 fun s9 I9 => ⟨_, H8, I9, n8⟩
    | brk => obtain ⟨σ8, H8, I8, n8⟩ := q8; exact goes (P := True) I8 fun s9 I9 => ⟨_, H8, I9, n8⟩
    | cont => obtain ⟨σ8, H8, I8, n8⟩ := q8; exact goes (P := True) I8 fun s9 I9 => ⟨_, H8, I9, n8⟩
    | ret u => obtain ⟨v, σ8, H8, I8, r8, n8⟩ := q8; exact goes (P := True) I8 fun s9 I9 => ⟨v, _, H8, I9, r8, n8⟩
end
end L2
namespace L2
open PySem PySem.Spec PyProof.Rows
/-! ### a loop whose body may raise -/
/-! ### lists compared -/
/-- alike, lists within lists to the depth n -/
inductive Alike (K : PySem.W.Frag) (H : Hp) : Nat → V → V → Prop where
  | int {n : Nat} (i : Int) : Alike K H n (.int i) (.int i)
  | bl {n : Nat} (i : Bool) : Alike K H n (.bl i) (.bl i)
  | str {n : Nat} (i : Str) : Alike K H n (.str i) (.str i)
  | non {n : Nat} : Alike K H n .non .non
  | lst {n : Nat} {a b : Addr} {xs ys : List V} (ha : SqL K H a xs) (hb : SqL K H b ys) (hl : xs.length = ys.length) (h : ∀ (j : Nat) (x y : V), xs[j]? = some x → ys[j]? = some y → Alike K H n x y) : Alike K H (n + 1) (.ref a) (.ref b)
theorem all_true (n : Nat) : (List.range n).all (fun _ => true) = true := by simp
section
variable {X : Cx} {pins : List (Addr × Obj)} {σ : St} {H : Hp} {s : Shared}
theorem rel_at {xs : List V} {its : List Value} (r : Vals xs its) (j : Nat) (h : j < its.toArray.size) : ∃ x, xs[j]? = some x ∧ RelV x its.toArray[j] := by
  have hj : j < its.length := by simpa using h
  have hl := r.length
  have hx : xs[j]? = some xs[j] := by simp [show j < xs.length by omega]
  obtain ⟨u, hu, ru⟩ := r.get hx
  refine ⟨_, hx, ?_⟩
  have e : its.toArray[j] = u := by
    have := hu
    rw [List.getElem?_eq_getElem hj] at this
    simpa using Option.some.inj this
  rw [e]
  exact ru
theorem alike_at (I : Inv X pins σ H s) {n : Nat} {x y : V} (h : Alike X.K H n x y) : ∀ {A : Around} {u v : Value}, A.units + n < cLine → RelV x u → RelV y v → SeqAt.EqAt A s u v true := by
  induction h with
  | int i => intro A u v _ ru rv; have := eqAt_V (A := A) (s := s) ru rv rfl rfl; simpa [eqV] using this
  | bl i => intro A u v _ ru rv; have := eqAt_V (A := A) (s := s) ru rv rfl rfl; simpa [eqV] using this
  | str i => intro A u v _ ru rv; have := eqAt_V (A := A) (s := s) ru rv rfl rfl; simpa [eqV] using this
  | non => intro A u v _ ru rv; have := eqAt_V (A := A) (s := s) ru rv rfl rfl; simpa [eqV] using this
  | @lst n a b xs ys ha hb hl h ih =>
    intro A u v hu ru rv
    cases ru
    cases rv
    by_cases hab : a = b
    · subst hab
      exact SeqAt.EqAt.same _
    · obtain ⟨its, r1, p1, _⟩ := I.list ha
      obtain ⟨its2, r2, p2, _⟩ := I.list hb
      have l1 := r1.length
      have l2 := r2.length
      refine SeqAt.EqAt.of_refs hab ?_
      have q := SeqAt.RcAt.lists (A := A) (s := s) (e := fun _ => true) p1.isList p2.isList (by simp; omega) (by omega) fun j h1 h2 => ?_
      · rw [all_true] at q
        exact q
      · obtain ⟨x, hx, rx⟩ := rel_at r1 j h1
        obtain ⟨y, hy, ry⟩ := rel_at r2 j h2
        exact ih j x y hx hy (A := A.in1) (by show A.units + 1 + n < cLine; omega) rx ry
end
section
variable {X : Cx}
/-- two lists: alike, or of unlike lengths -/
def rEqL (K : PySem.W.Frag) (neg : Bool) : R2 := fun x y H Q => ∃ a b xs ys, x = .ref a ∧ y = .ref b ∧ SqL K H a xs ∧ SqL K H b ys ∧
  ((xs.length = ys.length ∧ (∀ (j : Nat) (u v : V), xs[j]? = some u → ys[j]? = some v → Alike K H 8 u v) ∧ Q (.bl (!neg)) H) ∨ (xs.length ≠ ys.length ∧ Q (.bl neg) H))
theorem op_eqL (hu : X.A.units + 16 < cLine) : OpR X (compareOp .Eq) (rEqL X.K false) := by
  intro pins s σ H x y v u Q I rx ry h
  obtain ⟨a, b, xs, ys, rfl, rfl, ha, hb, h⟩ := h
  cases rx
  cases ry
  obtain ⟨its, r1, p1, _⟩ := I.list ha
  obtain ⟨its2, r2, p2, _⟩ := I.list hb
  have l1 := r1.length
  have l2 := r2.length
  rcases h with ⟨hl, he, q⟩ | ⟨hl, q⟩
  · refine SeqAt.eq_listAt (e := fun _ => true) p1.isList p2.isList (by simp; omega) (by omega) (fun j h1 h2 => ?_) ?_
    · obtain ⟨x, hx, rx⟩ := rel_at r1 j h1
      obtain ⟨y, hy, ry⟩ := rel_at r2 j h2
      exact alike_at I (he j x y hx hy) (A := X.A.in1) (by show X.A.units + 1 + 8 < cLine; omega) rx ry
    · rw [all_true]
      exact ⟨.bl true, H, I, rfl, q⟩
  · refine SeqAt.eq_list_lengthsAt p1.isList p2.isList (by simp; omega) (by omega) ?_
    exact ⟨.bl false, H, I, rfl, q⟩
theorem hu16 {A : Around} {k : Nat} (hr : Room k A) : A.units + 16 < cLine := by have := hr.un; omega
/-! ### all([..]) of bools -/
theorem call_all : CallR X (.builtin "all") (fun xs H Q => ∃ (p : Addr) (bs : List Bool), X.calm = true ∧ xs = [.ref p] ∧ SqL X.K H p (bs.map V.bl) ∧ Q (.bl (bs.all id)) H) := by
  intro pins s σ H xs us Q I r h
  obtain ⟨p, bs, hc, rfl, hq, q⟩ := h
  obtain ⟨u, rfl, rx⟩ := vals1 r
  cases rx
  obtain ⟨its, r1, p1, _⟩ := I.list hq
  have l1 := r1.length
  rw [List.length_map] at l1
  refine call_all_walk (wpAny_pyIter_list p1.isList ?_)
  have hne : p ≠ s.heap.objs.size := by
    obtain ⟨o, n, ho, _⟩ := p1
    exact Nat.ne_of_lt (Heap.lt_size ho)
  refine ⟨_, _, _, its.toArray.size, _, _, fun i => bs.getD i true, rfl, Walks.list (A := X.A.in1) (I.ok.hd hc) s.heap.objs.size p hne its.toArray, ?_, ?_, fun h' tk kp => ?_⟩
  · exact ⟨⟨_, Heap.get?_push_size _ rfl, rfl, rfl⟩, p1.isList.at fun o e => Heap.get?_push_of_some _ e⟩
  · intro i v s' Q' E' hv hQ
    have hi : i < its.length := by
      have := hv
      simp only [List.getElem?_toArray] at this
      exact (List.getElem?_eq_some_iff.mp this).1
    have hb : (bs.map V.bl)[i]? = some (V.bl bs[i]) := by simp [show i < bs.length by omega]
    obtain ⟨u, hu, ru⟩ := r1.get hb
    have e : u = v := by
      simp only [List.getElem?_toArray] at hv
      rw [hu] at hv
      exact Option.some.inj hv
    subst e
    cases ru
    refine wpAny_truthy_bool ?_
    have e2 : bs.getD i true = bs[i] := by simp [List.getD, show i < bs.length by omega]
    rw [← e2]
    exact hQ
  · have e : (List.range its.toArray.size).all (fun i => bs.getD i true) = bs.all id := by
      have hz : its.toArray.size = bs.length := by simp; omega
      rw [hz, Bool.eq_iff_iff]
      simp only [List.all_eq_true, List.mem_range, id]
      constructor
      · intro h b hb
        obtain ⟨n, hn, rfl⟩ := List.getElem_of_mem hb
        have := h n hn
        simpa [List.getD, hn] using this
      · intro h i hi
        have := h bs[i] (List.getElem_mem hi)
        simpa [List.getD, hi] using this
    rw [e]
    exact ⟨.bl (bs.all id), H, I.kept (t' := tk) fun b o eb => kp b o (by
      intro z
      have hb : b = s.heap.objs.size := by simpa using z
      exact absurd (Heap.lt_size eb) (by rw [hb]; exact Nat.lt_irrefl _)) (Heap.get?_push_of_some _ eb), rfl, q⟩
end
end L2
namespace L2
open PySem PySem.Spec PyProof.Rows
/-! ### list(x) of an iterator whose length is asked for in silence -/
section
variable {prog : Program} {w : World} {A : Around} {s : Shared} {R : Result → Shared → Prop} {I S : Addr} {fp wr : List Addr} {G : Array GenState → Array GenState → Prop} {n : Nat} {P : Nat → Value → Prop} {St : Nat → Shared → Prop} {T : String}
theorem ext_walk (W : WalksS prog w A.in1 I fp wr G n P St) (hT : ∀ i s, St i s → s.TypeIs (.ref I) T) (t1 : (Value.type T == Value.type "list") = false) (t2 : (Value.type T == Value.type "tuple") = false)
    (hh : ∀ (s : Shared) (Q : Bool → Shared → Prop) (E : Value → Shared → Prop), St 0 s → Q false s → wpAny (model prog w) A.in1 (Builtin.List.listLengthHint (.ref I)) Q E s)
    (res : Value) (c0 : Nat) (hst : St 0 s) (hSf : S ∉ fp) (hI : I ∈ fp) (hS : s.heap.get? S = some { cls := .type "list", data := .seq #[] c0 }) (hn : n ≤ sizeLine)
    (hR : ∀ s' acc' c', Moved (S :: wr) G s s' → s'.heap.get? S = some { cls := .type "list", dict := none, data := .seq acc' c', slots := #[] } → ItemsOf P acc' n → R (.ok (.ret res)) s') :
    wpAny (model prog w) A.in1 (Builtin.List.listExtendWith (.ref S) (.ref I) res)
      (fun fin s' => match fin with | .done f => R (.ok f) s' | .again c' => c'.quiet = true ∧ codeAny (model prog w) A c' R s') (fun e s' => R (.error e) s') s := by
  have ne : S ≠ I := fun e => hSf (by rw [e]; exact hI)
  have h1 : Builtin.List.listSameRef (.ref S) (.ref I) = false := by simp [Builtin.List.listSameRef, ne]
  unfold Builtin.List.listExtendWith
  refine wpAny_bind (wpAny_typeOf (hT 0 s hst) ?_)
  simp only [h1, t1, t2, Bool.or_false, Bool.false_eq_true, if_false]
  refine wpAny_bind (W.self 0 s _ _ hst (wpAny_bind (wpAny_holding (hh s _ _ hst ?_))))
  refine wpAny_ite_split (fun _ => ?_) (fun _ => ?_)
  · refine wpAny_bind (wpAny_rule (wpAny_bind ?_))
    show wpAny _ A.in1 (updateSeq S (·.push .none) >>= fun _ => updateSeq S (·.pop)) _ _ s
    refine wpAny_bind (wpAny_updateSeq hS rfl ?_)
    have hS2 := Heap.get?_update_self (Obj.mapSeq (·.push Value.none)) hS rfl
    refine wpAny_updateSeq (hz := by seq_fits) hS2 rfl ?_
    have hS3 := Heap.get?_update_self (Obj.mapSeq (·.pop)) hS2 rfl
    have kp : ∀ b o, b ≠ S → s.heap.get? b = some o → ((s.heap.update S (Obj.mapSeq (·.push Value.none))).update S (Obj.mapSeq (·.pop))).get? b = some o := fun b o hb e => by
      rw [Heap.get?_update_other _ _ (Ne.symm hb), Heap.get?_update_other _ _ (Ne.symm hb)]; exact e
    exact wpAny_pure ⟨plainId_quiet F.plain_extend_loop _, codeAny_extend_loopS W hn S hSf res n 0 _ _ _ rfl (Nat.zero_le n) (W.frame 0 s _ s.toks hst (Nat.le_refl _) fun b hb o e => kp b o (fun z => hSf (by rw [← z]; exact hb)) e) hS3 (ItemsOf.nil P)
      fun s' acc' c' hm hS' hacc => hR s' acc' c' (Moved.trans W.gtrans ((Moved.refl W.grefl).then_heap (Nat.le_refl _) fun b o hb e => kp b o (fun z => hb (by rw [z]; exact List.mem_cons_self)) e) hm) hS' hacc⟩
  · exact wpAny_pure ⟨plainId_quiet F.plain_extend_loop _, codeAny_extend_loopS W hn S hSf res n 0 s #[] c0 rfl (Nat.zero_le n) hst hS (ItemsOf.nil P) fun s' acc' c' hm hS' hacc => hR s' acc' c' hm hS' hacc⟩
theorem list_walk {E : Value → Shared → Prop} {Q : Value → Shared → Prop} (W : WalksS prog w A.in1.in1 I fp wr G n P St) (hT : ∀ i s, St i s → s.TypeIs (.ref I) T) (t1 : (Value.type T == Value.type "list") = false) (t2 : (Value.type T == Value.type "tuple") = false)
    (hh : ∀ (s : Shared) (Q : Bool → Shared → Prop) (E : Value → Shared → Prop), St 0 s → Q false s → wpAny (model prog w) A.in1.in1 (Builtin.List.listLengthHint (.ref I)) Q E s)
    (hst : St 0 s) (hfp : ∀ b ∈ fp, b < s.heap.objs.size) (hI : I ∈ fp) (hn : n ≤ sizeLine)
    (hQ : ∀ s' acc' c', Moved (s.heap.objs.size :: wr) G { s with heap := s.heap.push { cls := .type "list", data := .seq #[] } } s' →
      s'.heap.get? s.heap.objs.size = some { cls := .type "list", dict := none, data := .seq acc' c', slots := #[] } → ItemsOf P acc' n → Q (.ref s.heap.objs.size) s') :
    wpAny (model prog w) A (call (.type "list") [.ref I]) Q E s := by
  have nf : s.heap.objs.size ∉ fp := fun z => absurd (hfp _ z) (Nat.lt_irrefl _)
  refine callType_codes (Q₁ := fun obj z => obj = .ref s.heap.objs.size ∧ z = { s with heap := s.heap.push { cls := .type "list", data := .seq #[] } }) F.called_list (F.typeCall_list_1 _) F.entry_list_init (code_list_new _ ⟨rfl, rfl⟩) fun obj z hz => ?_
  obtain ⟨rfl, rfl⟩ := hz
  have hS : (s.heap.push { cls := .type "list", data := .seq #[] }).get? s.heap.objs.size = some { cls := .type "list", data := .seq #[] } := Heap.get?_push_size _ rfl
  refine ⟨⟨_, hS, rfl⟩, F.args_list_init_2 _ _, ?_⟩
  have hst1 := W.frame 0 s (s.heap.push { cls := .type "list", data := .seq #[] }) s.toks hst (Nat.le_refl _) fun b _ o e => Heap.get?_push_of_some _ e
  show wpAny _ A.in1.in1 (do let old ← Builtin.List.listItems (.ref s.heap.objs.size); Builtin.List.listUpdate (.ref s.heap.objs.size) (fun _ => #[]); letGo old.toList.reverse; Builtin.List.listExtendWith (.ref s.heap.objs.size) (.ref I) .none) _ _ _
  refine wpAny_bind ?_
  unfold Builtin.List.listItems
  refine wpAny_bind (wpAny_seqItems hS rfl (wpAny_pure (wpAny_bind (wpAny_updateSeq hS rfl ?_))))
  have hS2 := Heap.get?_update_self (Obj.mapSeq (fun _ => (#[] : Array Value))) hS rfl
  have kp : ∀ b o, b ≠ s.heap.objs.size → (s.heap.push { cls := .type "list", data := .seq #[] }).get? b = some o → ((s.heap.push { cls := .type "list", data := .seq #[] }).update s.heap.objs.size (Obj.mapSeq (fun _ => (#[] : Array Value)))).get? b = some o :=
    fun b o hb e => (Heap.get?_update_other _ _ (Ne.symm hb)).trans e
  refine wpAny_bind (wpAny_letGo ?_)
  refine ext_walk W hT t1 t2 hh .none _ (W.frame 0 _ _ s.toks hst1 (Nat.le_refl _) fun b hb o e => kp b o (fun z => nf (by rw [← z]; exact hb)) e) nf hI hS2 hn fun s' acc' c' hm hS' hacc => ?_
  exact ⟨rfl, hQ s' acc' c' (Moved.trans W.gtrans ((Moved.refl W.grefl).then_heap (Nat.le_refl _) fun b o hb e => kp b o (fun z => hb (by rw [z]; exact List.mem_cons_self)) e) hm) hS' hacc⟩
end
/-! ### list(reversed(xs)) -/
theorem rev_nolen : typeLookup (.type "list_reverseiterator") "__len__" = pure none := by rw [typeLookup_type, builtinLookup_eq_fast]; kernel_rfl
theorem rev_hint : typeLookup (.type "list_reverseiterator") "__length_hint__" = pure (some (.builtin "list_reverseiterator.__length_hint__")) := by rw [typeLookup_type, builtinLookup_eq_fast]; kernel_rfl
theorem hint_rev {prog : Program} {w : World} {A : Around} {s : Shared} {E : Value → Shared → Prop} {Q : Bool → Shared → Prop} {it l : Addr} {i : Int} (hit : s.heap.IsRevIter it l i) (h : Q false s) :
    wpAny (model prog w) A (Builtin.List.listLengthHint (.ref it)) Q E s := by
  unfold Builtin.List.listLengthHint
  refine wpAny_bind (wpAny_specialOf hit.typeIs rev_nolen ?_)
  show wpAny _ A (specialOf (Value.ref it) (Str.ofString "__length_hint__") >>= _) _ _ _
  refine wpAny_bind (wpAny_specialOf hit.typeIs rev_hint ?_)
  generalize hid : ("list_reverseiterator.__length_hint__" : String) = id0
  wp_delta
  rw [show splitId id0 = some ("list_reverseiterator", "__length_hint__") from by subst hid; decide +kernel]
  subst hid
  refine wpAny_bind (wpAny_isInstance (T := "list_reverseiterator") (b := true) hit.typeIs (by rw [isSubtype_type]; kernel_rfl) ?_)
  refine wpAny_ite_split (fun z => absurd z (by decide)) (fun _ => ?_)
  refine wpAny_ite_split (fun _ => ?_) (fun z => absurd (by decide +kernel) z)
  exact wpAny_ite_split (fun z => absurd z (by decide +kernel)) (fun _ => wpAny_pure h)
section
variable {X : Cx}
def tRevL (K : PySem.W.Frag) (te : TE) : TE := fun σ H Q => te σ H fun v H1 => ∃ l xs, v = .ref l ∧ SqL K H1 l xs ∧ ∀ q, H1 q = none → Q (.ref q) (upd H1 q (.lst xs.reverse))
theorem pe_list_reversed {e : Expr} {te : TE} {p p2 pos pos2 : Pos} (hc : X.calm = true) (hml : X.mg "list" = none) (hmr : X.mg "reversed" = none) (he : PE X e te) (hgl : Gl X "list" := by rfl) (hgr : Gl X "reversed" := by rfl)
    (hs : starEach [e] X.env = [(false, eval e X.env)] := by rfl) (hs2 : starEach [Expr.Call (.Name "reversed" p2) [e] [] pos2] X.env = [(false, eval (Expr.Call (.Name "reversed" p2) [e] [] pos2) X.env)] := by rfl) :
    PE X (.Call (.Name "list" p) [.Call (.Name "reversed" p2) [e] [] pos2] [] pos) (tRevL X.K te) := by
  intro pins s σ H Q I h
  refine wpAny_Call_Name_kw (ld_blt I hgl hml boot_list ?_ (by decide) (by decide))
  refine PyProof.Rows.callWith_type1 ?_ hs2 rfl
  rw [hs2]
  show wpAny _ _ (spliced [(false, eval (Expr.Call (.Name "reversed" p2) [e] [] pos2) X.env)]) _ _ s
  refine Calls.spliced_cons (wpAny_Call_Name_kw (ld_blt I hgr hmr boot_reversed ?_ (by decide) (by decide)))
  refine PyProof.Rows.callWith_type1 ?_ hs rfl
  rw [hs]
  show wpAny _ _ (spliced [(false, eval e X.env)]) _ _ s
  refine Calls.spliced_cons (thn (he pins s σ H _ I h) fun v s1 ⟨x, H1, I1, r1, q1⟩ => Calls.spliced_nil ?_)
  obtain ⟨l, xs, rfl, hq, q⟩ := q1
  cases r1
  obtain ⟨its, rv, pl, hz⟩ := I1.list hq
  have hlen := rv.length
  refine call_reversed_list pl.isList (Calls.spliced_nil ?_)
  have hlt : l < s1.heap.objs.size := by
    obtain ⟨o, n, ho, _⟩ := pl
    exact Heap.lt_size ho
  have hlne : l ≠ s1.heap.objs.size := Nat.ne_of_lt hlt
  have W := (Walks.listRev (prog := X.prog) (w := X.w) (A := X.A.in1.in1) (I.ok.hd hc) s1.heap.objs.size l hlne its.toArray).toS
  have psz : (s1.heap.push (revObj l ((its.toArray.size : Int) - 1))).objs.size = s1.heap.objs.size + 1 := Heap.size_push ..
  have pl2 : (s1.heap.push (revObj l ((its.toArray.size : Int) - 1))).IsList l its.toArray := pl.isList.at fun o e => Heap.get?_push_of_some _ e
  refine list_walk W (T := "list_reverseiterator") (fun i s' st => st.2.1.typeIs) (by decide) (by decide) (fun s' Q' E' st hq' => hint_rev st.2.1 hq') ⟨Nat.zero_le _, ⟨_, Heap.get?_push_size _ rfl, rfl, by unfold revObj; simp⟩, pl2⟩ (fun b hb => ?_) (by simp) (by simp; omega) fun s' acc' c' hm hS' hacc => ?_
  · have hb' : b = s1.heap.objs.size ∨ b = l := by simpa using hb
    show b < (s1.heap.push (revObj l ((its.toArray.size : Int) - 1))).objs.size
    rw [psz]
    rcases hb' with rfl | rfl
    · exact Nat.lt_succ_self _
    · exact Nat.lt_succ_of_lt hlt
  · have ea : acc' = its.reverse.toArray := by
      obtain ⟨a1, a2⟩ := hacc
      apply Array.ext'
      apply List.ext_getElem?
      intro j
      by_cases hj : j < its.length
      · have hj' : j < acc'.size := by rw [a1]; simpa using hj
        have g := a2 j acc'[j] (by simp [hj'])
        have e1 : acc'.toList[j]? = some acc'[j] := by simp [hj']
        rw [e1]
        simp only [List.getElem?_toArray, List.size_toArray] at g
        show _ = its.reverse[j]?
        rw [List.getElem?_reverse hj, g]
      · have : acc'.toList[j]? = none := by simp; rw [a1]; simp; omega
        rw [this]
        simp
        omega
    subst ea
    rw [Moved.eq_with hm]
    have kp : ∀ b o, s1.heap.get? b = some o → s'.heap.get? b = some o := fun b o eb => by
      have hbl := Heap.lt_size eb
      refine hm.heap b o (fun z => ?_) (Heap.get?_push_of_some _ (Heap.get?_push_of_some _ eb))
      have z' : b = (s1.heap.push (revObj l ((its.toArray.size : Int) - 1))).objs.size ∨ b = s1.heap.objs.size := by simpa using z
      rw [psz] at z'
      rcases z' with z' | z'
      · exact absurd hbl (by rw [z']; exact Nat.not_lt.mpr (Nat.le_succ _))
      · exact absurd hbl (by rw [z']; exact Nat.lt_irrefl _)
    refine ⟨.ref _, _, I1.laid (t' := s'.toks) (o := .lst xs.reverse) (a := (s1.heap.push (revObj l ((its.toArray.size : Int) - 1))).objs.size) kp (by rw [psz]; omega) ?_, rfl, q _ (I1.hok.fresh (by rw [psz]; omega))⟩
    exact ⟨by rw [List.length_reverse]; exact hz, its.reverse, c', rv.reverse, hS'⟩
end
end L2
namespace L2
open PySem PySem.Spec PyProof.Rows
/-! ### the scope of a comprehension, looked at -/
def scopeOk (Nc : List Str) (ix : List (Option Nat)) (scope sc : Scope) (N : List Str) : Bool :=
  decide (scope.kind = .function) && decide Nc.Nodup && decide (ix.length = Nc.length) &&
  (scope.names.all fun x => decide (x.2 = .local → scope.names.lookup x.1 = some .local)) &&
  (scope.names.all fun x => decide (x.2 = .free → sc.names.lookup x.1 = some .cell ∨ sc.names.lookup x.1 = some .free)) &&
  (scope.names.all fun x => decide (x.2 = .free → (x.1, NameKind.cell) ∉ scope.names)) &&
  ((ix.zip Nc).all fun p => match p.1 with | none => true | some j => decide (N[j]? = some p.2 ∧ scope.names.lookup p.2 = some .free))
theorem cscope {X : Cx} {Nc : List Str} {ix : List (Option Nat)} {scope : Scope} (sc : Scope) (N : List Str) (hsc : X.env.scope = sc) (hN : X.N = N) (h : scopeOk Nc ix scope sc N = true) : CompScope X Nc ix scope := by
  subst hsc hN
  simp only [scopeOk, Bool.and_eq_true, decide_eq_true_eq, List.all_eq_true] at h
  obtain ⟨⟨⟨⟨⟨⟨h1, h2⟩, h3⟩, h4⟩, h5⟩, h6⟩, h7⟩ := h
  refine ⟨h1, h2, h3, h4, h5, fun x hx => h6 _ hx rfl, fun i j x e1 e2 => ?_⟩
  have hm : (some j, x) ∈ ix.zip Nc := by
    refine List.mem_iff_getElem?.mpr ⟨i, ?_⟩
    rw [List.getElem?_zip_eq_some]
    exact ⟨e1, e2⟩
  have := h7 _ hm
  simpa using this
end L2
namespace L2
open PySem PySem.Spec PyProof.Rows
/-! ### the forms of a comprehension that one uses -/
section
variable {K : PySem.W.Frag} {g : TG} {tt : TT} {te : TE} {D : Addr} {σ : St} {H : Hp} {Q : VK}
theorem lc_list {a : Addr} {xs : List V} (Pv : Nat → St → Hp → Prop) (h0 : Pv 0 σ H) (hl : ∀ i σ H, i ≤ xs.length → Pv i σ H → SqL K H a xs)
    (hs : ∀ (i : Nat) (x : V) (σ : St) (H : Hp) (N : St → Hp → Prop), (∀ σ H, Pv (i + 1) σ H → N σ H) → xs[i]? = some x → Pv i σ H → g x σ H fun σ3 H3 => tt σ3 H3 fun b H4 =>
      if b = true then te σ3 H4 fun v H5 => ∃ ys, H5 D = some (.lst ys) ∧ ys.length < sizeLine ∧ N σ3 (upd H5 D (.lst (ys ++ [v]))) else N σ3 H4)
    (hd : ∀ σ H, Pv xs.length σ H → Q (.ref D) H) :
    lcRun (Itl K a) g tt te D σ H Q := by
  refine ⟨fun i m σ H => m = xs.length - i ∧ i ≤ xs.length ∧ Pv i σ H, ⟨xs.length, by simp, Nat.zero_le _, h0⟩, ?_⟩
  rintro i m σ' H' ⟨rfl, hi, p⟩
  have q := hl i σ' H' hi p
  by_cases hlt : i < xs.length
  · refine .inr ⟨⟨xs, xs[i], q, by simp [hlt]⟩, fun x H2 y => ?_⟩
    obtain ⟨e, y⟩ := y
    subst e
    exact hs i x σ' _ (fun σ3 H3 => ∃ m', m' < xs.length - i ∧ m' = xs.length - (i + 1) ∧ i + 1 ≤ xs.length ∧ Pv (i + 1) σ3 H3) (fun σ3 H3 z => ⟨xs.length - (i + 1), by omega, rfl, hlt, z⟩) (y xs q) p
  · have e : i = xs.length := by omega
    subst e
    exact .inl ⟨⟨xs, q, Nat.le_refl _⟩, hd σ' H' p⟩
theorem lc_range {lo : Int} {n : Nat} (Pv : Nat → St → Hp → Prop) (h0 : Pv 0 σ H)
    (hs : ∀ (i : Nat) (σ : St) (H : Hp) (N : St → Hp → Prop), (∀ σ H, Pv (i + 1) σ H → N σ H) → i < n → Pv i σ H → g (.int (lo + i)) σ H fun σ3 H3 => tt σ3 H3 fun b H4 =>
      if b = true then te σ3 H4 fun v H5 => ∃ ys, H5 D = some (.lst ys) ∧ ys.length < sizeLine ∧ N σ3 (upd H5 D (.lst (ys ++ [v]))) else N σ3 H4)
    (hd : ∀ σ H, Pv n σ H → Q (.ref D) H) :
    lcRun (Itr lo n) g tt te D σ H Q := by
  refine ⟨fun i m σ H => m = n - i ∧ i ≤ n ∧ Pv i σ H, ⟨n, by simp, Nat.zero_le _, h0⟩, ?_⟩
  rintro i m σ' H' ⟨rfl, hi, p⟩
  by_cases hlt : i < n
  · refine .inr ⟨hlt, fun x H2 y => ?_⟩
    obtain ⟨e, y⟩ := y
    subst e y
    exact hs i σ' _ (fun σ3 H3 => ∃ m', m' < n - i ∧ m' = n - (i + 1) ∧ i + 1 ≤ n ∧ Pv (i + 1) σ3 H3) (fun σ3 H3 z => ⟨n - (i + 1), by omega, rfl, hlt, z⟩) hlt p
  · have e : i = n := by omega
    subst e
    exact .inl ⟨Nat.le_refl _, hd σ' H' p⟩
end
theorem item_of {ns : List Int} {i : Nat} {y : V} (h : (ns.map V.int)[i]? = some y) : ∃ z, ns[i]? = some z ∧ y = V.int z := by
  rw [List.getElem?_map] at h
  cases e : ns[i]? with
  | none => rw [e] at h; cases h
  | some z => rw [e] at h; exact ⟨z, rfl, (Option.some.inj h).symm⟩
theorem take_succ {α : Type} {l : List α} {i : Nat} {x : α} (h : l[i]? = some x) : l.take (i + 1) = l.take i ++ [x] := by
  rw [List.take_succ, h]; rfl
end L2
namespace L2
open PySem
end L2
namespace L2
open PySem
/-- the turn of a comprehension without a test, its target a name -/
theorem turn_do {i : Nat} {x : V} {σ : St} {H : Hp} {A B : St → Hp → Prop} (h : A (σ.set i (some x)) H) : gName i x σ H fun σ3 H3 => tYes σ3 H3 fun b H4 => if b = true then A σ3 H4 else B σ3 H4 := by
  show if true = true then A (σ.set i (some x)) H else B (σ.set i (some x)) H
  exact iteT h
end L2
namespace L2
open PySem PySem.Spec PyProof.Rows
/-! ### zip(xs, ys) walked with two names -/
section
variable {X : Cx} {pins : List (Addr × Obj)} {σ : St} {H : Hp} {s : Shared} {h' : Heap}
/-- several objects of an iterator have turned, and one may have been laid -/
theorem Inv.turnedL {ch : List Addr} {t' : Nat} (I : Inv X pins σ H s) (k : ∀ b o, b ∉ ch → s.heap.get? b = some o → h'.get? b = some o) (hf : ∀ b ∈ ch, FpOk X pins H b) : Inv X pins σ H { s with heap := h', toks := t' } := by
  have nin : ∀ b u, H b = some u → b ∉ ch := fun b u e z => by rw [(hf b z).1] at e; cases e
  refine I.call' (s' := { s with heap := h', toks := t' }) (ch := ch) rfl ⟨fun b o e _ _ hx => k b o hx e, fun b o e _ _ hx => ⟨o.slots, k b o hx e⟩, fun _ _ _ n _ => n, fun b o e hx => ⟨o, k b o hx e⟩, fun _ _ e => e, fun _ _ _ e => e, fun b ps e => ⟨#[], by rw [e]; simp⟩⟩ ?_ I.bare fun b hb => ?_
  · intro b o e
    refine (I.hok b o e).stay (fun c u hc q => k c u ?_ q) (fun _ q => q) fun _ _ q => q
    rcases hc with z | z
    · rw [z]; exact nin b o e
    · exact nin c _ z
  · obtain ⟨_, q1, _, q3, q4, q5⟩ := hf b hb
    exact ⟨q3, q1, q4, q5⟩
theorem Inv.turnedNew {ch : List Addr} {T : Addr} {o : HO} {t' : Nat} (I : Inv X pins σ H s) (k : ∀ b o, b ∉ ch → s.heap.get? b = some o → h'.get? b = some o) (hf : ∀ b ∈ ch, FpOk X pins H b) (hT : s.heap.objs.size ≤ T)
    (new : ObjOk X.prog X.w (upd H T o) h' T o) : Inv X pins σ (upd H T o) { s with heap := h', toks := t' } := by
  have nin : ∀ b u, H b = some u → b ∉ ch := fun b u e z => by rw [(hf b z).1] at e; cases e
  have hn := I.hok.fresh hT
  have old : ∀ b u, s.heap.get? b = some u → b ≠ T := fun b u e => Nat.ne_of_lt (Nat.lt_of_lt_of_le (Heap.lt_size e) hT)
  refine I.call' (s' := { s with heap := h', toks := t' }) (ch := ch) rfl ⟨fun b o e _ _ hx => k b o hx e, fun b o e _ _ hx => ⟨o.slots, k b o hx e⟩, fun b u e n _ => by rw [upd_ne (old b u e)]; exact n, fun b o e hx => ⟨o, k b o hx e⟩,
    fun b xs e => by rw [upd_ne (ne_of_none e hn)]; exact e, fun b o u e => by rw [upd_ne (ne_of_none e hn)]; exact e, fun b ps e => ⟨#[], by rw [upd_ne (ne_of_none e hn), e]; simp⟩⟩ ?_ I.bare fun b hb => ?_
  · intro b u e
    by_cases hb : b = T
    · subst hb
      rw [upd_same] at e
      cases e
      exact new
    · rw [upd_ne hb] at e
      refine (I.hok b u e).stay (fun c v hc q => k c v ?_ q) (fun c q => by rw [upd_ne (ne_of_none q hn)]; exact q) fun c xs q => by rw [upd_ne (ne_of_none q hn)]; exact q
      rcases hc with z | z
      · rw [z]; exact nin b u e
      · exact nin c _ z
  · obtain ⟨_, q1, _, q3, q4, q5⟩ := hf b hb
    exact ⟨q3, q1, q4, q5⟩
end
section
variable {X : Cx}
/-- a, b = .. -/
theorem pg_two {i j : Nat} {x y : Str} {px py pos : Pos} {k : Nat} (hc : X.calm = true) (hN : X.N.Nodup) (hi : X.N[i]? = some x) (hj : X.N[j]? = some y) (lx : Loc X.env.scope x) (ly : Loc X.env.scope y)
    (fx : X.fn x = true ∨ X.env.scope.names.lookup x = some .local := by first | exact .inl rfl | exact .inr rfl) (fy : X.fn y = true ∨ X.env.scope.names.lookup y = some .local := by first | exact .inl rfl | exact .inr rfl)
    (hs : (assignEach [.Name x px, .Name y py] X.env).map (·.2) = [assign (.Name x px) X.env, assign (.Name y py) X.env] := by rfl) (hs2 : (assignEach [.Name y py] X.env).map (·.2) = [assign (.Name y py) X.env] := by rfl) (hs0 : (assignEach [] X.env).map (·.2) = [] := by rfl)
    (hn : (assignEach [.Name x px, .Name y py] X.env).length = 2 := by rfl) (hst : (assignEach [.Name x px, .Name y py] X.env).findIdx? (·.1) = none := by rfl) :
    PG X (.Tuple [.Name x px, .Name y py] k pos) (gTup X.K 2 (gCons (gName i) (gCons (gName j) gNil))) :=
  pg_tup hc (pgs_cons (pg_name hN hi lx fx) (pgs_cons (pg_name hN hj ly fy) pgs_nil (by rw [hs2, hs0])) (by rw [hs, hs2])) hn hst
end
end L2
namespace L2
open PySem PySem.Spec PyProof.Rows
section
variable {K : PySem.W.Frag} {g : TG} {tt : TT} {te : TE} {D : Addr} {σ : St} {H : Hp} {Q : VK}
end
/-! ### sum of a list of ints -/
section
variable {X : Cx}
/-! ### xs.remove(x): the item at k is x itself, those ahead are lists of ints unlike it -/
end
end L2
namespace L2
open PySem PySem.Spec PyProof.Rows
/-! ### lists by places -/
def tabV (n : Nat) (f : Nat → V) : List V := (List.range n).map f
abbrev tabI (n : Nat) (f : Nat → Int) : List V := tabV n fun j => V.int (f j)
abbrev tabR (n : Nat) (f : Nat → Addr) : List V := tabV n fun j => V.ref (f j)
theorem tab_len (n : Nat) (f : Nat → V) : (tabV n f).length = n := by simp [tabV]
theorem tab_get {n i : Nat} {f : Nat → V} (h : i < n) : (tabV n f)[i]? = some (f i) := by simp [tabV, h]
theorem tab_of {n i : Nat} {f : Nat → V} {x : V} (h : (tabV n f)[i]? = some x) : i < n ∧ x = f i := by
  have hi : i < n := by
    have := (List.getElem?_eq_some_iff.mp h).1
    rwa [tab_len] at this
  rw [tab_get hi] at h
  exact ⟨hi, (Option.some.inj h).symm⟩
theorem tab_succ (n : Nat) (f : Nat → V) : tabV (n + 1) f = tabV n f ++ [f n] := by simp [tabV, List.range_succ]
theorem tab_congr {n : Nat} {f g : Nat → V} (h : ∀ i, i < n → f i = g i) : tabV n f = tabV n g := by
  unfold tabV
  apply List.map_congr_left
  intro i hi
  exact h i (List.mem_range.mp hi)
/-- a grid of ints: m rows of n -/
def Grid (K : PySem.W.Frag) (H : Hp) (l : Addr) (m n : Nat) (a : Nat → Nat → Int) : Prop := ∃ as : Nat → Addr, SqL K H l (tabR m as) ∧ ∀ i, i < m → SqL K H (as i) (tabI n (a i))
theorem Same.grid {K : PySem.W.Frag} {H H' : Hp} {l : Addr} {m n : Nat} {a : Nat → Nat → Int} (s : Same H H') (g : Grid K H l m n a) : Grid K H' l m n a := let ⟨as, h1, h2⟩ := g; ⟨as, s.seq h1, fun i hi => s.seq (h2 i hi)⟩
theorem Grid.congr {K : PySem.W.Frag} {H : Hp} {l : Addr} {m n : Nat} {a b : Nat → Nat → Int} (g : Grid K H l m n a) (h : ∀ i j, i < m → j < n → a i j = b i j) : Grid K H l m n b := by
  obtain ⟨as, h1, h2⟩ := g
  refine ⟨as, h1, fun i hi => ?_⟩
  have e : tabI n (a i) = tabI n (b i) := tab_congr fun j hj => by rw [h i j hi hj]
  rw [← e]
  exact h2 i hi
end L2
namespace L2
open PySem PySem.Spec PyProof.Rows
section
variable {K : PySem.W.Frag} {g : TG} {tt : TT} {te : TE} {D : Addr} {σ : St} {H : Hp} {Q : VK}
end
end L2
namespace L2
open PySem
theorem tab_snoc (i : Nat) (F : Nat → V) (x : V) : tabV i F ++ [x] = tabV (i + 1) fun k => if k = i then x else F k := by
  refine ((tab_succ i _).trans ?_).symm
  rw [show tabV i (fun k => if k = i then x else F k) = tabV i F from tab_congr fun k hk => by rw [if_neg (by omega)], if_pos rfl]
theorem tabR_snoc (i : Nat) (ps : Nat → Addr) (p : Addr) : tabR i ps ++ [V.ref p] = tabR (i + 1) fun k => if k = i then p else ps k := by
  rw [tab_snoc]
  refine tab_congr fun k hk => ?_
  by_cases e : k = i <;> simp [e]
end L2
namespace L2
open PySem
theorem cut_ints (ns : List Int) (lo hi : Option Int) : ∃ as : List Int, cutV (ns.map V.int) lo hi = as.map V.int ∧ (∀ a ∈ as, a ∈ ns) ∧ as.length ≤ ns.length := by
  refine ⟨(ns.drop (HT.sIx (ns.map V.int).length 0 lo)).take (HT.sIx (ns.map V.int).length (ns.map V.int).length hi - HT.sIx (ns.map V.int).length 0 lo), ?_, fun a ha => List.mem_of_mem_drop (List.mem_of_mem_take ha), ?_⟩
  · unfold cutV
    rw [List.map_take, List.map_drop]
  · rw [List.length_take, List.length_drop]
    omega
/-- a shadow of the heap, one object more -/
theorem Same.both {B H : Hp} {p : Addr} {o : HO} (s : Same B H) (h : H p = some o) : Same (upd B p o) H := fun b u e => by
  by_cases z : b = p
  · subst z
    rw [upd_same] at e
    cases e
    exact h
  · rw [upd_ne z] at e
    exact s b u e
theorem Same.grow {B : Hp} {p : Addr} {o : HO} (h : B p = none) : Same B (upd B p o) := (Same.refl B).new h
end L2
namespace L2
end L2
namespace L2
open PySem PySem.Spec PyProof.Rows
/-- what holds behind a statement, said once for all its ways -/
def tCut (t : TS) : TS := fun D σ H => ∃ R : St → Hp → Prop, t { D with nx := R } σ H ∧ ∀ σ' H', R σ' H' → D.nx σ' H'
theorem ps_cut {X : Cx} {st : Stmt} {t : TS} (h : PS X st t) : PS X st (tCut t) := by
  intro pins s σ H D I ⟨R, h1, h2⟩
  refine wpAny_mono (h pins s σ H { D with nx := R } I h1) (fun f s' q => ?_) fun _ _ z => z
  cases f with
  | next => obtain ⟨σ', H', I', q⟩ := q; exact ⟨σ', H', I', h2 σ' H' q⟩
  | brk => exact q
  | cont => exact q
  | ret u => exact q
end L2
namespace L2
open PySem PySem.Spec PyProof.Rows
/-! ### the rules with the written part named, for blocks within which the context is bound -/
section
variable {X : Cx} (K : PySem.W.Frag)
theorem ix_listK (hK : X.K = K := by rfl) : IxR X (rIxL K) := by subst hK; exact ix_list
theorem ix_tupK (hK : X.K = K := by rfl) : IxR X (rIxT K) := by subst hK; exact ix_tup
theorem sl_listK (hK : X.K = K := by rfl) : SlR X (rSlL K) := by subst hK; exact sl_list
theorem call_lenK (hK : X.K = K := by rfl) : CallR X (.builtin "len") (fun xs H Q => ∃ p ys, xs = [.ref p] ∧ (SqL K H p ys ∨ SqT K H p ys) ∧ Q (.int ys.length) H) := by subst hK; exact call_len_seq
theorem call_allK (hc : X.calm = true) (hK : X.K = K := by rfl) : CallR X (.builtin "all") (fun xs H Q => ∃ (p : Addr) (bs : List Bool), xs = [.ref p] ∧ SqL K H p (bs.map V.bl) ∧ Q (.bl (bs.all id)) H) := by
  subst hK
  intro pins s σ H xs us Q I r ⟨p, ns, h1, h2, h3⟩
  exact call_all pins s σ H xs us Q I r ⟨p, ns, hc, h1, h2, h3⟩
theorem op_eqLK (hu : X.A.units + 16 < cLine) (hK : X.K = K := by rfl) : OpR X (compareOp .Eq) (rEqL K false) := by subst hK; exact op_eqL hu
theorem op_catK (hK : X.K = K := by rfl) : OpR X (binaryOp .Add) (rCatS K) := by subst hK; exact op_catS
theorem pi_listK {tg l : Expr} {tl : TE} (hl : PE X l tl) (hK : X.K = K := by rfl) : PI X tg l (iList K tl) := by subst hK; exact pi_list hl
theorem pg_twoK {i j : Nat} {x y : Str} {px py pos : Pos} {k : Nat} (hc : X.calm = true) (hN : X.N.Nodup) (hi : X.N[i]? = some x) (hj : X.N[j]? = some y) (lx : Loc X.env.scope x) (ly : Loc X.env.scope y) (hK : X.K = K := by rfl)
    (fx : X.fn x = true ∨ X.env.scope.names.lookup x = some .local := by first | exact .inl rfl | exact .inr rfl) (fy : X.fn y = true ∨ X.env.scope.names.lookup y = some .local := by first | exact .inl rfl | exact .inr rfl)
    (hs : (assignEach [.Name x px, .Name y py] X.env).map (·.2) = [assign (.Name x px) X.env, assign (.Name y py) X.env] := by rfl) (hs2 : (assignEach [.Name y py] X.env).map (·.2) = [assign (.Name y py) X.env] := by rfl) (hs0 : (assignEach [] X.env).map (·.2) = [] := by rfl)
    (hn : (assignEach [.Name x px, .Name y py] X.env).length = 2 := by rfl) (hst : (assignEach [.Name x px, .Name y py] X.env).findIdx? (·.1) = none := by rfl) :
    PG X (.Tuple [.Name x px, .Name y py] k pos) (gTup K 2 (gCons (gName i) (gCons (gName j) gNil))) := by
  subst hK
  exact pg_two hc hN hi hj lx ly fx fy hs hs2 hs0 hn hst
theorem pe_bmK {o e : Expr} {es : List Expr} {to : TE} {t : TA} {name : Str} {apos cpos : Pos} {T id : String} {r : V → List V → Hp → VK → Prop} (pa : PlainAttrs T) (slot : Slot T name id) (hty : typeOf (.builtin id) = pure (.type "method_descriptor")) (hm : MtR X id r) (ho : PE X o to) (ha : PA X (e :: es) t) (hK : X.K = K := by rfl)
    (hbase : attributeBase o name X.env (eval o X.env) = eval o X.env := by rfl)
    (hfew : ((backTo cpos (starEach (e :: es) X.env)).all (fun x => !x.1) && (backToKw cpos (keywordEach [] X.env)).all (fun x => x.1.isSome)
      && decide ((e :: es).length + ([] : List Keyword).length + (if ([] : List Keyword).isEmpty then 0 else 1) < 30)) = true := by rfl)
    (hline : (apos.endLine == cpos.line) = true := by rfl) (hs : starEach (e :: es) X.env = (false, eval e X.env) :: starEach es X.env := by rfl) (hplain : (backTo cpos (starEach es X.env)).any (·.1) = false := by rfl) :
    PE X (.Call (.Attribute o name apos) (e :: es) [] cpos) (tBM K T r to t) := by subst hK; exact pe_bm pa slot hty hm ho ha hbase hfew hline hs hplain
end
end L2
namespace L2
open PySem PySem.Spec PyProof.Rows
/-! ### two lists of ints compared, whatever they hold -/
section
variable {X : Cx}
end
/-- the turn of a comprehension with a test, its target a name -/
theorem turn_if {i : Nat} {x : V} {σ : St} {H : Hp} {tt : TT} {A B : St → Hp → Prop} (h : tt (σ.set i (some x)) H fun b H4 => if b = true then A (σ.set i (some x)) H4 else B (σ.set i (some x)) H4) : gName i x σ H fun σ3 H3 => tt σ3 H3 fun b H4 => if b = true then A σ3 H4 else B σ3 H4 := h
end L2
namespace L2
open PySem PySem.Spec PyProof.Rows
/-! ### for x in reversed(xs): xs as it stood -/
section
variable {X : Cx} {tg : Expr}
end
/-! ### is True, is False -/
section
variable {X : Cx}
theorem op_notB : OpR X (compareOp .IsNot) (fun x y H Q => ∃ b c, x = .bl b ∧ y = .bl c ∧ Q (.bl (b != c)) H) := by
  intro pins s σ H x y v u Q I rx ry h
  obtain ⟨b, c, rfl, rfl, q⟩ := h
  cases rx
  cases ry
  exact isnot_bool (fin_bl I q rfl)
end
end L2
namespace L2
open PySem PySem.Spec PyProof.Rows
/-! ### zip of a list and a tuple, the list no longer than the tuple -/
section
variable {prog : Program} {w : World} {A : Around} {E : Value → Shared → Prop} {s : Shared}
theorem nextOf_tup {it t : Addr} {i : Nat} {items : Array Value} {x : Value} {Q : Value → Shared → Prop} (hit : s.heap.IsTupleIter it t i) (ht : s.heap.IsTuple t items) (hx : items[i]? = some x)
    (hQ : ∀ h', h'.IsTupleIter it t (i + 1) → Heap.SameBut it s.heap h' → Q x { s with heap := h' }) : wpAny (model prog w) A (Builtin.SmallTypes.nextOf (.ref it)) Q E s := by
  obtain ⟨o, ho, hc, hd⟩ := id hit
  obtain ⟨u, hu, _, m, du⟩ := ht
  unfold Builtin.SmallTypes.nextOf
  refine wpAny_bind (wpAny_callSpecial?_slot (name := Str.ofString "__next__") hit.typeIs F.slot_tuple_iterator_next (wpAny_call_entry F.slot_tuple_iterator_next hit.typeIs F.entry_tuple_iterator_next ?_ (F.args_tuple_iterator_next_1 _)))
  refine (show wpAny _ _ (field (.ref it) 0 >>= _) _ _ s from wpAny_bind (wpAny_field ho hd (x := .ref t) rfl ?_))
  refine (show wpAny _ _ (if (Value.ref t == Value.none) = true then _ else _) _ _ s from ?_)
  rw [if_neg (by exact Bool.false_ne_true)]
  refine (show wpAny _ _ (field (.ref it) 1 >>= _) _ _ s from wpAny_bind (wpAny_field ho hd (x := .int i 0) rfl ?_))
  refine (show wpAny _ _ (seqItems? (.ref t) >>= _) _ _ s from wpAny_bind (wpAny_seqItems hu du ?_))
  simp only [hx, Int.toNat_natCast]
  refine wpAny_bind (wpAny_setField ho hd (by simp) (wpAny_pure ⟨x, rfl, wpAny_pure (hQ _ ⟨_, Heap.get?_update_self _ ho (Obj.isFreed_of_fields (Obj.data_mapFields hd _)), (Obj.cls_mapFields ..).trans hc, ?_⟩ (Heap.SameBut.update ..))⟩))
  rw [Obj.data_mapFields hd]
  simp [rawInt]
end
section
variable {prog : Program} {w : World} {A : Around} {E : Value → Shared → Prop} {s : Shared}
end
section
variable {X : Cx}
end
section
variable {K : PySem.W.Frag} {g : TG} {tt : TT} {te : TE} {D : Addr} {σ : St} {H : Hp} {Q : VK}
end
end L2
namespace L2
open PySem
/-- a tuple that stands in the module -/
structure TupK (K : PySem.W.Frag) (a : Addr) (xs : List V) : Prop where
  ex : ∃ (o : Obj) (its : Array Value) (n : Nat), K.lookup a = some o ∧ o.cls = .type "tuple" ∧ o.data = .seq its n ∧ its.size ≤ sizeLine ∧ Vals xs its.toList
end L2
namespace L2
open PySem PySem.Spec PyProof.Rows
/-! ### enumerate(xs) walked with two names -/
def Ite (K : PySem.W.Frag) (a : Addr) : It :=
  ⟨fun i H => ∃ xs x, SqL K H a xs ∧ xs[i]? = some x,
   fun i H v H' => ∃ p x, H p = none ∧ v = .ref p ∧ H' = upd H p (.tup [.int (i : Nat), x]) ∧ ∀ xs, SqL K H a xs → xs[i]? = some x,
   fun i H => ∃ xs, SqL K H a xs ∧ xs.length ≤ i⟩
theorem turn_enum {P : Program} {w : World} {K : PySem.W.Frag} {elts : List Expr} {x1 : Nat} {pos : Pos} {e it l : Addr} (hne : e ≠ it) :
    Turn P w K (.Tuple elts x1 pos) (Ite K l) [e, it] e (fun i h => (∃ old, IsEnum h e it ((i : Nat) : Int) old) ∧ h.IsListIter it l i) where
  mem := by simp
  obj := fun i h st b hb => by
    obtain ⟨⟨old, he⟩, ⟨o1, e1, c1, d1⟩⟩ := st
    simp only [List.mem_cons, List.not_mem_nil, or_false] at hb
    rcases hb with rfl | rfl
    · exact ⟨_, he, fun v q => by cases q⟩
    · exact ⟨_, e1, fun v q => by rw [d1] at q; cases q⟩
  keep := fun i h h' st k => by
    obtain ⟨⟨old, he⟩, h1⟩ := st
    exact ⟨⟨old, k e (by simp) _ he⟩, h1.at fun o q => k it (by simp) o q⟩
  item := by
    intro X hP hw hK hc i pins s σ H E I hf st hg
    subst hP hw hK
    obtain ⟨⟨old, he⟩, h1⟩ := st
    obtain ⟨xs, x, hx, ex⟩ := hg
    obtain ⟨its, rv, p, hzx⟩ := I.list hx
    obtain ⟨u, hu, ru⟩ := rv.get ex
    refine wpAny_pyNext_enum_item he h1 p.isList (x := u) (by simpa using hu) hne fun h' a1 a2 a3 a4 kk => ⟨_, rfl, ?_⟩
    refine wpAny_letOwnedTupleGo_enum a1 fun h2' he' hs' => ?_
    have lt : ∀ {c o}, s.heap.get? c = some o → s.heap.objs.size ≠ c := fun q => Nat.ne_of_gt (Heap.lt_size q)
    have k2 : ∀ c o, c ∉ [e, it] → s.heap.get? c = some o → h2'.get? c = some o := fun c o hc q => by
      simp only [List.mem_cons, List.not_mem_nil, or_false, not_or] at hc
      exact hs'.extBut _ _ hc.1 (kk c o hc.1 hc.2 q)
    have tup : ObjOk X.prog X.w (upd H s.heap.objs.size (.tup [.int (i : Nat), x])) h2' s.heap.objs.size (.tup [.int (i : Nat), x]) :=
      ⟨by show 2 ≤ sizeLine; decide, [.int (i : Nat) s.toks, u], .cons ⟨_, rfl⟩ (.cons ru .nil), ⟨_, hs'.extBut _ _ (lt he) a3, rfl, _, rfl⟩⟩
    have hn := I.hok.fresh (Nat.le_refl s.heap.objs.size)
    have e1 : ((i : Nat) : Int) + 1 = ((i + 1 : Nat) : Int) := by omega
    rw [e1] at he'
    refine ⟨.ref s.heap.objs.size, _, I.turnedNew (t' := s.toks + 1) k2 hf (Nat.le_refl _) tup, rfl, ⟨_, x, hn, rfl, rfl, fun zs hq => by rw [I.list_inj hq hx]; exact ex⟩, ⟨⟨_, he'⟩, a2.extBut hs'.extBut (Ne.symm hne)⟩, fun c hc => ?_⟩
    have hcn : c ≠ s.heap.objs.size := by
      simp only [List.mem_cons, List.not_mem_nil, or_false] at hc
      obtain ⟨o1, q1, _⟩ := h1
      rcases hc with rfl | rfl
      · exact (lt he).symm
      · exact (lt q1).symm
    rw [upd_ne hcn]
    exact (hf c hc).1
  done := by
    intro X hP hw hK hc i pins s σ H E I hf st hg
    subst hP hw hK
    obtain ⟨⟨old, he⟩, h1⟩ := st
    obtain ⟨xs, hx, hle⟩ := hg
    obtain ⟨its, rv, p, hzx⟩ := I.list hx
    have l1' := rv.length
    refine wpAny_pyNext_enum_end (I.ok.hd hc) he h1 p.isList (by simp; omega) fun h' kk => ⟨rfl, ?_⟩
    refine I.turnedL (t' := s.toks) (ch := [e, it]) (fun c o hc q => ?_) hf
    simp only [List.mem_cons, List.not_mem_nil, or_false, not_or] at hc
    exact kk c o hc.2 q
  self := fun _ _ _ _ _ ⟨⟨old, he⟩, _⟩ h => wpAny_pyIter_enum he h
section
variable {X : Cx}
def iEnum (K : PySem.W.Frag) (ta : TA) : TI := fun σ H R => ta σ H fun vs H1 => ∃ a xs, vs = [.ref a] ∧ H1 a = some (.lst xs) ∧ R (Ite K a) H1
theorem pi_enumerateK (K : PySem.W.Frag) {e1 : Expr} {ta : TA} {p pos tpos : Pos} {elts : List Expr} {x1 : Nat} (hg : Gl X "enumerate") (hm : X.mg "enumerate" = none) (ha : PA X [e1] ta) (hK : X.K = K := by rfl) (hs : starEach [e1] X.env = [(false, eval e1 X.env)] := by rfl) (hpl : (backTo pos (starEach [] X.env)).any (·.1) = false := by rfl) :
    PI X (.Tuple elts x1 tpos) (.Call (.Name "enumerate" p) [e1] [] pos) (iEnum K ta) := by
  subst hK
  intro pins s σ H R I h
  refine wpAny_Call_Name_kw (ld_blt I hg hm boot_enumerate ?_ (by decide) (by decide))
  refine PyProof.Rows.callWith_type1 (thn (ha pos pins s σ H _ I h) fun us s1 ⟨vs, H1, I1, r1, q1⟩ => ?_) hs hpl
  obtain ⟨a, xs, rfl, hx, q⟩ := q1
  obtain ⟨u, rfl, ru⟩ := r1.one
  cases ru
  obtain ⟨z, its, n, rv, hl, e⟩ := I1.lstM hx
  refine call_enumerate_1 e fun h' he h1 hsz kk => ?_
  refine wpAny_pyIter_enum he ?_
  have I2 : Inv X pins σ H1 { s1 with heap := h' } := I1.kept (t' := s1.toks) fun b o q => kk b o q
  refine ⟨s1.heap.objs.size + 1, [s1.heap.objs.size + 1, s1.heap.objs.size], _, _, H1, rfl, I2, turn_enum (Nat.succ_ne_self _), ⟨⟨_, he⟩, h1⟩, fun c hc => ?_, q⟩
  have hle : s1.heap.objs.size ≤ c := by
    simp only [List.mem_cons, List.not_mem_nil, or_false] at hc
    rcases hc with rfl | rfl
    · exact Nat.le_add_right _ _
    · exact Nat.le_refl _
  exact I1.fpOk (H' := H1) hle (I1.hok.fresh hle)
end
section
variable {K : PySem.W.Frag} {g : TG} {tt : TT} {te : TE} {D : Addr} {σ : St} {H : Hp} {Q : VK}
theorem for_enum {a : Addr} {xs : List V} {tb : TS} {D : Ends} (Pv : Nat → St → Hp → Prop) (h0 : Pv 0 σ H) (hl : ∀ i σ H, i ≤ xs.length → Pv i σ H → SqL K H a xs)
    (hs : ∀ i x p σ H, xs[i]? = some x → Pv i σ H → H p = none → g (.ref p) σ (upd H p (.tup [.int (i : Nat), x])) fun σ2 H2 => tb { D with nx := Pv (i + 1), ct := Pv (i + 1), bk := D.nx } σ2 H2) (hd : ∀ σ H, Pv xs.length σ H → D.nx σ H) :
    ∃ W : Nat → Nat → St → Hp → Prop, (∃ m, W 0 m σ H) ∧ ∀ i m σ H, W i m σ H →
      ((Ite K a).stop i H ∧ D.nx σ H) ∨ ((Ite K a).go i H ∧ ∃ N : St → Hp → Prop, (∀ σ' H', N σ' H' → ∃ m', m' < m ∧ W (i + 1) m' σ' H') ∧ ∀ x H', (Ite K a).yld i H x H' → g x σ H' fun σ2 H2 => tb { D with nx := N, ct := N, bk := D.nx } σ2 H2) := by
  refine ⟨fun i m σ H => m = xs.length - i ∧ i ≤ xs.length ∧ Pv i σ H, ⟨xs.length, by simp, Nat.zero_le _, h0⟩, ?_⟩
  rintro i m σ H ⟨rfl, hi, p⟩
  have q := hl i σ H hi p
  by_cases hlt : i < xs.length
  · refine .inr ⟨⟨xs, xs[i], q, by simp [hlt]⟩, Pv (i + 1), fun σ' H' p' => ⟨xs.length - (i + 1), by omega, rfl, hlt, p'⟩, fun x H' y => ?_⟩
    obtain ⟨pp, x1, hn, rfl, rfl, ex⟩ := y
    exact hs i x1 pp σ _ (ex xs q) p hn
  · have e : i = xs.length := by omega
    subst e
    exact .inl ⟨⟨xs, q, Nat.le_refl _⟩, hd σ H p⟩
/-- a, b taken of a pair -/
theorem take_two {i j : Nat} {x y : V} {p : Addr} {A : St → Hp → Prop} (hp : SqT K H p [x, y]) (h : A ((σ.set i (some x)).set j (some y)) H) : gTup K 2 (gCons (gName i) (gCons (gName j) gNil)) (.ref p) σ H A :=
  ⟨p, [x, y], rfl, hp, rfl, x, _, rfl, y, _, rfl, rfl, h⟩
end
end L2
namespace L2
open PySem PySem.Spec PyProof.Rows
section
variable {K : PySem.W.Frag} {g : TG} {tt : TT} {te : TE} {D : Addr} {σ : St} {H : Hp} {Q : VK}
end
/-! a def that is never called with what is at hand -/
section
variable {P : Program} {w : World} {K : PySem.W.Frag} {mg : Str → Option Value} {base : Heap}
def spNo : Sp := fun _ _ _ _ => False
theorem Site.no {x : Str} {st : Stmt} {N ps : List Str} (F : Site K mg x st) (S : FnScope N ps (defScope st))
    (hb : ∀ (kV doc pm : Value) (an : Option Addr) (cdv ct : Value) (us : List Value), us.length = ps.length → bindArgs (PySem.W.fnOf x x (defArgs st) (defBody st) (defScope st) .none kV doc pm an cdv ct) ⟨us, []⟩ = pure (ps.zip us)) : Def P w K mg base 1 x ps spNo :=
  F.def S hb (fun _ _ _ _ h => h.elim) fun _ _ _ _ _ _ _ _ _ _ h => h.elim
end
end L2
namespace L2
open PySem PySem.Spec PyProof.Rows
theorem Same.tup {K : PySem.W.Frag} {H H' : Hp} {a : Addr} {xs : List V} (e : Same H H') (h : SqT K H a xs) : SqT K H' a xs := by
  rcases h with (h | ⟨o, h⟩) | h
  · exact .inl (.inl (e _ _ h))
  · exact .inl (.inr ⟨o, e _ _ h⟩)
  · exact .inr h
/-! ### what is never reached -/
/-! ### t[a:b], t + u: whichever object it is -/
section
variable {prog : Program} {w : World} {A : Around} {E : Value → Shared → Prop} {s : Shared}
theorem item_whole {t sl : Addr} {items : Array Value} {vl vu : Value} {lo hi : Option Int} {Q : Value → Shared → Prop} (ht : IsTup s.heap t items) (hs : s.heap.IsSliceOf sl vl vu .none) (pl : IsPart vl lo) (pu : IsPart vu hi)
    (h1 : HT.sIx items.size 0 lo = 0) (h2 : HT.sIx items.size items.size hi = items.size) (h : Q (.ref t) s) : wpAny (model prog w) A (getItem (.ref t) (.ref sl)) Q E s := by
  obtain ⟨os, hos, hcs, hds⟩ := id hs
  have hTs : s.TypeIs (.ref sl) "slice" := ⟨os, hos, hcs⟩
  unfold getItem
  try with_reducible refine wpAny_holding ?_
  first | refine wpAny_bind (wpAny_pure ?_) | skip
  refine wpAny_bind (wpAny_sequenceKey ht.typeIs (by decide) (wpAny_bind (wpAny_callSpecial?_slot (name := Str.ofString "__getitem__") ht.typeIs PyProof.Rows.slot_tuple_getitem (wpAny_call_entry PyProof.Rows.slot_tuple_getitem ht.typeIs PyProof.Rows.entry_tuple_getitem ?_ (PyProof.Rows.args_tuple_getitem _ _)))))
  refine (show wpAny _ _ (Builtin.Tuple.tupleItemsOf (.ref t) >>= _) _ _ s from wpAny_bind (PyProof.Rows.tupleItemsOf_ ht (wpAny_bind (wpAny_typeOf hTs ?_))))
  rw [if_pos (by decide)]
  refine wpAny_bind (HT.sliceApplied_gen hs pl pu ?_)
  rw [h1, h2, Nat.sub_zero]
  refine (show wpAny _ _ (if ((((0 : Nat) : Int) == 0) && (1 : Int) == 1 && items.size == items.size) = true then _ else _) _ _ s from ?_)
  rw [if_pos (by simp)]
  refine wpAny_bind ?_
  unfold Builtin.Tuple.tupleIsExact
  refine wpAny_bind (wpAny_typeOf ht.typeIs (wpAny_pure ?_))
  rw [if_pos (by decide)]
  first
    | exact wpAny_bind (wpAny_rule (wpAny_pure ⟨_, rfl, wpAny_pure h⟩))
    | exact wpAny_bind (wpAny_rule (wpAny_bind (wpAny_pure (wpAny_pure ⟨_, rfl, wpAny_pure h⟩))))
    | exact wpAny_bind (wpAny_bind (wpAny_rule (wpAny_pure (wpAny_pure ⟨_, rfl, wpAny_pure h⟩))))
end
section
variable {X : Cx}
def rSlA (K : PySem.W.Frag) : V → Option Int → Option Int → Hp → VK → Prop := fun x lo hi H Q => ∃ a xs, x = .ref a ∧ SqT K H a xs ∧ ∀ r H', Same H H' → SqT K H' r (cutV xs lo hi) → Q (.ref r) H'
theorem sl_tupA (K : PySem.W.Frag) (hK : X.K = K := by rfl) : SlR X (rSlA K) := by
  subst hK
  intro pins s σ H x v vl vu lo hi sl Q I rx hs pl pu h
  obtain ⟨a, xs, rfl, hx, q⟩ := h
  by_cases hw : HT.sIx xs.length 0 lo = 0 ∧ HT.sIx xs.length xs.length hi = xs.length
  · cases rx
    obtain ⟨its, r, ht, hz⟩ := I.tuple hx
    have hlen : its.toArray.size = xs.length := by rw [List.size_toArray]; exact r.length.symm
    refine ⟨"tuple", _, PyProof.Rows.slot_tuple_getitem.lookup, ht.typeIs, ?_⟩
    refine item_whole ht hs pl pu (by rw [hlen]; exact hw.1) (by rw [hlen]; exact hw.2) ?_
    refine ⟨.ref a, H, I, rfl, q a H (Same.refl _) ?_⟩
    have e : cutV xs lo hi = xs := by
      unfold cutV
      rw [hw.1, hw.2, List.drop_zero, Nat.sub_zero, List.take_length]
    rw [e]
    exact hx
  · exact sl_tup pins s σ H (.ref a) v vl vu lo hi sl Q I rx hs pl pu ⟨a, xs, rfl, hx, hw, fun p hp => q p _ ((Same.refl _).new hp) (SqT.of upd_same)⟩
def rCatA (K : PySem.W.Frag) : R2 := fun x y H Q => ∃ a b xs ys, x = .ref a ∧ y = .ref b ∧ SqT K H a xs ∧ SqT K H b ys ∧ xs.length + ys.length ≤ sizeLine ∧ ∀ r H', Same H H' → SqT K H' r (xs ++ ys) → Q (.ref r) H'
theorem op_catA (K : PySem.W.Frag) (hK : X.K = K := by rfl) : OpR X (binaryOp .Add) (rCatA K) := by
  subst hK
  intro pins s σ H x y v u Q I rx ry h
  obtain ⟨a, b, xs, ys, rfl, rfl, hx, hy, hz, q⟩ := h
  by_cases he : xs = []
  · subst he
    cases rx
    cases ry
    obtain ⟨its, r, ht, _⟩ := I.tuple hx
    obtain ⟨its2, r2, ht2, _⟩ := I.tuple hy
    cases r
    obtain ⟨⟨cls, dd, data, sl⟩, ho, hc, n, hd⟩ := id ht
    obtain ⟨⟨cls2, dd2, data2, sl2⟩, ho2, hc2, n2, hd2⟩ := id ht2
    simp only at hc hd hc2 hd2
    subst hc hd hc2 hd2
    refine concat_meets ⟨_, ho, rfl⟩ ⟨_, ho2, rfl⟩ PySem.noFill_tuple_add PySem.seq_tuple_add PySem.F.slot_tuple_add PySem.F.entry_tuple_add (PySem.F.args_tuple_add_2 _ _) (tuple_addW0 a b _ its2.toArray n n2 dd dd2 sl sl2 (by simp)) ⟨ho, ho2, ?_⟩
    exact ⟨.ref b, H, I, rfl, q b H (Same.refl _) hy⟩
  · refine op_catT pins s σ H (.ref a) (.ref b) v u Q I rx ry ⟨a, b, xs, ys, rfl, rfl, hx, hy, he, hz, ?_⟩
    by_cases hw : ys = []
    · subst hw
      first
        | exact ⟨fun _ => q a H (Same.refl _) (by rw [List.append_nil]; exact hx), fun z => absurd rfl z⟩
        | exact .inl ⟨rfl, q a H (Same.refl _) (by rw [List.append_nil]; exact hx)⟩
    · first
        | exact ⟨fun z => absurd z hw, fun _ p hp => q p _ ((Same.refl _).new hp) (SqT.of upd_same)⟩
        | exact .inr ⟨hw, fun p hp => q p _ ((Same.refl _).new hp) (SqT.of upd_same)⟩
/-! ### any([..]) of bools -/
end
/-! ### values alike, lists and tuples within -/
inductive Like (K : PySem.W.Frag) (H : Hp) : Nat → V → V → Prop where
  | flat {n : Nat} (x : V) : flatV x = true → Like K H n x x
  | same {n : Nat} (a : Addr) : Like K H n (.ref a) (.ref a)
  | lst {n : Nat} {a b : Addr} {xs ys : List V} (ha : SqL K H a xs) (hb : SqL K H b ys) (hl : xs.length = ys.length) (h : ∀ (j : Nat) (x y : V), xs[j]? = some x → ys[j]? = some y → Like K H n x y) : Like K H (n + 1) (.ref a) (.ref b)
  | tup {n : Nat} {a b : Addr} {xs ys : List V} (ha : SqT K H a xs) (hb : SqT K H b ys) (hl : xs.length = ys.length) (h : ∀ (j : Nat) (x y : V), xs[j]? = some x → ys[j]? = some y → Like K H n x y) : Like K H (n + 1) (.ref a) (.ref b)
theorem eqV_same : ∀ (x : V), flatV x = true → eqV x x = true
  | .non, _ => rfl
  | .bl b, _ => by simp [eqV]
  | .int i, _ => by simp [eqV]
  | .str z, _ => by simp [eqV]
  | .ref _, h => absurd h (by intro z; cases z)
  | .ty _, h => absurd h (by intro z; cases z)
section
variable {X : Cx} {pins : List (Addr × Obj)} {σ : St} {H : Hp} {s : Shared}
theorem like_at (I : Inv X pins σ H s) {n : Nat} {x y : V} (h : Like X.K H n x y) : ∀ {A : Around} {u v : Value}, A.units + n < cLine → RelV x u → RelV y v → SeqAt.EqAt A s u v true := by
  induction h with
  | flat x fx => intro A u v _ ru rv; have := eqAt_V (A := A) (s := s) ru rv fx fx; rwa [eqV_same x fx] at this
  | same a => intro A u v _ ru rv; cases ru; cases rv; exact SeqAt.EqAt.same _
  | @lst n a b xs ys ha hb hl h ih =>
    intro A u v hu ru rv
    cases ru
    cases rv
    by_cases hab : a = b
    · subst hab
      exact SeqAt.EqAt.same _
    · obtain ⟨its, r1, p1, _⟩ := I.list ha
      obtain ⟨its2, r2, p2, _⟩ := I.list hb
      have l1 := r1.length
      have l2 := r2.length
      refine SeqAt.EqAt.of_refs hab ?_
      have q := SeqAt.RcAt.lists (A := A) (s := s) (e := fun _ => true) p1.isList p2.isList (by simp; omega) (by omega) fun j h1 h2 => ?_
      · rw [all_true] at q
        exact q
      · obtain ⟨x, hx, rx⟩ := rel_at r1 j h1
        obtain ⟨y, hy, ry⟩ := rel_at r2 j h2
        exact ih j x y hx hy (A := A.in1) (by show A.units + 1 + n < cLine; omega) rx ry
  | @tup n a b xs ys ha hb hl h ih =>
    intro A u v hu ru rv
    cases ru
    cases rv
    by_cases hab : a = b
    · subst hab
      exact SeqAt.EqAt.same _
    · obtain ⟨its, r1, p1, _⟩ := I.tuple ha
      obtain ⟨its2, r2, p2, _⟩ := I.tuple hb
      have l1 := r1.length
      have l2 := r2.length
      refine SeqAt.EqAt.of_refs hab ?_
      have q := SeqAt.RcAt.tuples (A := A) (s := s) (e := fun _ => true) (show s.heap.IsTuple a its.toArray from p1) (show s.heap.IsTuple b its2.toArray from p2) (by omega) fun j h1 h2 => ?_
      · rw [all_true, Bool.true_and, show (its.toArray.size == its2.toArray.size) = true by simp; omega] at q
        exact q
      · obtain ⟨x, hx, rx⟩ := rel_at r1 j h1
        obtain ⟨y, hy, ry⟩ := rel_at r2 j h2
        exact ih j x y hx hy (A := A.in1) (by show A.units + 1 + n < cLine; omega) rx ry
end
section
variable {X : Cx}
/-- two lists: alike within, or of unlike lengths -/
def rEqG (K : PySem.W.Frag) (neg : Bool) : R2 := fun x y H Q => ∃ a b xs ys, x = .ref a ∧ y = .ref b ∧ SqL K H a xs ∧ SqL K H b ys ∧
  ((xs.length = ys.length ∧ (∀ (j : Nat) (u v : V), xs[j]? = some u → ys[j]? = some v → Like K H 8 u v) ∧ Q (.bl (!neg)) H) ∨ (xs.length ≠ ys.length ∧ Q (.bl neg) H))
theorem op_eqGK (K : PySem.W.Frag) (hu : X.A.units + 16 < cLine) (hK : X.K = K := by rfl) : OpR X (compareOp .Eq) (rEqG K false) := by
  subst hK
  intro pins s σ H x y v u Q I rx ry h
  obtain ⟨a, b, xs, ys, rfl, rfl, ha, hb, h⟩ := h
  cases rx
  cases ry
  obtain ⟨its, r1, p1, _⟩ := I.list ha
  obtain ⟨its2, r2, p2, _⟩ := I.list hb
  have l1 := r1.length
  have l2 := r2.length
  rcases h with ⟨hl, he, q⟩ | ⟨hl, q⟩
  · refine SeqAt.eq_listAt (e := fun _ => true) p1.isList p2.isList (by simp; omega) (by omega) (fun j h1 h2 => ?_) ?_
    · obtain ⟨x, hx, rx⟩ := rel_at r1 j h1
      obtain ⟨y, hy, ry⟩ := rel_at r2 j h2
      exact like_at I (he j x y hx hy) (A := X.A.in1) (by show X.A.units + 1 + 8 < cLine; omega) rx ry
    · rw [all_true]
      exact ⟨.bl true, H, I, rfl, q⟩
  · refine SeqAt.eq_list_lengthsAt p1.isList p2.isList (by simp; omega) (by omega) ?_
    exact ⟨.bl false, H, I, rfl, q⟩
/-! ### the tuple's rules, the written part named -/
theorem pi_tupK (K : PySem.W.Frag) {tg l : Expr} {tl : TE} (hl : PE X l tl) (hK : X.K = K := by rfl) : PI X tg l (iTup K tl) := by subst hK; exact pi_tup hl
theorem call_tupleK (K : PySem.W.Frag) (hK : X.K = K := by rfl) : CallR X (.type "tuple") (fun xs H Q => ∃ p ys, xs = [.ref p] ∧ ((SqL K H p ys ∧ ∀ l, H l = none → Q (.ref l) (upd H l (.tup ys))) ∨ (SqT K H p ys ∧ Q (.ref p) H))) := by subst hK; exact call_tuple_of
end
section
variable {K : PySem.W.Frag} {g : TG} {tt : TT} {te : TE} {D : Addr} {σ : St} {H : Hp} {Q : VK}
/-- [.. for .. in t], t a tuple -/
theorem lc_tup {a : Addr} {xs : List V} (Pv : Nat → St → Hp → Prop) (h0 : Pv 0 σ H) (hl : ∀ i σ H, i ≤ xs.length → Pv i σ H → SqT K H a xs)
    (hs : ∀ (i : Nat) (x : V) (σ : St) (H : Hp) (N : St → Hp → Prop), (∀ σ H, Pv (i + 1) σ H → N σ H) → xs[i]? = some x → Pv i σ H → g x σ H fun σ3 H3 => tt σ3 H3 fun b H4 =>
      if b = true then te σ3 H4 fun v H5 => ∃ ys, H5 D = some (.lst ys) ∧ ys.length < sizeLine ∧ N σ3 (upd H5 D (.lst (ys ++ [v]))) else N σ3 H4)
    (hd : ∀ σ H, Pv xs.length σ H → Q (.ref D) H) : lcRun (Itt K a) g tt te D σ H Q := by
  refine ⟨fun i m σ H => m = xs.length - i ∧ i ≤ xs.length ∧ Pv i σ H, ⟨xs.length, by simp, Nat.zero_le _, h0⟩, ?_⟩
  rintro i m σ' H' ⟨rfl, hi, p⟩
  have q := hl i σ' H' hi p
  by_cases hlt : i < xs.length
  · refine .inr ⟨⟨xs, xs[i], q, by simp [hlt]⟩, fun x H2 y => ?_⟩
    obtain ⟨e, y⟩ := y
    subst e
    exact hs i x σ' _ (fun σ3 H3 => ∃ m', m' < xs.length - i ∧ m' = xs.length - (i + 1) ∧ i + 1 ≤ xs.length ∧ Pv (i + 1) σ3 H3) (fun σ3 H3 z => ⟨xs.length - (i + 1), by omega, rfl, hlt, z⟩) (y xs q) p
  · have e : i = xs.length := by omega
    subst e
    exact .inl ⟨⟨xs, q, Nat.le_refl _⟩, hd σ' H' p⟩
end
end L2
/-! THE HAND LAYER, for ints, bools, texts, own classes, DICTS (int and text keys), calls, loops. Paste it whole ahead of your own text; what your proof does not reach may be deleted. -/
namespace L2
open PySem PySem.Spec PyProof.Rows

end L2

namespace L2
open PySem PySem.Spec PyProof.Rows

section
variable (P : Program) (w : World)
end

section
variable {P : Program} {w : World} {H H' : Hp} {h h' : Heap} {a : Addr} {o : HO}
end

section
variable {P : Program} {w : World} {H : Hp} {h h' : Heap} {x e : Addr} {o' : HO}
end

/-! ### kept unless tracked; of the frames at fs (the callers') the slots may change (an exception that passes writes there); of the records at ex (iterators) nothing is said -/
section
variable {fs fs' ex ex' : List Addr} {H H1 H2 : Hp} {h h1 h2 h' : Heap} {a x e : Addr} {o : HO}
end

/-! ### the heap without what is tracked -/
/-! ### OpenK's ledger, filled with every new object but one -/
end L2

namespace L2
open PySem PySem.Spec PyProof.Rows

section
variable {X : Cx} {pins : List (Addr × Obj)} {σ : List (Option V)} {H H' : Hp} {s : Shared} {h' : Heap}

end

/-! ### the judgements -/
end L2

namespace L2
open PySem PySem.Spec PyProof.Rows
section
variable {X : Cx}

/-! ### names and constants -/
/-! ### arithmetic -/
variable {a b : Expr} {ta tb : TE} {pos : Pos}
/-! ### comparisons -/
/-! ### and, or, not -/
variable {tA tB' : TT} {rest : List Expr}
end
end L2

namespace L2
open PySem PySem.Spec PyProof.Rows

/-! ### a list, a tuple that is read: tracked, frozen, or an object of the module -/
section
variable {X : Cx} {pins : List (Addr × Obj)} {σ : St} {H : Hp} {s : Shared} {a : Addr} {xs ys : List V}
end

/-! ### another wish about exceptions -/
section
variable {X : Cx} {pins : List (Addr × Obj)} {σ : St} {H : Hp} {s : Shared} {E : Value → Shared → Prop}
end

/-! ### blocks and small statements -/
section
variable {X : Cx} {st : Stmt} {rest : List Stmt} {t u : TS} {e : Expr} {te : TE} {pos : Pos}
end

/-! ### targets -/
section
variable {X : Cx} {pos : Pos}
end

/-! ### while -/
section
variable {X : Cx} {pos : Pos}
end

/-! ### what a loop or a comprehension walks -/
end L2

namespace L2
open PySem PySem.Spec PyProof.Rows
section
variable {X : Cx} {tg : Expr}
/-! ### for -/
end

/-! ### the forms one uses -/
end L2

namespace L2
open PySem PySem.Spec PyProof.Rows

section
variable {X : Cx} {a b c : Expr} {ta tb tc : TE} {pos : Pos}

/-! ### ints -/
/-! ### bools among ints: n += (a < b) -/
end

/-! ### comparisons -/
section
variable {X : Cx} {a b c : Expr} {ta tb tc : TE} {pos : Pos}
/-! ### truth -/
/-! ### strs and bytes -/
/-! ### scalar builtins, by CallR -/
end
end L2

namespace L2
open PySem PySem.Spec PyProof.Rows

/-! ### an instance, its attributes a map -/
section
variable {prog : Program} {w : World} {A : Around} {E : Value → Shared → Prop} {s : Shared} {K : PySem.W.Frag} {x dx C f : Addr} {mA : Str → Option Value} {name : Str} {v : Value}

end

/-! ### the attributes as a list of pairs -/
section
variable {P : Program} {w : World} {H H' : Hp} {h h' : Heap} {a C dx : Addr} {fs fs' : List (Str × V)}
end

/-! ### what of the text a class must have -/
section
variable {X : Cx} {pins : List (Addr × Obj)} {σ : St} {H : Hp} {s : Shared} {a C dx : Addr} {fs : List (Str × V)} {f : Str} {v : V} {A : Around} {E : Value → Shared → Prop}

end

/-! ### readings and rules -/
section
variable {X : Cx} {o e value : Expr} {f : Str} {pos pos' tpos : Pos} {ta tv : TE}
end

/-! ### isinstance -/
section
variable {X : Cx} {pins : List (Addr × Obj)} {σ : St} {H : Hp} {s : Shared} {A : Around} {E : Value → Shared → Prop} {Q : Value → Shared → Prop} {c : Value} {b : Bool}
end
end L2

namespace L2
open PySem PySem.Spec PyProof.Rows

/-! ### room -/
/-! ### argument lists and displays -/
section
variable {X : Cx} {e : Expr} {es : List Expr} {te : TE} {t : TA} {pos : Pos}
end

/-! ### what a def promises -/
section
variable {X : Cx} {pins : List (Addr × Obj)} {σ : St} {H : Hp} {s s' : Shared}
end

/-! ### calls -/
section
variable {X : Cx} {CX : CXT} {k : Nat} {f C : Addr} {fd : FuncData} {ps : List Str} {sp : Sp} {dvs : List V} {ds : List Value} {E : XK} {x m : Str} {p pos apos : Pos} {e o : Expr} {es : List Expr} {ta : TE} {t : TA}

end

/-! ### keywords -/
section
variable {X : Cx} {CX : CXT} {k : Nat} {f C : Addr} {fd : FuncData} {ps ks : List Str} {sp : Sp} {E : XK} {x m : Str} {p pos apos kpos : Pos} {e o : Expr} {es : List Expr} {kws : List Keyword} {te ta : TE} {t tk : TA} {nm : Option Str}
variable {g : List Value → List Value → List Value} {gV : List V → List V → List V}
end

/-! ### a def's body keeps its promise -/
end L2

namespace L2
open PySem PySem.Spec PyProof.Rows
section
variable {X : Cx} {x : Str} {p pos : Pos} {e : Expr} {es : List Expr} {t : TA} {id T : String} {r : List V → Hp → VK → Prop}

end
end L2

namespace L2
open PySem PySem.Spec PyProof.Rows

/-! ### lists of pairs as tables -/
section
variable {κ : Type} [DecidableEq κ]
def valV (kvs : List (κ × V)) (k : κ) : Option V := (kvs.find? fun kv => decide (kv.1 = k)).map (·.2)
/-- in its place, or at the end -/
def putK (kvs : List (κ × V)) (k : κ) (v : V) : List (κ × V) :=
  if (kvs.any fun kv => decide (kv.1 = k)) = true then kvs.map (fun kv => if kv.1 = k then (kv.1, v) else kv) else kvs ++ [(k, v)]
def dropK (kvs : List (κ × V)) (k : κ) : List (κ × V) := kvs.filter fun kv => decide (kv.1 ≠ k)

theorem valV_pos {p : κ × V} {r : List (κ × V)} {k : κ} (e : p.1 = k) : valV (p :: r) k = some p.2 := by simp [valV, List.find?_cons, e]
theorem valV_neg {p : κ × V} {r : List (κ × V)} {k : κ} (e : ¬ p.1 = k) : valV (p :: r) k = valV r k := by simp [valV, List.find?_cons, e]
theorem valV_any (k : κ) : ∀ kvs : List (κ × V), (kvs.any fun kv => decide (kv.1 = k)) = (valV kvs k).isSome
  | [] => rfl
  | p :: r => by
    rw [List.any_cons]
    by_cases e : p.1 = k
    · simp only [valV_pos e, decide_eq_true e, Bool.true_or, Option.isSome_some]
    · rw [valV_neg e, decide_eq_false e, Bool.false_or]; exact valV_any k r
theorem RelO.isSome_eq {o : Option V} {u : Option Value} (r : RelO o u) : o.isSome = u.isSome := by
  cases o with
  | none => cases u with
    | none => rfl
    | some _ => exact (show False from r).elim
  | some _ => cases u with
    | none => exact (show False from r).elim
    | some _ => rfl
theorem RelO.getD {o : Option V} {u : Option Value} {d : V} {d' : Value} (r : RelO o u) (rd : RelV d d') : RelV (o.getD d) (u.getD d') := by
  cases o with
  | none => cases u with
    | none => exact rd
    | some _ => exact (show False from r).elim
  | some _ => cases u with
    | none => exact (show False from r).elim
    | some _ => exact r

/-- raw tables of the same keys -/
theorem KV.val {kvs : List (κ × V)} {vs : List (κ × Value)} (r : KV kvs vs) (k : κ) : RelO (valV kvs k) (valueAt vs k) := by
  unfold KV at r
  induction r with
  | nil => exact True.intro
  | @cons p q ps qs h t ih =>
    obtain ⟨h1, h2⟩ := h
    by_cases e : p.1 = k
    · have e' : q.1 = k := h1.symm.trans e
      have b : valueAt (q :: qs) k = some q.2 := by simp [valueAt, List.find?_cons, e']
      rw [valV_pos e, b]; exact h2
    · have e' : ¬ q.1 = k := fun z => e (h1.trans z)
      have b : valueAt (q :: qs) k = valueAt qs k := by simp [valueAt, List.find?_cons, e']
      rw [valV_neg e, b]; exact ih
theorem KV.any {kvs : List (κ × V)} {vs : List (κ × Value)} (r : KV kvs vs) (k : κ) : (kvs.any fun kv => decide (kv.1 = k)) = vs.any fun kv => decide (kv.1 = k) := by
  unfold KV at r
  induction r with
  | nil => rfl
  | cons h t ih => rw [List.any_cons, List.any_cons, ih, h.1]
theorem KV.repl {kvs : List (κ × V)} {vs : List (κ × Value)} (r : KV kvs vs) (k : κ) {y : V} {u : Value} (ry : RelV y u) :
    KV (kvs.map fun kv => if kv.1 = k then (kv.1, y) else kv) (vs.map fun kv => if kv.1 = k then (kv.1, u) else kv) := by
  unfold KV at r ⊢
  induction r with
  | nil => exact .nil
  | @cons p q ps qs h t ih =>
    rw [List.map_cons, List.map_cons]
    refine .cons ?_ ih
    obtain ⟨h1, h2⟩ := h
    by_cases e : p.1 = k
    · rw [if_pos e, if_pos (h1.symm.trans e)]; exact ⟨h1, ry⟩
    · rw [if_neg e, if_neg (fun z => e (h1.trans z))]; exact ⟨h1, h2⟩
theorem KV.put {kvs : List (κ × V)} {vs : List (κ × Value)} (r : KV kvs vs) (k : κ) {y : V} {u : Value} (ry : RelV y u) : KV (putK kvs k y) (stored vs k u) := by
  unfold putK stored
  rw [r.any k]
  by_cases e : (vs.any fun kv => decide (kv.1 = k)) = true
  · rw [if_pos e, if_pos e]; exact r.repl k ry
  · rw [if_neg e, if_neg e]; exact Paired.snoc r ⟨rfl, ry⟩
theorem KV.drop {kvs : List (κ × V)} {vs : List (κ × Value)} (r : KV kvs vs) (k : κ) : KV (dropK kvs k) (without vs k) := by
  unfold KV at r ⊢
  unfold dropK without
  induction r with
  | nil => exact .nil
  | @cons p q ps qs h t ih =>
    obtain ⟨h1, h2⟩ := h
    rw [List.filter_cons, List.filter_cons]
    by_cases e : p.1 = k
    · have a : ¬ decide (p.1 ≠ k) = true := by simp [e]
      have b : ¬ decide (q.1 ≠ k) = true := by simp [h1.symm.trans e]
      rw [if_neg a, if_neg b]; exact ih
    · have e' : ¬ q.1 = k := fun z => e (h1.trans z)
      have a : decide (p.1 ≠ k) = true := by simp [e]
      have b : decide (q.1 ≠ k) = true := by simp [e']
      rw [if_pos a, if_pos b]; exact .cons ⟨h1, h2⟩ ih
theorem KV.keys {kvs : List (κ × V)} {vs : List (κ × Value)} (r : KV kvs vs) : kvs.map (·.1) = vs.map (·.1) := by
  unfold KV at r
  induction r with
  | nil => rfl
  | cons h t ih => rw [List.map_cons, List.map_cons, ih, h.1]
theorem KV.length {kvs : List (κ × V)} {vs : List (κ × Value)} (r : KV kvs vs) : kvs.length = vs.length := Paired.length r
end


/-! ### a tracked dict, its keys ints and texts or tuples of these -/
/-- raw entries of a dict with tuple keys -/
abbrev KT (H : Hp) : List (List Key × V) → List (List Key × Addr × Value) → Prop := Paired fun p q => p.1 = q.1 ∧ H q.2.1 = some (.tup (p.1.map kV)) ∧ RelV p.2 q.2.2
theorem KT.val {H : Hp} {kvs : List (List Key × V)} {xs : List (List Key × Addr × Value)} (r : KT H kvs xs) (k : List Key) : RelO (valV kvs k) ((atKey xs k).map (·.2)) := by
  induction r with
  | nil => exact True.intro
  | @cons p q ps qs h t ih =>
    obtain ⟨h1, _, h2⟩ := h
    by_cases e : p.1 = k
    · have e' : q.1 = k := h1.symm.trans e
      have b : atKey (q :: qs) k = some q.2 := by simp [atKey, List.find?_cons, e']
      rw [valV_pos e, b]; exact h2
    · have e' : ¬ q.1 = k := fun z => e (h1.trans z)
      have b : atKey (q :: qs) k = atKey qs k := by simp [atKey, List.find?_cons, e']
      rw [valV_neg e, b]; exact ih
theorem KT.repl {H : Hp} {kvs : List (List Key × V)} {xs : List (List Key × Addr × Value)} (r : KT H kvs xs) (k : List Key) {y : V} {u : Value} (ry : RelV y u) :
    KT H (kvs.map fun kv => if kv.1 = k then (kv.1, y) else kv) (xs.map (putAt k u)) := by
  induction r with
  | nil => exact .nil
  | @cons p q ps qs h t ih =>
    rw [List.map_cons, List.map_cons]
    refine .cons ?_ ih
    obtain ⟨h1, h2, h3⟩ := h
    unfold putAt
    by_cases e : p.1 = k
    · rw [if_pos e, if_pos (h1.symm.trans e)]; exact ⟨h1, h2, ry⟩
    · rw [if_neg e, if_neg (fun z => e (h1.trans z))]; exact ⟨h1, h2, h3⟩
theorem KT.put {H : Hp} {kvs : List (List Key × V)} {xs : List (List Key × Addr × Value)} (r : KT H kvs xs) (k : List Key) {b : Addr} {y : V} {u : Value} (hb : H b = some (.tup (k.map kV))) (ry : RelV y u) :
    KT H (putK kvs k y) (storedH xs k b u) := by
  have e : (kvs.any fun kv => decide (kv.1 = k)) = (atKey xs k).isSome := by
    rw [valV_any, (r.val k).isSome_eq, Option.isSome_map]
  unfold putK storedH
  rw [e]
  by_cases q : (atKey xs k).isSome = true
  · rw [if_pos q, if_pos q]; exact r.repl k ry
  · rw [if_neg q, if_neg q]; exact Paired.snoc r ⟨rfl, hb, ry⟩
theorem KT.keeps {H H' : Hp} {kvs : List (List Key × V)} {xs : List (List Key × Addr × Value)} (r : KT H kvs xs) (ht : ∀ b ys, H b = some (.tup ys) → H' b = some (.tup ys)) : KT H' kvs xs :=
  Paired.mapP r fun _ _ z => ⟨z.1, ht _ _ z.2.1, z.2.2⟩

section
variable {P : Program} {w : World} {H : Hp} {h : Heap} {a : Addr}
end

/-- what the dict at a holds at the key y -/
def DGet (H : Hp) (a : Addr) (y : V) (r : Option V) : Prop :=
  (∃ kvs k, Rd H a (.dK kvs) ∧ y = kV k ∧ r = valV kvs k) ∨ ∃ kvs k b, Rd H a (.dT kvs) ∧ y = .ref b ∧ H b = some (.tup (k.map kV)) ∧ r = valV kvs k
/-- the heap behind a[y] = v -/
def DPut (H : Hp) (a : Addr) (y v : V) (H' : Hp) : Prop :=
  (∃ kvs k, H a = some (.dK kvs) ∧ y = kV k ∧ kvs.length < sizeLine ∧ H' = upd H a (.dK (putK kvs k v))) ∨
  ∃ kvs k b, H a = some (.dT kvs) ∧ y = .ref b ∧ H b = some (.tup (k.map kV)) ∧ kvs.length < sizeLine ∧ H' = upd H a (.dT (putK kvs k v))
theorem DGet.k {H : Hp} {a : Addr} {kvs : List (Key × V)} {k : Key} (e : H a = some (.dK kvs)) : DGet H a (kV k) (valV kvs k) := .inl ⟨kvs, k, .inl e, rfl, rfl⟩
theorem DGet.t {H : Hp} {a b : Addr} {kvs : List (List Key × V)} {k : List Key} (e : H a = some (.dT kvs)) (eb : H b = some (.tup (k.map kV))) : DGet H a (.ref b) (valV kvs k) := .inr ⟨kvs, k, b, .inl e, rfl, eb, rfl⟩
theorem DPut.k {H : Hp} {a : Addr} {kvs : List (Key × V)} {k : Key} {v : V} (e : H a = some (.dK kvs)) (hl : kvs.length < sizeLine) : DPut H a (kV k) v (upd H a (.dK (putK kvs k v))) := .inl ⟨kvs, k, e, rfl, hl, rfl⟩
theorem DPut.t {H : Hp} {a b : Addr} {kvs : List (List Key × V)} {k : List Key} {v : V} (e : H a = some (.dT kvs)) (eb : H b = some (.tup (k.map kV))) (hl : kvs.length < sizeLine) :
    DPut H a (.ref b) v (upd H a (.dT (putK kvs k v))) := .inr ⟨kvs, k, b, e, rfl, eb, hl, rfl⟩


section
variable {X : Cx} {pins : List (Addr × Obj)} {σ : St} {H : Hp} {s : Shared} {a : Addr} {y v : V} {u r : Value} {o : Option V} {A : Around} {E : Value → Shared → Prop}

theorem Inv.big (I : Inv X pins σ H s) : sysModules < s.heap.objs.size := by
  have h : mainGlobals < s.heap.objs.size := (I.mod.glob.keeps I.bk).lt
  exact Nat.lt_trans (by decide) h

/-- a dict's object is replaced -/
theorem d_write {h' : Heap} {t' : Nat} {ob : HO} (I : Inv X pins σ H s) (mu : Mut (H a)) (hs : Heap.SameBut a s.heap h') (he : ∃ q, h'.get? a = some q) (new : ObjOk X.prog X.w (upd H a ob) h' a ob) :
    Inv X pins σ (upd H a ob) { s with heap := h', toks := t' } :=
  I.write (x := a) (e := a) mu (.inl rfl) (fun b q hb z => (hs.2 b hb).trans z) he new
end

section
variable {X : Cx} {pins : List (Addr × Obj)} {σ : St} {H : Hp} {s : Shared} {a : Addr} {kvs : List (Key × V)} {k : Key} {u : Value} {A : Around} {E : Value → Shared → Prop}
end


/-! ### readings and rules -/
/-- the element of a subscription, not a slice -/
def NoSl (i : Expr) : Prop := ∀ ov iv, subscripted i false ov iv = operate [ov, iv] (getItem ov iv)
theorem subD_of {prog : Program} {w : World} {A : Around} {E : Value → Shared → Prop} {s : Shared} {env : Env} {value slice : Expr} {pos : Pos} {T id : String} {Q : Value → Shared → Prop}
    (hl : typeLookup (.type T) "__getitem__" = pure (some (.builtin id))) (hs : NoSl slice)
    (h : wpAny (model prog w) A (eval value env) (fun o s₁ => wpAny (model prog w) A (eval slice env) (fun i s₂ => s₂.TypeIs o T ∧ wpAny (model prog w) A (getItem o i) Q E s₂) E s₁) E s) :
    wpAny (model prog w) A (eval (.Subscript value slice pos) env) Q E s := by
  refine Subscript_ (wpAny_mono h (fun o s₁ h₁ => wpAny_mono h₁ (fun i s₂ h₂ => ?_) fun _ _ x => x) fun _ _ x => x)
  obtain ⟨hT, h₂⟩ := h₂
  unfold subscriptTail
  refine wpAny_bind ?_
  rw [getitemInPython_of_ne hT.not_modules]
  refine wpAny_bind (wpAny_specialOf hT hl ?_)
  have fin : wpAny (model prog w) A (subscripted slice false o i) (fun r s₃ => wpAny (model prog w) A (letTemporaryGo value o r >>= fun _ => pure r) Q E s₃) E s₂ := by
    rw [hs o i]
    exact wpAny_operating (wpAny_mono h₂ (fun r s₃ h₃ => wpAny_bind (wpAny_letTemporaryGo (wpAny_pure h₃))) fun _ _ x => x)
  first
    | exact wpAny_pure (wpAny_bind fin)
    | exact wpAny_bind (wpAny_pure (wpAny_bind fin))
    | exact wpAny_bind fin

section
variable {X : Cx} {o i e value : Expr} {pos pos' tpos : Pos} {td ty tv : TE}
end


/-! ### displays -/
section
variable {X : Cx} {pos : Pos}
end

/-! ### methods -/
/-- a method call o.m(e) of a built-in, with one argument: what must be seen of the text -/
structure M1 (X : Cx) (o : Expr) (m : Str) (apos : Pos) (e : Expr) (cpos : Pos) : Prop where
  base : attributeBase o m X.env (eval o X.env) = eval o X.env
  few : ((backTo cpos (starEach [e] X.env)).all (fun x => !x.1) && (backToKw cpos (keywordEach [] X.env)).all (fun x => x.1.isSome)
    && decide (([e] : List Expr).length + ([] : List Keyword).length + (if ([] : List Keyword).isEmpty then 0 else 1) < 30)) = true
  line : (apos.endLine == cpos.line) = true
  trees : backTo cpos (starEach [e] X.env) = [(false, eval e X.env)]
structure M2 (X : Cx) (o : Expr) (m : Str) (apos : Pos) (e f : Expr) (cpos : Pos) : Prop where
  base : attributeBase o m X.env (eval o X.env) = eval o X.env
  few : ((backTo cpos (starEach [e, f] X.env)).all (fun x => !x.1) && (backToKw cpos (keywordEach [] X.env)).all (fun x => x.1.isSome)
    && decide (([e, f] : List Expr).length + ([] : List Keyword).length + (if ([] : List Keyword).isEmpty then 0 else 1) < 30)) = true
  line : (apos.endLine == cpos.line) = true
  trees : backTo cpos (starEach [e, f] X.env) = [(false, eval e X.env), (false, eval f X.env)]

section
variable {X : Cx} {pins : List (Addr × Obj)} {σ : St} {H : Hp} {s : Shared} {a : Addr} {y d : V} {u r : Value} {o : Option V} {A : Around} {E : Value → Shared → Prop}
end

section
variable {X : Cx} {o e f : Expr} {apos cpos : Pos} {td ty tx : TE}
end

/-! ### dict(d): a copy -/
section
variable {X : Cx} {pins : List (Addr × Obj)} {σ : St} {H : Hp} {s : Shared} {a : Addr} {kvs : List (Key × V)} {A : Around} {E : Value → Shared → Prop}
end


section
variable {X : Cx} {pins : List (Addr × Obj)} {σ : St} {H : Hp} {s : Shared} {a : Addr} {y : V} {u : Value} {A : Around} {E : Value → Shared → Prop}
end
end L2

namespace Att
open PySem PySem.W PySem.Calls PyProof.Rows

/-! ### the script -/
/-! ### the attachment: holds_open's last premise (the goal 'hc' behind k_head) from a wpAny of the law's body -/
/-! ### rules over ANY heap (no ledger) from facts about the written part K: the library's own take a ledger (News) for what they write -/
section
variable {prog : Program} {w : World} {A : Around} {E : Value → Shared → Prop} {s : Shared} {K : Frag}

/-! the whole heap as the ledger: makes every rule that writes through a ledger a rule over any heap -/
end
end Att

namespace L2
open PySem PySem.Spec PyProof.Rows

end L2

namespace L2
open PySem PySem.Spec PyProof.Rows

end L2


/-! SHORT WORDS over the layer: a def of the text, its body, what a loop and a test want. -/
namespace L2
open PySem PySem.Spec PyProof.Rows

/-! ### the text by places -/
/-! ### no exception leaves a def -/
/-! ### a def (or method) of the text as it stands behind the top -/
section
variable {P : Program} {w : World} {K : PySem.W.Frag} {mg : Str → Option Value} {base : Heap}
end
/-! ### expressions in short: the name that stands in the i-th slot -/
section
variable {X : Cx}
end

/-! ### tests -/
/-! ### heaps -/
/-! ### a dict's pairs: keys that differ -/
section
variable {κ : Type} [DecidableEq κ]
theorem nd_snoc : ∀ {l : List κ} {k : κ}, l.Nodup → ¬ k ∈ l → (l ++ [k]).Nodup
  | [], k, _, _ => by simp
  | a :: r, k, h, hk => by
    obtain ⟨h1, h2⟩ := List.nodup_cons.mp h
    show (a :: (r ++ [k])).Nodup
    refine List.nodup_cons.mpr ⟨fun m => ?_, nd_snoc h2 fun m => hk (List.mem_cons.mpr (Or.inr m))⟩
    rcases List.mem_append.mp m with q | q
    · exact h1 q
    · exact hk (List.mem_cons.mpr (Or.inl (List.mem_singleton.mp q).symm))
end
end L2
namespace L2
open PySem PySem.Spec PyProof.Rows
/-! ### a tuple times an int, two or more -/
theorem fold_rep (items : Array Value) (m : Nat) : List.foldl (fun x1 x2 => x1 ++ x2) #[] (List.replicate m items) = (List.replicate m items.toList).flatten.toArray := by
  have := foldl_rep items.toList m []
  rw [List.nil_append] at this
  exact this
theorem tuple_mulW (l : Addr) (items : Array Value) (n : Nat) (dd : Option Addr) (sl : Array (Option Value)) (x : Int) (u : Tok) (k2 : 2 ≤ x) (kb : x < 1000) (hne : items.isEmpty = false) (hs : items.size ≤ 1000) :
    Meets (Builtin.«tuple.__mul__» ⟨[.ref l, .int x u], []⟩) (fun _ R s => s.heap.get? l = some { cls := .type "tuple", dict := dd, data := .seq items n, slots := sl } ∧ R (.ok (.ret (Value.ref s.heap.objs.size))) { s with heap := s.heap.push { cls := Value.type "tuple", data := Data.seq (List.foldl (fun x1 x2 => x1 ++ x2) #[] (List.replicate x.toNat items)) }, toks := s.toks }) :=
  .of_wp fun prog w A R s h => by
    obtain ⟨hp, g, d, tk, os⟩ := s; obtain ⟨hl, h⟩ := h
    have f1 := AutoSeq1.idx_int
    have f2 := AutoSeq1.sub_tuple_tuple
    have hm : (items.size : Int) * x ≤ 1000000 := by
      have h1 : (items.size : Int) * x ≤ 1000 * x := Int.mul_le_mul_of_nonneg_right (by omega) (by omega)
      omega
    have hsl : (1000000 : Int) ≤ (sizeLine : Int) := by decide
    wp_walk using wpAny_loadPart' hl
    refine wpAny_ite_false (decide_eq_false (by
      have a1 : ¬ x < -2 ^ 63 := by omega
      have a2 : ¬ x ≥ 2 ^ 63 := by omega
      rw [decide_eq_false a1, decide_eq_false a2]; decide)) ?_
    wp_walk using wpAny_loadPart' hl
    refine wpAny_ite_false (decide_eq_false (by
      have a1 : (x == 1) = false := by rw [beq_eq_false_iff_ne]; omega
      rw [hne, a1]; decide)) ?_
    wp_walk using wpAny_loadPart' hl
    refine wpAny_ite_false (decide_eq_false (by
      have a1 : ¬ x ≤ 0 := by omega
      rw [decide_eq_false a1, hne]; decide)) ?_
    wp_walk using wpAny_loadPart' hl
    refine wpAny_ite_false (decide_eq_false (by omega)) ?_
    wp_walk using wpAny_loadPart' hl
    refine wpAny_ite_false (decide_eq_false (by
      unfold Builtin.Tuple.tupleTooMany
      have a1 : ¬ (items.size : Int) * x > (sizeLine : Int) := by omega
      rw [decide_eq_false a1]; decide)) ?_
    wp_walk using wpAny_loadPart' hl
    refine wpAny_ite_false (decide_eq_false (by rw [fold_rep, List.size_toArray, len_rep, Array.length_toList]; have : x.toNat * items.size ≤ 1000000 := by
                                                  have h1 : ((x.toNat * items.size : Nat) : Int) = (items.size : Int) * x := by rw [Int.natCast_mul, Int.toNat_of_nonneg (by omega), Int.mul_comm]
                                                  omega
                                                omega)) ?_
    wp_walk
    exact ⟨_, rfl, h⟩
theorem noFill_tuple_mul : fillsNumberSlot (.type "tuple") "mul" = pure false :=
  PySem.fillsNumberSlot_seq (id := "tuple.__mul__") (r := some (.builtin "tuple.__rmul__")) PySem.F.slot_tuple_mul.lookup (by decide +kernel) PySem.F.slot_tuple_rmul.lookup (by decide +kernel)
theorem repeat_tuple : seqRepeat? (.type "tuple") = pure (some (.builtin "tuple.__mul__")) := by
  unfold seqRepeat?
  rw [PySem.seqSlot_of (T := "tuple") (name := "__mul__") (id := "tuple.__mul__") PySem.F.slot_tuple_mul.lookup (by decide +kernel), PySem.seqSlot_of (T := "tuple") (name := "__rmul__") (id := "tuple.__rmul__") PySem.F.slot_tuple_rmul.lookup (by decide +kernel)]
  rfl
theorem int_rmul_tuple (a : Int) (t : Tok) (l : Addr) (items : Array Value) (n : Nat) (dd : Option Addr) (sl : Array (Option Value)) :
    Meets (Builtin.«int.__rmul__» ⟨[.int a t, .ref l], []⟩) (fun _ R s => s.heap.get? l = some { cls := .type "tuple", dict := dd, data := .seq items n, slots := sl } ∧ R (.ok (.ret Value.notImplemented)) s) :=
  .of_wp fun prog w A R s h => by obtain ⟨hp, g, d, tk, os⟩ := s; obtain ⟨hl, h⟩ := h; wp_walk; exact ⟨_, rfl, h⟩
def rRepT (K : PySem.W.Frag) : R2 := fun x y H Q => ∃ l k xs, x = .ref l ∧ y = .int k ∧ SqT K H l xs ∧ xs ≠ [] ∧ xs.length ≤ 1000 ∧ 2 ≤ k ∧ k < 1000 ∧
  ∀ p, H p = none → Q (.ref p) (upd H p (.tup (List.replicate k.toNat xs).flatten))
section
variable {X : Cx}
theorem op_repT (K : PySem.W.Frag) (hK : X.K = K := by rfl) : OpR X (binaryOp .Mult) (rRepT K) := by
  subst hK
  intro pins s σ H x y v u Q I rx ry h
  obtain ⟨l, k, xs, rfl, rfl, hH, hne, hl, k2, kb, q⟩ := h
  cases rx
  obtain ⟨t, rfl⟩ := ry
  obtain ⟨its, r, ht, hz⟩ := I.tuple hH
  have elen := r.length
  obtain ⟨⟨cls, dd, data, sl⟩, ho, hc, n, hd⟩ := id ht
  simp only at hc hd
  subst hc hd
  have hem : its.toArray.isEmpty = false := by
    cases its with
    | nil => cases r; exact absurd rfl hne
    | cons a b => rfl
  refine wpAny_binaryOp_repeat_ref (T := "tuple") (U := "int") (by decide) ⟨_, ho, rfl⟩ (fun s' => typeIs_int s' k t) noFill_tuple_mul PySem.F.fills_int_mul PySem.F.slot_int_rmul repeat_tuple PySem.F.slot_int_index.lookup
    (call_meets PySem.F.slot_int_rmul (typeIs_int s k t) PySem.F.entry_int_rmul (PySem.F.args_int_rmul_2 _ _) (int_rmul_tuple k t l its.toArray n dd sl)
      ⟨ho, rfl, ⟨_, ho, rfl⟩, call_meets PySem.F.slot_tuple_mul ⟨_, ho, rfl⟩ PySem.F.entry_tuple_mul (PySem.F.args_tuple_mul_2 _ _) (tuple_mulW l its.toArray n dd sl k t k2 kb hem (by rw [List.size_toArray]; omega)) ⟨ho, ?_⟩⟩)
  rw [fold_rep]
  have hsl : (1000000 : Nat) ≤ sizeLine := by decide
  refine ⟨.ref s.heap.objs.size, _, I.laid (t' := s.toks) (o := .tup (List.replicate k.toNat xs).flatten) (fun b ob q => Heap.get?_push_of_some _ q) (Nat.le_refl _) ?_, rfl, q _ (I.hok.fresh (Nat.le_refl _))⟩
  refine ⟨?_, _, (r.rep k.toNat), IsTup.new _ _⟩
  rw [len_rep]
  have : k.toNat * xs.length ≤ 1000 * 1000 := Nat.mul_le_mul (by omega) hl
  omega
end
/-! ### nested written tuples: readings in a box, so that nothing is unfolded on the way (unfolded, a written tuple's reading grows with its depth) -/
structure PEx (X : Cx) (e : Expr) (t : TE) : Prop where
  out : PE X e t
structure PAx (X : Cx) (es : List Expr) (t : TA) : Prop where
  out : PA X es t
section
variable {X : Cx} {te : TE} {t : TA} {es es1 : List Expr}
end
end L2
namespace L2
open PySem PySem.Spec PyProof.Rows
/-! ### enumerate(t, start=1), t a tuple -/
section
variable {prog : Program} {w : World} {A : Around} {E : Value → Shared → Prop} {s : Shared}
theorem nextOf_tup_end {it t : Addr} {i : Nat} {items : Array Value} {Q : Value → Shared → Prop} (hh : A.handled = none) (hit : s.heap.IsTupleIter it t i) (ht : s.heap.IsTuple t items) (hx : items[i]? = none)
    (hE : ∀ h' e, Heap.ExtBut it s.heap h' → (∃ o, h'.get? e = some o ∧ o.cls = .type "StopIteration") → E (.ref e) { s with heap := h' }) : wpAny (model prog w) A (Builtin.SmallTypes.nextOf (.ref it)) Q E s := by
  obtain ⟨o, ho, hc, hd⟩ := id hit
  obtain ⟨u, hu, _, m, du⟩ := ht
  unfold Builtin.SmallTypes.nextOf
  refine wpAny_bind (wpAny_callSpecial?_slot (name := Str.ofString "__next__") hit.typeIs F.slot_tuple_iterator_next (wpAny_call_entry F.slot_tuple_iterator_next hit.typeIs F.entry_tuple_iterator_next ?_ (F.args_tuple_iterator_next_1 _)))
  refine (show wpAny _ _ (field (.ref it) 0 >>= _) _ _ s from wpAny_bind (wpAny_field ho hd (x := .ref t) rfl ?_))
  refine (show wpAny _ _ (if (Value.ref t == Value.none) = true then _ else _) _ _ s from ?_)
  rw [if_neg (by exact Bool.false_ne_true)]
  refine (show wpAny _ _ (field (.ref it) 1 >>= _) _ _ s from wpAny_bind (wpAny_field ho hd (x := .int i 0) rfl ?_))
  refine (show wpAny _ _ (seqItems? (.ref t) >>= _) _ _ s from wpAny_bind (wpAny_seqItems hu du ?_))
  simp only [hx, Int.toNat_natCast]
  refine wpAny_bind (wpAny_rule (wpAny_bind (wpAny_setField ho hd (by simp) ?_)))
  refine (show wpAny _ _ (newExc (.type "StopIteration") [] >>= _) _ _ _ from wpAny_bind ?_)
  simp only [newExc, newTuple]
  refine wpAny_bind (wpAny_newObj_type ?_ (by size_fits))
  refine wpAny_bind (m := firstArgMember _ _) (wpAny_of_eq (a := Value.none) (by first | rfl | (simp only [firstArgMember]; rfl)) (wpAny_newObj_type ?_ (by size_fits)))
  simp only [raiseNew]
  refine wpAny_bind (wpAny_handled ?_)
  first | rw [show A.in1.handled = none from hh] | rw [hh]
  exact wpAny_bind (wpAny_pure (wpAny_throw (hE _ _ (((Heap.SameBut.update ..).extBut.push _).push _) ⟨_, Heap.get?_push_size _ rfl, rfl⟩)))
end
theorem draws_tup1 {prog : Program} {w : World} {A : Around} (hh : A.handled = none) (it l : Addr) (hne : l ≠ it) (items : Array Value) :
    Draws prog w A it [it, l] (items.size + 1) (fun i v => 1 ≤ i ∧ items[i - 1]? = some v) (fun i h => 1 ≤ i ∧ h.IsTupleIter it l (i - 1) ∧ h.IsTuple l items) where
  live := fun _ _ st => let ⟨o, ho, _⟩ := st.2.1; ⟨o, ho⟩
  frame := fun _ _ _ st hk => ⟨st.1, st.2.1.at fun o e => hk it (by simp) o e, st.2.2.at fun o e => hk l (by simp) o e⟩
  item := fun i s Q E hi st hQ => by
    obtain ⟨h1, h2, h3⟩ := st
    have hlt : i - 1 < items.size := by omega
    refine nextOf_tup h2 h3 (x := items[i - 1]) (by simp [hlt]) fun h' hit' hs' => ?_
    rw [show i - 1 + 1 = i from by omega] at hit'
    exact hQ _ h' s.toks ⟨h1, by simp [hlt]⟩ ⟨by omega, by rw [show i + 1 - 1 = i from rfl]; exact hit', h3.extBut hs'.extBut hne⟩ hs'
  done := fun s Q E st hE => nextOf_tup_end hh st.2.1 st.2.2 (by simp) hE
/-- a class called with one argument and one by its name -/
theorem callKw_new {prog : Program} {w : World} {A : Around} {E : Value → Shared → Prop} {s : Shared} {T newId : String} {Bn : Builtin} {args : List Value} {kw : List (Str × Value)} {S : PySem.Spec} {Q : Value → Shared → Prop} (ft : TypeCalled T newId "object.__init__")
    (hne : (some newId != some "object.__new__") = true) (hct : checkTypeCall T ⟨args, kw⟩ = pure ()) (hcn : checkBuiltinCall newId ⟨.type T :: args, kw⟩ = pure ())
    (hok : ∀ obj, argsOk "object.__init__" ⟨obj :: args, kw⟩) (entryN : entryFor table newId = some Bn) (g : Meets (Bn ⟨.type T :: args, kw⟩) S)
    (gi : ∀ obj, Meets (Builtin.«object.__init__» ⟨obj :: args, kw⟩) (fun _ R s => s.TypeIs obj T ∧ R (.ok (.ret .none)) s))
    (h : S A.in1 (wants (fun obj s₁ => s₁.TypeIs obj T ∧ Q obj s₁) E) s) : wpAny (model prog w) A (call (.type T) args kw) Q E s := by
  obtain ⟨c, tl, hmro⟩ := ft.mro
  have hmade := ft.made
  have hsub := ft.sub
  refine wpAny_call (codeAny_of_tree (show wpAny _ _ (callAny (.type T) _) _ _ _ from ?_))
  refine wpAny_pure ⟨Code.quiet_builtin _ (by decide +kernel), codeAny_builtin F.entry_type_call ?_⟩
  rw [Around.under_plain (weight_type_call_type T args kw) (units_type_call_type T args kw)]
  have h1 := ft.notType
  have h2 := ft.canCreate
  repeat (any_goals (first | assumption | wp_step))
  refine codeAny_mono (codeAny_call_builtin ft.plain entryN (wpAny_of_eq hcn (g prog w A.in1 _ s h))) fun r s₁ hr => ?_
  cases r with
  | error e => exact hr
  | ok fl =>
    cases fl with
    | ret obj =>
      obtain ⟨hT, hq⟩ := hr
      have hli := ft.init.lookup
      have hbi := ft.init.bind obj
      repeat (any_goals (first | assumption | wp_step))
      refine codeAny_mono (codeAny_call_builtin ft.init.plain F.entry_object_init (ft.init.check _ _ _ _ _ _ _ _ hT (hok obj) (gi obj prog w A.in1 (wants (fun r s₂ => r = .none ∧ Q obj s₂) E) s₁ ⟨hT, rfl, hq⟩))) fun r₂ s₂ hr₂ => ?_
      cases r₂ with
      | error e => exact hr₂
      | ok fl₂ =>
        cases fl₂ with
        | ret r =>
          obtain ⟨rfl, hq⟩ := hr₂
          repeat (any_goals (first | assumption | wp_step))
        | _ => exact hr₂.elim
    | _ => exact hr.elim
abbrev eA (h : Heap) (l : Addr) : Heap := h.push { cls := .type "tuple_iterator", data := .fields #[.ref l, .int 0 0] }
abbrev eB (h : Heap) (l : Addr) : Heap := (eA h l).push { cls := .type "enumerate", data := .fields #[.none, .bool false, .ref h.objs.size, rawInt 1, .none, .none] }
theorem meets_enumS (l : Addr) (items : Array Value) (t : Tok) : Meets (Builtin.«enumerate.__new__» ⟨[.type "enumerate", .ref l], [("start", .int 1 t)]⟩) (fun _ R s => s.heap.IsTuple l items ∧ R (.ok (.ret (.ref (eA s.heap l).objs.size))) { s with heap := eB s.heap l }) :=
  .of_wp fun prog w A R s h => by
    obtain ⟨hp, g, d, tk, os⟩ := s
    obtain ⟨ht, h⟩ := h
    have hsub := sub_enumerate
    have f1 := AutoSeq1.idx_int
    have e1 : Heap.IsTuple (Shared.heap ⟨hp, g, d, tk, os⟩) l items := ht
    wp_walk using wpAny_pyIter_tuple e1
    refine wpAny_stack_any fun st => wpAny_pure ?_
    split
    · rename_i c _ _ _ _ _
      cases (c == Value.type "enumerate")
      · wp_walk using wpAny_pyIter_tuple e1
        exact ⟨_, rfl, h⟩
      · wp_walk using wpAny_pyIter_tuple e1
        exact ⟨_, rfl, h⟩
    · wp_walk using wpAny_pyIter_tuple e1
      exact ⟨_, rfl, h⟩
theorem typeCall_enumS (a : Value) (t : Tok) : checkTypeCall "enumerate" ⟨[a], [("start", .int 1 t)]⟩ = pure () := by kernel_rfl
theorem newCall_enumS (a : Value) (t : Tok) : checkBuiltinCall "enumerate.__new__" ⟨[.type "enumerate", a], [("start", .int 1 t)]⟩ = pure () := by kernel_rfl
theorem init_enumS (obj a : Value) (t : Tok) : argsOk "object.__init__" ⟨[obj, a], [("start", .int 1 t)]⟩ := by kernel_rfl
theorem initM_enumS (obj a : Value) (t : Tok) : Meets (Builtin.«object.__init__» ⟨[obj, a], [("start", .int 1 t)]⟩) (fun _ R s => s.TypeIs obj "enumerate" ∧ R (.ok (.ret .none)) s) := by
  refine Meets.of_wp fun prog w A R s hs => ?_
  obtain ⟨hT, hq⟩ := hs
  have hl := F.slot_enumerate_init.lookup
  have hm := F.called_enumerate.made
  have hne : (some "enumerate.__new__" != some "object.__new__") = true := by decide
  repeat (any_goals (first | assumption | wp_step))
  exact ⟨_, rfl, hq⟩
section
variable {prog : Program} {w : World} {A : Around} {E : Value → Shared → Prop} {s : Shared}
theorem call_enumS {l : Addr} {items : Array Value} {t : Tok} {Q : Value → Shared → Prop} (hl : s.heap.IsTuple l items)
    (h : ∀ h', IsEnum h' (s.heap.objs.size + 1) s.heap.objs.size 1 .none → h'.IsTupleIter s.heap.objs.size l 0 → (∀ b o, s.heap.get? b = some o → h'.get? b = some o) → Q (.ref (s.heap.objs.size + 1)) { s with heap := h' }) :
    wpAny (model prog w) A (call (.type "enumerate") [.ref l] [("start", .int 1 t)]) Q E s := by
  refine callKw_new F.called_enumerate (by decide) (typeCall_enumS _ _) (newCall_enumS _ _) (fun obj => init_enumS obj _ _) F.entry_enumerate_new (meets_enumS l items t) (fun obj => initM_enumS obj _ _) ⟨hl, ?_⟩
  have s1 : (eA s.heap l).objs.size = s.heap.objs.size + 1 := Heap.size_push ..
  have g2 : (eB s.heap l).get? (eA s.heap l).objs.size = some _ := Heap.get?_push_size _ rfl
  have g1 : (eB s.heap l).get? s.heap.objs.size = some _ := Heap.get?_push_of_some _ (Heap.get?_push_size _ rfl)
  show _ ∧ _
  rw [s1] at g2 ⊢
  exact ⟨⟨_, g2, rfl⟩, h _ g2 ⟨_, g1, rfl, rfl⟩ fun b o x => Heap.get?_push_of_some _ (Heap.get?_push_of_some _ x)⟩
end
def IteS (K : PySem.W.Frag) (a : Addr) : It :=
  ⟨fun i H => ∃ xs x, SqT K H a xs ∧ xs[i]? = some x,
   fun i H v H' => ∃ p x, H p = none ∧ v = .ref p ∧ H' = upd H p (.tup [.int ((i + 1 : Nat) : Int), x]) ∧ ∀ xs, SqT K H a xs → xs[i]? = some x,
   fun i H => ∃ xs, SqT K H a xs ∧ xs.length = i⟩
theorem turn_enumS {P : Program} {w : World} {K : PySem.W.Frag} {elts : List Expr} {x1 : Nat} {pos : Pos} {e it l : Addr} (hne : e ≠ it) (hle : e ≠ l) (hli : l ≠ it) :
    Turn P w K (.Tuple elts x1 pos) (IteS K l) [e, it] e (fun i h => (∃ old, IsEnum h e it ((i + 1 : Nat) : Int) old) ∧ h.IsTupleIter it l i) where
  mem := by simp
  obj := fun i h st b hb => by
    obtain ⟨⟨old, he⟩, ⟨o1, e1, c1, d1⟩⟩ := st
    simp only [List.mem_cons, List.not_mem_nil, or_false] at hb
    rcases hb with rfl | rfl
    · exact ⟨_, he, fun v q => by cases q⟩
    · exact ⟨_, e1, fun v q => by rw [d1] at q; cases q⟩
  keep := fun i h h' st k => by
    obtain ⟨⟨old, he⟩, h1⟩ := st
    exact ⟨⟨old, k e (by simp) _ he⟩, h1.at fun o q => k it (by simp) o q⟩
  item := by
    intro X hP hw hK hc i pins s σ H E I hf st hg
    subst hP hw hK
    obtain ⟨⟨old, he⟩, h1⟩ := st
    obtain ⟨xs, x, hx, ex⟩ := hg
    obtain ⟨its, rv, p, hzx⟩ := I.tuple hx
    obtain ⟨u, hu, ru⟩ := rv.get ex
    have hlt : i < its.length := (List.getElem?_eq_some_iff.mp hu).1
    have p' : s.heap.IsTuple l its.toArray := p
    refine wpAny_pyNext_enum_itemD (i := i + 1) (draws_tup1 (A := X.A.in1) (I.ok.hd hc) it l hli its.toArray) he ⟨by omega, by rw [Nat.add_sub_cancel]; exact h1, p'⟩ (by simp; exact hlt) hne (by simp; exact ⟨hne, hle⟩) fun v h' tk hv a1 a2 a3 a4 kk => ⟨_, rfl, ?_⟩
    have ev : u = v := by
      have := hv.2
      rw [Nat.add_sub_cancel, List.getElem?_toArray, hu] at this
      exact Option.some.inj this
    subst ev
    refine wpAny_letOwnedTupleGo_enum a1 fun h2' he' hs' => ?_
    have lt : ∀ {c o}, s.heap.get? c = some o → s.heap.objs.size ≠ c := fun q => Nat.ne_of_gt (Heap.lt_size q)
    have k2 : ∀ c o, c ∉ [e, it] → s.heap.get? c = some o → h2'.get? c = some o := fun c o hc q => by
      simp only [List.mem_cons, List.not_mem_nil, or_false, not_or] at hc
      exact hs'.extBut _ _ hc.1 (kk c o hc.1 hc.2 q)
    have tup : ObjOk X.prog X.w (upd H s.heap.objs.size (.tup [.int ((i + 1 : Nat) : Int), x])) h2' s.heap.objs.size (.tup [.int ((i + 1 : Nat) : Int), x]) :=
      ⟨by show 2 ≤ sizeLine; decide, [.int ((i + 1 : Nat) : Int) tk, u], .cons ⟨_, rfl⟩ (.cons ru .nil), ⟨_, hs'.extBut _ _ (lt he) a3, rfl, _, rfl⟩⟩
    have hn := I.hok.fresh (Nat.le_refl s.heap.objs.size)
    have e1 : (((i + 1 : Nat) : Int)) + 1 = ((i + 1 + 1 : Nat) : Int) := by omega
    rw [e1] at he'
    have a2' : h'.IsTupleIter it l (i + 1) := by have := a2.2.1; rwa [Nat.add_sub_cancel] at this
    refine ⟨.ref s.heap.objs.size, _, I.turnedNew (t' := tk + 1) k2 hf (Nat.le_refl _) tup, rfl, ⟨_, x, hn, rfl, rfl, fun zs hq => by rw [I.tuple_inj hq hx]; exact ex⟩, ⟨⟨_, he'⟩, a2'.extBut hs'.extBut (Ne.symm hne)⟩, fun c hc => ?_⟩
    have hcn : c ≠ s.heap.objs.size := by
      simp only [List.mem_cons, List.not_mem_nil, or_false] at hc
      obtain ⟨o1, q1, _⟩ := h1
      rcases hc with rfl | rfl
      · exact (lt he).symm
      · exact (lt q1).symm
    rw [upd_ne hcn]
    exact (hf c hc).1
  done := by
    intro X hP hw hK hc i pins s σ H E I hf st hg
    subst hP hw hK
    obtain ⟨⟨old, he⟩, h1⟩ := st
    obtain ⟨xs, hx, hle'⟩ := hg
    obtain ⟨its, rv, p, hzx⟩ := I.tuple hx
    have l1' := rv.length
    have p' : s.heap.IsTuple l its.toArray := p
    refine wpAny_pyNext_enum_endD (draws_tup1 (A := X.A.in1) (I.ok.hd hc) it l hli its.toArray) he ⟨by omega, by rw [Nat.add_sub_cancel, List.size_toArray, ← l1', hle']; exact h1, p'⟩ fun h' kk => ⟨rfl, ?_⟩
    refine I.turnedL (t' := s.toks) (ch := [e, it]) (fun c o hc q => ?_) hf
    simp only [List.mem_cons, List.not_mem_nil, or_false, not_or] at hc
    exact kk c o hc.2 q
  self := fun _ _ _ _ _ ⟨⟨old, he⟩, _⟩ h => wpAny_pyIter_enum he h
theorem callWith_typeKw {M : Model} {A : Around} {E : Value → Shared → Prop} {s : Shared} {env : Env} {pos : Pos} {T : String} {e : Expr} {rest : List Expr} {kws : List Keyword} {Q : Value → Shared → Prop}
    (h : wpAny M A (spliced (backTo pos (starEach (e :: rest) env))) (fun vs s₁ => wpAny M A (evalAll ((backToKw pos (keywordEach kws env)).map (·.2)))
      (fun kvs s₂ => wpAny M A (call (.type T) vs (((backToKw pos (keywordEach kws env)).filterMap (·.1)).zip kvs)) Q E s₂) E s₁) E s)
    (he : backTo pos (starEach (e :: rest) env) = (false, eval e env) :: backTo pos (starEach rest env))
    (hplain : (backTo pos (starEach (e :: rest) env)).any (·.1) = false)
    (hall : (backToKw pos (keywordEach kws env)).all (·.1.isSome) = true)
    (hkw : (backToKw pos (keywordEach kws env)).any (·.1.isNone) = false) :
    wpAny M A (callWith pos (.type T) [] (backTo pos (starEach (e :: rest) env)) (backToKw pos (keywordEach kws env))) Q E s := by
  have g : wpAny M A (evalArgs (.type T) true (backTo pos (starEach (e :: rest) env)) (backToKw pos (keywordEach kws env))) (fun a s₁ => wpAny M A (call (.type T) ([] ++ a.pos) a.kw) Q E s₁) E s := by
    rw [he] at h ⊢
    exact evalArgs_kwB hall h
  unfold callWith
  refine wpAny_bind (wpAny_holding (wpAny_mono g (fun a s₁ h₁ => wpAny_bind (wpAny_standAt ?_)) fun _ _ x => x))
  simp only [hplain, hkw, Bool.or_false]
  exact wpAny_bind (wpAny_pure (wpAny_bind (wpAny_mono h₁ (fun r s₂ hr => wpAny_bind (wpAny_holding (wpAny_point (wpAny_pure hr)))) fun _ _ x => x)))
section
variable {X : Cx}
def iEnumS (K : PySem.W.Frag) (ta : TA) : TI := fun σ H R => ta σ H fun vs H1 => ∃ a xs, vs = [.ref a] ∧ SqT K H1 a xs ∧ R (IteS K a) H1
theorem pi_enumS (K : PySem.W.Frag) {e1 : Expr} {ta : TA} {p pos tpos kp cp : Pos} {ci : Nat} {elts : List Expr} {x1 : Nat} (hg : Gl X "enumerate") (hm : X.mg "enumerate" = none) (ha : PA X [e1] ta) (hK : X.K = K := by rfl) (hs : backTo pos (starEach [e1] X.env) = (false, eval e1 X.env) :: backTo pos (starEach [] X.env) := by rfl) (hpl : (backTo pos (starEach [e1] X.env)).any (·.1) = false := by rfl) :
    PI X (.Tuple elts x1 tpos) (.Call (.Name "enumerate" p) [e1] [⟨some "start", .Constant (.int 1) ci cp, kp⟩] pos) (iEnumS K ta) := by
  subst hK
  intro pins s σ H R I h
  refine wpAny_Call_Name_kw (ld_blt I hg hm boot_enumerate ?_ (by decide) (by decide))
  refine callWith_typeKw (thn (ha pos pins s σ H _ I h) fun us s1 ⟨vs, H1, I1, r1, q1⟩ => ?_) hs hpl rfl rfl
  obtain ⟨a, xs, rfl, hx, q⟩ := q1
  obtain ⟨u, rfl, ru⟩ := r1.one
  cases ru
  refine kws_cons (wpAny_Constant_int (kws_nil ?_))
  have I1' := I1.tok (s1.toks + 1)
  obtain ⟨its, rv, p1, _⟩ := I1'.tuple hx
  have p1' : s1.heap.IsTuple a its.toArray := p1
  have la : a < s1.heap.objs.size := by obtain ⟨o, ho, _⟩ := p1'; exact Heap.lt_size ho
  refine call_enumS (s := { s1 with toks := s1.toks + 1 }) p1' fun h' he h1 kk => ?_
  refine wpAny_pyIter_enum he ?_
  have I2 : Inv X pins σ H1 { s1 with heap := h', toks := s1.toks + 1 } := I1'.kept (t' := s1.toks + 1) fun b o q => kk b o q
  refine ⟨s1.heap.objs.size + 1, [s1.heap.objs.size + 1, s1.heap.objs.size], _, _, H1, rfl, I2, turn_enumS (Nat.succ_ne_self _) (Nat.ne_of_gt (Nat.lt_succ_of_lt la)) (Nat.ne_of_lt la), ⟨⟨_, he⟩, h1⟩, fun c hc => ?_, q⟩
  have hle : s1.heap.objs.size ≤ c := by
    simp only [List.mem_cons, List.not_mem_nil, or_false] at hc
    rcases hc with rfl | rfl
    · exact Nat.le_add_right _ _
    · exact Nat.le_refl _
  exact I1.fpOk (H' := H1) hle (I1.hok.fresh hle)
end
section
variable {K : PySem.W.Frag} {g : TG} {σ : St} {H : Hp}
theorem for_enumS {a : Addr} {xs : List V} {tb : TS} {D : Ends} (Pv : Nat → St → Hp → Prop) (h0 : Pv 0 σ H) (hl : ∀ i σ H, i ≤ xs.length → Pv i σ H → SqT K H a xs)
    (hs : ∀ i x p σ H, xs[i]? = some x → Pv i σ H → H p = none → g (.ref p) σ (upd H p (.tup [.int ((i + 1 : Nat) : Int), x])) fun σ2 H2 => tb { D with nx := Pv (i + 1), ct := Pv (i + 1), bk := D.nx } σ2 H2) (hd : ∀ σ H, Pv xs.length σ H → D.nx σ H) :
    ∃ W : Nat → Nat → St → Hp → Prop, (∃ m, W 0 m σ H) ∧ ∀ i m σ H, W i m σ H →
      ((IteS K a).stop i H ∧ D.nx σ H) ∨ ((IteS K a).go i H ∧ ∃ N : St → Hp → Prop, (∀ σ' H', N σ' H' → ∃ m', m' < m ∧ W (i + 1) m' σ' H') ∧ ∀ x H', (IteS K a).yld i H x H' → g x σ H' fun σ2 H2 => tb { D with nx := N, ct := N, bk := D.nx } σ2 H2) := by
  refine ⟨fun i m σ H => m = xs.length - i ∧ i ≤ xs.length ∧ Pv i σ H, ⟨xs.length, by simp, Nat.zero_le _, h0⟩, ?_⟩
  rintro i m σ H ⟨rfl, hi, p⟩
  have q := hl i σ H hi p
  by_cases hlt : i < xs.length
  · refine .inr ⟨⟨xs, xs[i], q, by simp [hlt]⟩, Pv (i + 1), fun σ' H' p' => ⟨xs.length - (i + 1), by omega, rfl, hlt, p'⟩, fun x H' y => ?_⟩
    obtain ⟨pp, x1, hn, rfl, rfl, ex⟩ := y
    exact hs i x1 pp σ _ (ex xs q) p hn
  · have e : i = xs.length := by omega
    subst e
    exact .inl ⟨⟨xs, q, rfl⟩, hd σ H p⟩
end
/-! ### a tuple times an int, one or more -/
theorem tuple_mul1 (l : Addr) (items : Array Value) (n : Nat) (dd : Option Addr) (sl : Array (Option Value)) (u : Tok) :
    Meets (Builtin.«tuple.__mul__» ⟨[.ref l, .int 1 u], []⟩) (fun _ R s => s.heap.get? l = some { cls := .type "tuple", dict := dd, data := .seq items n, slots := sl } ∧ R (.ok (.ret (.ref l))) s) :=
  .of_wp fun prog w A R s h => by
    obtain ⟨hp, g, d, tk, os⟩ := s; obtain ⟨hl, h⟩ := h
    have f1 := AutoSeq1.idx_int
    have f2 := AutoSeq1.sub_tuple_tuple
    wp_walk using wpAny_loadPart' hl
    wp_walk using wpAny_loadPart' hl
    exact ⟨_, rfl, h⟩
def rRepA (K : PySem.W.Frag) : R2 := fun x y H Q => ∃ l k xs, x = .ref l ∧ y = .int k ∧ SqT K H l xs ∧ xs ≠ [] ∧ xs.length ≤ 1000 ∧ 1 ≤ k ∧ k < 1000 ∧
  ∀ r H', Same H H' → SqT K H' r (List.replicate k.toNat xs).flatten → Q (.ref r) H'
section
variable {X : Cx}
theorem op_repA (K : PySem.W.Frag) (hK : X.K = K := by rfl) : OpR X (binaryOp .Mult) (rRepA K) := by
  subst hK
  intro pins s σ H x y v u Q I rx ry h
  obtain ⟨l, k, xs, rfl, rfl, hH, hne, hl, k1, kb, q⟩ := h
  by_cases k2 : 2 ≤ k
  · exact op_repT X.K rfl pins s σ H _ _ v u Q I rx ry ⟨l, k, xs, rfl, rfl, hH, hne, hl, k2, kb, fun p hp => q p _ ((Same.refl _).new hp) (SqT.of upd_same)⟩
  obtain rfl : k = 1 := by omega
  cases rx
  obtain ⟨t, rfl⟩ := ry
  obtain ⟨its, r, ht, hz⟩ := I.tuple hH
  obtain ⟨⟨cls, dd, data, sl⟩, ho, hc, n, hd⟩ := id ht
  simp only at hc hd
  subst hc hd
  refine wpAny_binaryOp_repeat_ref (T := "tuple") (U := "int") (by decide) ⟨_, ho, rfl⟩ (fun s' => typeIs_int s' 1 t) noFill_tuple_mul PySem.F.fills_int_mul PySem.F.slot_int_rmul repeat_tuple PySem.F.slot_int_index.lookup
    (call_meets PySem.F.slot_int_rmul (typeIs_int s 1 t) PySem.F.entry_int_rmul (PySem.F.args_int_rmul_2 _ _) (int_rmul_tuple 1 t l its.toArray n dd sl)
      ⟨ho, rfl, ⟨_, ho, rfl⟩, call_meets PySem.F.slot_tuple_mul ⟨_, ho, rfl⟩ PySem.F.entry_tuple_mul (PySem.F.args_tuple_mul_2 _ _) (tuple_mul1 l its.toArray n dd sl t) ⟨ho, ?_⟩⟩)
  exact ⟨.ref l, H, I, rfl, q l H (Same.refl _) (by simpa using hH)⟩
/-! ### isinstance of ints, None, tuples and lists -/
inductive TyS (K : PySem.W.Frag) (H : Hp) : V → Value → Prop where
  | non : TyS K H .non (.type "NoneType")
  | int (i : Int) : TyS K H (.int i) (.type "int")
  | bl (b : Bool) : TyS K H (.bl b) (.type "bool")
  | tup {a : Addr} {xs : List V} : SqT K H a xs → TyS K H (.ref a) (.type "tuple")
  | lst {a : Addr} {xs : List V} : SqL K H a xs → TyS K H (.ref a) (.type "list")
end
end L2
namespace L2
open PySem PySem.Spec PyProof.Rows
/-! ### rows of numbers and None, and what is made of them, compared -/
def ent : Option Int → V
  | none => .non
  | some n => .int n
theorem ent_inj : ∀ {x y : Option Int}, ent x = ent y → x = y
  | none, none, _ => rfl
  | none, some _, h => by cases h
  | some _, none, h => by cases h
  | some a, some b, h => by cases h; rfl
theorem ents_inj : ∀ {x y : List (Option Int)}, x.map ent = y.map ent → x = y
  | [], [], _ => rfl
  | [], _ :: _, h => by cases h
  | _ :: _, [], h => by cases h
  | a :: x, b :: y, h => by
    rw [List.map_cons, List.map_cons] at h
    rw [ent_inj (List.cons.inj h).1, ents_inj (List.cons.inj h).2]
theorem ent_flat (e : Option Int) : flatV (ent e) = true := by cases e <;> rfl
theorem ent_eqV (x y : Option Int) : eqV (ent x) (ent y) = decide (x = y) := by
  cases x <;> cases y
  · rfl
  · rfl
  · rfl
  · rename_i a b
    show (a == b) = _
    by_cases h : a = b <;> simp [h]
theorem ents_all : ∀ (x y : List (Option Int)), ((List.range (min x.length y.length)).all (fun j => decide ((x[j]?).getD none = (y[j]?).getD none)) && (x.length == y.length)) = decide (x = y)
  | x, y => by
    by_cases h : x = y
    · subst h; simp
    · rw [decide_eq_false h]
      by_cases hl : x.length = y.length
      · rw [Bool.and_eq_false_iff]
        left
        rw [List.all_eq_false]
        apply Classical.byContradiction
        intro hn
        apply h
        apply List.ext_getElem? 
        intro j
        by_cases hj : j < x.length
        · have hj' : j < y.length := by omega
          have := Classical.byContradiction fun hz => hn ⟨j, List.mem_range.mpr (by omega), hz⟩
          have e := of_decide_eq_true this
          simp only [List.getElem?_eq_getElem hj, List.getElem?_eq_getElem hj', Option.getD_some] at e ⊢
          rw [e]
        · rw [List.getElem?_eq_none (by omega), List.getElem?_eq_none (by omega)]
      · simp [hl]
section
variable {X : Cx} {pins : List (Addr × Obj)} {σ : St} {H : Hp} {s : Shared}
theorem entsAt (I : Inv X pins σ H s) {a b : Addr} {x y : List (Option Int)} (ha : SqT X.K H a (x.map ent)) (hb : SqT X.K H b (y.map ent)) {A : Around} (hu : A.units < cLine) : SeqAt.EqAt A s (.ref a) (.ref b) (decide (x = y)) := by
  by_cases hab : a = b
  · subst hab
    rw [decide_eq_true (ents_inj (I.tuple_inj ha hb))]
    exact SeqAt.EqAt.same _
  · obtain ⟨its, r1, p1, _⟩ := I.tuple ha
    obtain ⟨its2, r2, p2, _⟩ := I.tuple hb
    have l1 := r1.length
    have l2 := r2.length
    rw [List.length_map] at l1 l2
    refine SeqAt.EqAt.of_refs hab ?_
    have q := SeqAt.RcAt.tuples (A := A) (s := s) (e := fun j => decide ((x[j]?).getD none = (y[j]?).getD none)) (show s.heap.IsTuple a its.toArray from p1) (show s.heap.IsTuple b its2.toArray from p2) hu fun j h1 h2 => ?_
    · rw [List.size_toArray, List.size_toArray, ← l1, ← l2, ents_all] at q
      exact q
    · obtain ⟨u, hx, rx⟩ := rel_at r1 j h1
      obtain ⟨v, hy, ry⟩ := rel_at r2 j h2
      rw [List.getElem?_map] at hx hy
      cases ex : x[j]? with
      | none => rw [ex] at hx; cases hx
      | some eu =>
        cases ey : y[j]? with
        | none => rw [ey] at hy; cases hy
        | some ev =>
          rw [ex] at hx
          rw [ey] at hy
          obtain rfl : ent eu = u := Option.some.inj hx
          obtain rfl : ent ev = v := Option.some.inj hy
          have := eqAt_V (A := A.in1) (s := s) rx ry (ent_flat eu) (ent_flat ev)
          rw [ent_eqV] at this
          exact this
/-- a row in a list of such -/
def rInP (K : PySem.W.Frag) (neg : Bool) : R2 := fun x y H Q => ∃ (a l : Addr) (es : List (Option Int)) (n : Nat) (tps : Nat → Addr) (ess : Nat → List (Option Int)), x = .ref a ∧ y = .ref l ∧ SqT K H a (es.map ent) ∧ SqL K H l (tabR n tps) ∧ (∀ j, j < n → SqT K H (tps j) ((ess j).map ent)) ∧
  Q (.bl (if neg then !((List.range n).any fun j => decide (ess j = es)) else (List.range n).any fun j => decide (ess j = es))) H
open Classical in
noncomputable def isRow (K : PySem.W.Frag) (H : Hp) (es : List (Option Int)) : Value → Bool
  | .ref c => decide (SqT K H c (es.map ent))
  | _ => false
theorem isRow_at (I : Inv X pins σ H s) {c : Addr} {x es : List (Option Int)} (h : SqT X.K H c (x.map ent)) : isRow X.K H es (.ref c) = decide (x = es) := by
  unfold isRow
  by_cases e : x = es
  · subst e; simp [h]
  · rw [decide_eq_false e]
    exact @decide_eq_false _ (Classical.propDecidable _) fun z => e (ents_inj (I.tuple_inj h z))
theorem vals_ref : ∀ {n : Nat} {f : Nat → Addr} {us : List Value}, Vals (tabR n f) us → us = (List.range n).map fun j => Value.ref (f j) := by
  intro n f us h
  have hl := h.length
  rw [tab_len] at hl
  apply List.ext_getElem?
  intro j
  by_cases hj : j < n
  · have ht : (tabR n f)[j]? = some (.ref (f j)) := tab_get hj
    obtain ⟨u, hu, ru⟩ := h.get ht
    cases ru
    rw [hu]
    simp [hj]
  · rw [List.getElem?_eq_none (by omega), List.getElem?_eq_none (by simp; omega)]
theorem rows_any (I : Inv X pins σ H s) {n : Nat} {tps : Nat → Addr} {ess : Nat → List (Option Int)} {es : List (Option Int)} {its : List Value} (r : Vals (tabR n tps) its) (h : ∀ j, j < n → SqT X.K H (tps j) ((ess j).map ent)) :
    its.toArray.any (isRow X.K H es) = (List.range n).any fun j => decide (ess j = es) := by
  rw [vals_ref r]
  rw [Bool.eq_iff_iff]
  simp only [List.any_toArray, List.any_eq_true, List.mem_map, List.mem_range]
  constructor
  · rintro ⟨v, ⟨j, hj, rfl⟩, hv⟩
    rw [isRow_at I (h j hj)] at hv
    exact ⟨j, hj, hv⟩
  · rintro ⟨j, hj, hv⟩
    exact ⟨_, ⟨j, hj, rfl⟩, by rw [isRow_at I (h j hj)]; exact hv⟩
end
section
variable {X : Cx}
theorem op_notInP (K : PySem.W.Frag) (hu : X.A.units + 16 < cLine) (hK : X.K = K := by rfl) : OpR X (compareOp .NotIn) (rInP K true) := by
  subst hK
  intro pins s σ H x y v u Q I rx ry h
  obtain ⟨a, l, es, n, tps, ess, rfl, rfl, ha, hl, hh, q⟩ := h
  cases rx
  cases ry
  obtain ⟨its, r, pl, hz⟩ := I.list hl
  refine SeqAt.notIn_listAt (isRow X.K H es) pl.isList (fun w hw => ?_) ⟨.bl _, H, I, rfl, ?_⟩
  · have hw' : w ∈ its := by simpa using hw
    rw [vals_ref r, List.mem_map] at hw'
    obtain ⟨j, hj, rfl⟩ := hw'
    rw [List.mem_range] at hj
    rw [isRow_at I (hh j hj)]
    exact entsAt I (hh j hj) ha (by show X.A.units + 1 < cLine; omega)
  · rw [rows_any I r hh]
    exact q
end
end L2
namespace L2
open PySem PySem.Spec PyProof.Rows
/-! ### rows of numbers and None, and stands, as keys -/
structure Std where
  ah : Int
  rs : Int
  se : List (Option Int)
  to : List (Option Int)
deriving DecidableEq
structure IsStd (K : PySem.W.Frag) (H : Hp) (a : Addr) (s : Std) : Prop where
  ex : ∃ b c, SqT K H a [.int s.ah, .int s.rs, .ref b, .ref c] ∧ SqT K H b (s.se.map ent) ∧ SqT K H c (s.to.map ent)
theorem IsStd.same {K : PySem.W.Frag} {H H' : Hp} {a : Addr} {s : Std} (h : IsStd K H a s) (e : Same H H') : IsStd K H' a s := by
  obtain ⟨b, c, h1, h2, h3⟩ := h.ex
  exact ⟨b, c, e.tup h1, e.tup h2, e.tup h3⟩
def IsRowH (h : Heap) (x : List (Option Int)) (a : Addr) : Prop := ∃ its : List Value, Vals (x.map ent) its ∧ h.IsTuple a its.toArray
def IsStdH (h : Heap) (s : Std) (a : Addr) : Prop := ∃ (b c : Addr) (t t' : Tok), h.IsTuple a #[.int s.ah t, .int s.rs t', .ref b, .ref c] ∧ IsRowH h s.se b ∧ IsRowH h s.to c
def noneHash : Int := 0xFCA86420
def entHash : Option Int → Int
  | some k => hashInt k
  | none => noneHash
def rowHash (x : List (Option Int)) : Int := reduceHash (Builtin.Tuple.tupleHashOf (x.map entHash))
def stdHash (s : Std) : Int := reduceHash (Builtin.Tuple.tupleHashOf [hashInt s.ah, hashInt s.rs, rowHash s.se, rowHash s.to])
theorem tup_inj {h : Heap} {a : Addr} {x y : Array Value} (hx : h.IsTuple a x) (hy : h.IsTuple a y) : x = y := by
  obtain ⟨o, ho, _, n, hd⟩ := hx
  obtain ⟨o', ho', _, n', hd'⟩ := hy
  rw [ho] at ho'
  obtain rfl := Option.some.inj ho'
  rw [hd] at hd'
  injection hd' with h1 _
theorem ents_rel : ∀ {x y : List (Option Int)} {vs : List Value}, Vals (x.map ent) vs → Vals (y.map ent) vs → x = y
  | [], [], _, _, _ => rfl
  | [], _ :: _, _, .nil, h => by cases h
  | _ :: _, [], _, h, .nil => by cases h
  | a :: x, b :: y, _, .cons r t, .cons r' t' => by
    rw [ents_rel t t']
    congr 1
    cases a with
    | none =>
      cases b with
      | none => rfl
      | some j => cases (show _ = Value.none from r); obtain ⟨_, e⟩ := (show ∃ t, Value.none = Value.int j t from r'); cases e
    | some i =>
      obtain ⟨u, rfl⟩ := (show ∃ t, _ = Value.int i t from r)
      cases b with
      | none => have e := (show Value.int i u = Value.none from r'); cases e
      | some j => obtain ⟨_, e⟩ := (show ∃ t, Value.int i u = Value.int j t from r'); cases e; rfl
theorem IsRowH.inj {h : Heap} {a : Addr} {x y : List (Option Int)} (hx : IsRowH h x a) (hy : IsRowH h y a) : x = y := by
  obtain ⟨its, r, ht⟩ := hx
  obtain ⟨its', r', ht'⟩ := hy
  have e := tup_inj ht ht'
  have e' : its = its' := by simpa using congrArg Array.toList e
  subst e'
  exact ents_rel r r'
theorem IsStdH.inj {h : Heap} {a : Addr} {x y : Std} (hx : IsStdH h x a) (hy : IsStdH h y a) : x = y := by
  obtain ⟨b, c, t, t', ht, h1, h2⟩ := hx
  obtain ⟨b', c', u, u', hu, k1, k2⟩ := hy
  have e := congrArg Array.toList (tup_inj ht hu)
  simp only [List.cons.injEq, and_true, Value.int.injEq, Value.ref.injEq] at e
  obtain ⟨⟨e1, _⟩, ⟨e2, _⟩, rfl, rfl⟩ := e
  have e3 := h1.inj k1
  have e4 := h2.inj k2
  cases x; cases y
  simp only at e1 e2 e3 e4
  rw [e1, e2, e3, e4]
theorem tup_keep {h h' : Heap} {a d : Addr} {x : Array Value} {o : Obj} {es ep} (hx : h.IsTuple a x) (ho : h.get? d = some o) (hd : o.data = .dict es ep) (hs : Heap.SameBut d h h') : h'.IsTuple a x := by
  obtain ⟨o', ho', hc, n, hd'⟩ := hx
  have hne : a ≠ d := by
    rintro rfl
    rw [ho] at ho'
    obtain rfl := Option.some.inj ho'
    rw [hd] at hd'
    exact nomatch hd'
  exact ⟨o', (hs.2 a hne).trans ho', hc, n, hd'⟩
section
variable {prog : Program} {w : World} {A : Around} {E : Value → Shared → Prop} {s : Shared}
theorem pyHash_none {Q : Int → Shared → Prop} (h : Q noneHash { s with toks := s.toks + 1 }) : wpAny (model prog w) A (pyHash .none) Q E s := by
  have hT := typeIs_none s
  unfold pyHash
  unfold pyHashByItsType
  have hv : [Value.none].any Value.onHeap = false := rfl
  refine wpAny_bind ?_
  rw [cRoomFor, if_neg (by rw [hv]; exact Bool.false_ne_true)]; refine wpAny_pure ?_
  refine wpAny_bind (wpAny_specialOf hT F.slot_NoneType_hash.lookup ?_)
  refine (show wpAny _ _ (if (some (Value.builtin "NoneType.__hash__") == some Value.none) = true then _ else _) Q E s from ?_)
  rw [if_neg (by rw [beq_builtin_none]; exact Bool.false_ne_true)]
  refine wpAny_bind (wpAny_specialOf hT F.slot_NoneType_hash.lookup ?_)
  refine (show wpAny _ _ (callSpecialIfBoundUnlessNone? Value.none "__hash__" _ >>= _) Q E s from ?_)
  refine wpAny_bind (wpAny_callSpecialIfBoundUnlessNone?_slot hT F.slot_NoneType_hash (wpAny_call_entry F.slot_NoneType_hash hT F.entry_NoneType_hash ?_ (F.args_NoneType_hash_1 _)))
  refine (show wpAny _ _ (do ret (← mkInt 0xFCA86420)) _ _ s from wpAny_ret_mkInt ?_)
  exact wpAny_pure h
/-- the hash of a tuple, by its items' -/
theorem pyHash_items {a : Addr} {all : List (Value × Int × Nat)} {Q : Int → Shared → Prop} (hu : A.units < cLine) (ht : s.heap.IsTuple a (all.map (·.1)).toArray)
    (hi : ∀ x ∈ all, ∀ (tk : Nat) (Q : Int → Shared → Prop), Q x.2.1 { s with toks := tk + x.2.2 } → wpAny (model prog w) A.in1 (pyHash x.1) Q E { s with toks := tk })
    (h : Q (reduceHash (Builtin.Tuple.tupleHashOf (all.map (·.2.1)))) { s with toks := s.toks + ((all.map (·.2.2)).sum + 1) }) : wpAny (model prog w) A (pyHash (.ref a)) Q E s := by
  have hT : s.TypeIs (.ref a) "tuple" := let ⟨o, ho, hc, _⟩ := ht; ⟨o, ho, hc⟩
  obtain ⟨o, ho, _, n, hd⟩ := ht
  unfold pyHash
  unfold pyHashByItsType
  refine wpAny_bind (wpAny_cRoomFor_or (.inr hu) ?_)
  refine wpAny_bind (wpAny_specialOf hT F.slot_tuple_hash.lookup ?_)
  refine (show wpAny _ _ (if (some (Value.builtin "tuple.__hash__") == some Value.none) = true then _ else _) Q E s from ?_)
  rw [if_neg (by rw [beq_builtin_none]; exact Bool.false_ne_true)]
  refine wpAny_bind (wpAny_specialOf hT F.slot_tuple_hash.lookup ?_)
  refine (show wpAny _ _ (callSpecialIfBoundUnlessNone? (.ref a) "__hash__" _ >>= _) Q E s from ?_)
  refine wpAny_bind (wpAny_callSpecialIfBoundUnlessNone?_slot hT F.slot_tuple_hash (wpAny_call_entry F.slot_tuple_hash hT F.entry_tuple_hash ?_ (F.args_tuple_hash_1 _)))
  refine (show wpAny _ _ (Builtin.Tuple.tupleItemsOf (.ref a) >>= _) _ _ s from wpAny_bind (wpAny_tupleItemsOf ho hd (wpAny_bind ?_)))
  rw [← Array.forIn_toList]
  refine wpAny_forIn_list _
    (fun rest (b : Array Int) s' => ∃ done left, all = done ++ left ∧ rest = left.map (·.1) ∧ b.toList = done.map (·.2.1) ∧ s' = { s with toks := s.toks + (done.map (·.2.2)).sum })
    _ ?_ ?_ _ _ ⟨[], all, rfl, by simp, rfl, rfl⟩
  · rintro x rest b s' ⟨done, left, rfl, hl, hb, rfl⟩
    match left, hl with
    | y :: left', hl =>
      rw [List.map_cons] at hl
      obtain ⟨rfl, rfl⟩ := List.cons.inj hl
      refine wpAny_bind (hi y (by simp) _ _ ?_)
      first
        | exact wpAny_pure ⟨done ++ [y], left', by simp, rfl, by simp [hb], by simp [Nat.add_assoc]⟩
        | exact wpAny_bind (wpAny_pure (wpAny_pure ⟨done ++ [y], left', by simp, rfl, by simp [hb], by simp [Nat.add_assoc]⟩))
  · rintro b s' ⟨done, left, rfl, hl, hb, rfl⟩
    have : left = [] := List.map_eq_nil_iff.mp hl.symm
    subst this
    rw [List.append_nil] at h
    refine (show wpAny _ _ (retInt (Builtin.Tuple.tupleHashOf b.toList)) _ _ _ from ?_)
    rw [hb]
    refine wpAny_ret_mkInt ?_
    refine (show wpAny _ _ (if (decide (-(2 : Int) ^ 63 ≤ Builtin.Tuple.tupleHashOf (done.map (·.2.1))) && decide (Builtin.Tuple.tupleHashOf (done.map (·.2.1)) < 2 ^ 63)) = true then _ else _) Q E _ from ?_)
    unfold reduceHash at h
    by_cases hr : (decide (-(2 : Int) ^ 63 ≤ Builtin.Tuple.tupleHashOf (done.map (·.2.1))) && decide (Builtin.Tuple.tupleHashOf (done.map (·.2.1)) < 2 ^ 63)) = true
    · rw [if_pos hr]
      rw [if_pos hr] at h
      exact wpAny_pure (by simpa [Nat.add_assoc] using h)
    · rw [if_neg hr]
      rw [if_neg hr] at h
      exact wpAny_bind (wpAny_rule (wpAny_pure (by simpa [Nat.add_assoc] using h)))
theorem pyHash_row {x : List (Option Int)} {a : Addr} {Q : Int → Shared → Prop} (hu : A.units < cLine) (hx : IsRowH s.heap x a) (h : Q (rowHash x) { s with toks := s.toks + (x.length + 1) }) : wpAny (model prog w) A (pyHash (.ref a)) Q E s := by
  obtain ⟨its, r, ht⟩ := hx
  have hl := r.length
  rw [List.length_map] at hl
  have sums : ∀ {x : List (Option Int)} {its : List Value}, Vals (x.map ent) its → ∃ all : List (Value × Int × Nat), all.map (·.1) = its ∧ all.map (·.2.1) = x.map entHash ∧ (all.map (·.2.2)).sum = x.length ∧ ∀ y ∈ all, y.2.2 = 1 ∧ ((y.1 = .none ∧ y.2.1 = noneHash) ∨ ∃ i t, y.1 = .int i t ∧ y.2.1 = hashInt i) := by
    intro x
    induction x with
    | nil => intro its r; cases r; exact ⟨[], rfl, rfl, rfl, fun y hy => by cases hy⟩
    | cons e x ih =>
      intro its r
      cases r with
      | cons r t =>
        obtain ⟨all, a1, a2, a3, a4⟩ := ih t
        cases e with
        | none =>
          cases (show _ = Value.none from r)
          refine ⟨(.none, noneHash, 1) :: all, by simp [a1], by simp [a2, entHash], by simp [a3]; omega, fun y hy => ?_⟩
          rcases List.mem_cons.mp hy with rfl | hy
          · exact ⟨rfl, .inl ⟨rfl, rfl⟩⟩
          · exact a4 y hy
        | some i =>
          obtain ⟨u, rfl⟩ := (show ∃ t, _ = Value.int i t from r)
          refine ⟨(.int i u, hashInt i, 1) :: all, by simp [a1], by simp [a2, entHash], by simp [a3]; omega, fun y hy => ?_⟩
          rcases List.mem_cons.mp hy with rfl | hy
          · exact ⟨rfl, .inr ⟨i, u, rfl, rfl⟩⟩
          · exact a4 y hy
  obtain ⟨all, a1, a2, a3, a4⟩ := sums r
  refine pyHash_items (all := all) hu (by rw [a1]; exact ht) (fun y hy tk Q' hq => ?_) (by rw [a2, a3]; exact h)
  obtain ⟨e1, e2⟩ := a4 y hy
  rw [e1] at hq
  rcases e2 with ⟨e3, e4⟩ | ⟨i, t, e3, e4⟩
  · rw [e3]; rw [e4] at hq; exact pyHash_none hq
  · rw [e3]; rw [e4] at hq; exact wpAny_pyHash_int hq
theorem pyHash_std {x : Std} {a : Addr} {Q : Int → Shared → Prop} (hu : A.units + 1 < cLine) (hx : IsStdH s.heap x a) (h : Q (stdHash x) { s with toks := s.toks + (x.se.length + x.to.length + 5) }) : wpAny (model prog w) A (pyHash (.ref a)) Q E s := by
  obtain ⟨b, c, t, t', ht, h1, h2⟩ := hx
  refine pyHash_items (all := [(.int x.ah t, hashInt x.ah, 1), (.int x.rs t', hashInt x.rs, 1), (.ref b, rowHash x.se, x.se.length + 1), (.ref c, rowHash x.to, x.to.length + 1)]) (by omega) ht (fun y hy tk Q' hq => ?_) ?_
  · simp only [List.mem_cons, List.not_mem_nil, or_false] at hy
    rcases hy with rfl | rfl | rfl | rfl
    · exact wpAny_pyHash_int hq
    · exact wpAny_pyHash_int hq
    · exact pyHash_row (by show A.units + 1 < cLine; exact hu) h1 hq
    · exact pyHash_row (by show A.units + 1 < cLine; exact hu) h2 hq
  · have e : (([(.int x.ah t, hashInt x.ah, 1), (.int x.rs t', hashInt x.rs, 1), (.ref b, rowHash x.se, x.se.length + 1), (.ref c, rowHash x.to, x.to.length + 1)] : List (Value × Int × Nat)).map (·.2.2)).sum + 1 = x.se.length + x.to.length + 5 := by simp; omega
    rw [e]
    exact h
theorem rowAt {x y : List (Option Int)} {a b : Addr} (hu : A.units < cLine) (hx : IsRowH s.heap x a) (hy : IsRowH s.heap y b) : SeqAt.EqAt A s (.ref a) (.ref b) (decide (x = y)) := by
  by_cases hab : a = b
  · subst hab
    rw [decide_eq_true (hx.inj hy)]
    exact SeqAt.EqAt.same _
  · obtain ⟨its, r1, p1⟩ := hx
    obtain ⟨its2, r2, p2⟩ := hy
    have l1 := r1.length
    have l2 := r2.length
    rw [List.length_map] at l1 l2
    refine SeqAt.EqAt.of_refs hab ?_
    have q := SeqAt.RcAt.tuples (A := A) (s := s) (e := fun j => decide ((x[j]?).getD none = (y[j]?).getD none)) p1 p2 hu fun j h1 h2 => ?_
    · rw [List.size_toArray, List.size_toArray, ← l1, ← l2, ents_all] at q
      exact q
    · obtain ⟨u, hx, rx⟩ := rel_at r1 j h1
      obtain ⟨v, hy, ry⟩ := rel_at r2 j h2
      rw [List.getElem?_map] at hx hy
      cases ex : x[j]? with
      | none => rw [ex] at hx; cases hx
      | some eu =>
        cases ey : y[j]? with
        | none => rw [ey] at hy; cases hy
        | some ev =>
          rw [ex] at hx
          rw [ey] at hy
          obtain rfl : ent eu = u := Option.some.inj hx
          obtain rfl : ent ev = v := Option.some.inj hy
          have := eqAt_V (A := A.in1) (s := s) rx ry (ent_flat eu) (ent_flat ev)
          rw [ent_eqV] at this
          exact this
theorem stdAt {x y : Std} {a b : Addr} (hu : A.units + 1 < cLine) (hx : IsStdH s.heap x a) (hy : IsStdH s.heap y b) : SeqAt.EqAt A s (.ref a) (.ref b) (decide (x = y)) := by
  by_cases hab : a = b
  · subst hab
    rw [decide_eq_true (hx.inj hy)]
    exact SeqAt.EqAt.same _
  · obtain ⟨b1, c1, t1, u1, p1, g1, g2⟩ := hx
    obtain ⟨b2, c2, t2, u2, p2, k1, k2⟩ := hy
    refine SeqAt.EqAt.of_refs hab ?_
    have q := SeqAt.RcAt.tuples (A := A) (s := s) (e := fun j => if j = 0 then (x.ah == y.ah) else if j = 1 then (x.rs == y.rs) else if j = 2 then decide (x.se = y.se) else decide (x.to = y.to)) p1 p2 (by omega) fun j h1 h2 => ?_
    · have e : ((List.range (min 4 4)).all (fun j => if j = 0 then (x.ah == y.ah) else if j = 1 then (x.rs == y.rs) else if j = 2 then decide (x.se = y.se) else decide (x.to = y.to)) && ((4 : Nat) == 4)) = decide (x = y) := by
        have e4 : List.range (min 4 4) = [0, 1, 2, 3] := rfl
        rw [e4]
        cases x; cases y
        rw [Bool.eq_iff_iff]
        simp
      exact e ▸ q
    · match j, h1, h2 with
      | 0, _, _ => exact SeqAt.EqAt.int_int _ _ _ _
      | 1, _, _ => exact SeqAt.EqAt.int_int _ _ _ _
      | 2, _, _ => exact rowAt (by show A.units + 1 < cLine; exact hu) g1 k1
      | 3, _, _ => exact rowAt (by show A.units + 1 < cLine; exact hu) g2 k2
      | j + 4, h1, _ => exact absurd h1 (by show ¬ (j + 4 < 4); omega)
theorem quiet_items (n : Nat) {a : Addr} {items : Array Value} {Q : Bool → Shared → Prop} (ht : s.heap.IsTuple a items) (hi : ∀ v ∈ items.toList, ∀ Q : Bool → Shared → Prop, Q true s → wpAny (model prog w) A (eqIsQuiet n v) Q E s) (h : Q true s) : wpAny (model prog w) A (eqIsQuiet (n + 1) (.ref a)) Q E s := by
  have hT : s.TypeIs (.ref a) "tuple" := let ⟨o, ho, hc, _⟩ := ht; ⟨o, ho, hc⟩
  obtain ⟨o, ho, _, m, hd⟩ := ht
  unfold eqIsQuiet
  refine wpAny_bind (wpAny_specialOf hT F.slot_tuple_eq.lookup ?_)
  refine (show wpAny _ _ (isInstance (.ref a) (.type "tuple") >>= _) _ _ s from wpAny_bind (wpAny_isInstance hT isSubtype_tuple_tuple ?_))
  simp only [Bool.not_true, Bool.false_eq_true, if_false]
  refine wpAny_bind (wpAny_seqItems ho hd (wpAny_bind ?_))
  refine (show wpAny _ _ (forIn items _ _) _ _ s from ?_)
  rw [← Array.forIn_toList]
  refine wpAny_forIn_list _ (fun rest r s' => r.1 = none ∧ s' = s ∧ ∀ v ∈ rest, v ∈ items.toList) _ ?_ ?_ _ _ ⟨rfl, rfl, fun v hv => hv⟩
  · rintro v rest r s' ⟨hr, rfl, hall⟩
    refine wpAny_bind (hi v (hall v List.mem_cons_self) _ ?_)
    simp only [Bool.not_true, Bool.false_eq_true, if_false]
    exact wpAny_pure ⟨rfl, rfl, fun u hu' => hall u (List.mem_cons_of_mem _ hu')⟩
  · rintro ⟨r1, r2⟩ s' ⟨hr, rfl, _⟩
    simp only at hr
    subst hr
    exact wpAny_pure h
theorem quiet_row (n : Nat) {x : List (Option Int)} {a : Addr} {Q : Bool → Shared → Prop} (hx : IsRowH s.heap x a) (h : Q true s) : wpAny (model prog w) A (eqIsQuiet (n + 1) (.ref a)) Q E s := by
  obtain ⟨its, r, ht⟩ := hx
  refine quiet_items n ht (fun v hv Q' hq => ?_) h
  have hb : carriedByValue v = true := by
    have hv' : v ∈ its := by simpa using hv
    clear hv
    have all : ∀ {x : List (Option Int)} {its : List Value}, Vals (x.map ent) its → ∀ v ∈ its, carriedByValue v = true := by
      intro x
      induction x with
      | nil => intro its r v hv; cases r; cases hv
      | cons e x ih =>
        intro its r v hv
        cases r with
        | cons r t =>
          rcases List.mem_cons.mp hv with rfl | hv
          · cases e with
            | none => cases (show v = Value.none from r); rfl
            | some i => obtain ⟨u, rfl⟩ := (show ∃ t, v = Value.int i t from r); rfl
          · exact ih t v hv
    exact all r v hv'
  rw [eqIsQuiet_byValue _ hb]
  exact wpAny_pure hq
theorem quiet_std {x : Std} {a : Addr} {Q : Bool → Shared → Prop} (hx : IsStdH s.heap x a) (h : Q true s) : wpAny (model prog w) A (eqIsQuiet 8 (.ref a)) Q E s := by
  obtain ⟨b, c, t, t', ht, h1, h2⟩ := hx
  refine quiet_items 7 ht (fun v hv Q' hq => ?_) h
  simp only [List.mem_cons, List.not_mem_nil, or_false] at hv
  rcases hv with rfl | rfl | rfl | rfl
  · rw [eqIsQuiet_byValue _ rfl]; exact wpAny_pure hq
  · rw [eqIsQuiet_byValue _ rfl]; exact wpAny_pure hq
  · exact quiet_row 6 h1 hq
  · exact quiet_row 6 h2 hq
end
def stdKind (prog : Program) (w : World) : HeapKind prog w Std where
  is := IsStdH
  hash := stdHash
  draws := fun x => x.se.length + x.to.length + 5
  room := fun A => A.units + 1 < cLine
  inj := fun hx hy => hx.inj hy
  keeps := fun {h h' k a d o es ep} hx ho hd hs => by
    obtain ⟨b, c, t, t', ht, ⟨i1, r1, p1⟩, ⟨i2, r2, p2⟩⟩ := hx
    exact ⟨b, c, t, t', tup_keep ht ho hd hs, ⟨i1, r1, tup_keep p1 ho hd hs⟩, ⟨i2, r2, tup_keep p2 ho hd hs⟩⟩
  pyHash := fun hu hk h => pyHash_std hu hk h
  eqBool := fun hu hx hy h => stdAt hu hx hy _ _ _ _ h
  quiet := fun hk h => quiet_std hk h
end L2
namespace L2
open PySem PySem.Spec PyProof.Rows
/-! ### a dict whose keys are stands -/
abbrev SX := List (Std × Addr × V)
def stdEntry (q : Std × Addr × Value) : DictEntry := ⟨stdHash q.1, .ref q.2.1, q.2.2⟩
abbrev P3 : SX → List (Std × Addr × Value) → Prop := Paired fun p q => p.1 = q.1 ∧ p.2.1 = q.2.1 ∧ RelV p.2.2 q.2.2
def DSφ (a : Addr) (xs : SX) (h : Heap) : Prop := xs.length ≤ sizeLine ∧ (a == sysModules) = false ∧ (xs.map (·.1)).Nodup ∧ ∃ vs : List (Std × Addr × Value), P3 xs vs ∧ ∃ o es ep, h.get? a = some o ∧ o.ExactDict ∧ o.data = .dict es ep ∧ es.toList = vs.map stdEntry
def DS (a : Addr) (xs : SX) : HO := .ext (DSφ a xs)
/-- what the dict holds at a key -/
def valS (xs : SX) (k : Std) : Option V := (xs.find? fun x => decide (x.1 = k)).map (·.2.2)
def putS (xs : SX) (k : Std) (b : Addr) (v : V) : SX := if (valS xs k).isSome then xs.map (fun x => if x.1 = k then (x.1, x.2.1, v) else x) else xs ++ [(k, b, v)]
theorem valS_isSome (xs : SX) (k : Std) : (valS xs k).isSome = decide (k ∈ xs.map (·.1)) := by
  unfold valS
  rw [Option.isSome_map, Bool.eq_iff_iff, decide_eq_true_iff, List.find?_isSome]
  simp only [decide_eq_true_eq, List.mem_map]
theorem putS_new {xs : SX} {k : Std} {b : Addr} {v : V} (h : k ∉ xs.map (·.1)) : putS xs k b v = xs ++ [(k, b, v)] := by
  unfold putS
  rw [valS_isSome, decide_eq_false h]
  rfl
theorem putS_keys_old {xs : SX} {k : Std} {b : Addr} {v : V} (h : k ∈ xs.map (·.1)) : (putS xs k b v).map (·.1) = xs.map (·.1) := by
  unfold putS
  rw [valS_isSome, decide_eq_true h, if_pos rfl, List.map_map]
  apply List.map_congr_left
  intro x _
  show (if x.1 = k then (x.1, x.2.1, v) else x).1 = x.1
  split <;> rfl
theorem putS_len (xs : SX) (k : Std) (b : Addr) (v : V) : (putS xs k b v).length ≤ xs.length + 1 := by
  unfold putS
  split
  · rw [List.length_map]; omega
  · simp
theorem putS_nodup {xs : SX} (hn : (xs.map (·.1)).Nodup) (k : Std) (b : Addr) (v : V) : ((putS xs k b v).map (·.1)).Nodup := by
  by_cases h : k ∈ xs.map (·.1)
  · rw [putS_keys_old h]; exact hn
  · rw [putS_new h, List.map_append]
    exact nd_snoc hn h
theorem P3.val {xs : SX} {vs : List (Std × Addr × Value)} (r : P3 xs vs) (k : Std) : RelO (valS xs k) ((atKey vs k).map (·.2)) := by
  induction r with
  | nil => exact True.intro
  | @cons p q ps qs h t ih =>
    obtain ⟨h1, _, h2⟩ := h
    by_cases e : p.1 = k
    · have e' : q.1 = k := h1.symm.trans e
      have b : atKey (q :: qs) k = some q.2 := by simp [atKey, List.find?_cons, e']
      have b' : valS (p :: ps) k = some p.2.2 := by simp [valS, List.find?_cons, e]
      rw [b', b]; exact h2
    · have e' : ¬ q.1 = k := fun z => e (h1.trans z)
      have b : atKey (q :: qs) k = atKey qs k := by simp [atKey, List.find?_cons, e']
      have b' : valS (p :: ps) k = valS ps k := by simp [valS, List.find?_cons, e]
      rw [b', b]; exact ih
theorem P3.repl {xs : SX} {vs : List (Std × Addr × Value)} (r : P3 xs vs) (k : Std) {y : V} {u : Value} (ry : RelV y u) :
    P3 (xs.map fun x => if x.1 = k then (x.1, x.2.1, y) else x) (vs.map (putAt k u)) := by
  induction r with
  | nil => exact .nil
  | @cons p q ps qs h t ih =>
    rw [List.map_cons, List.map_cons]
    refine .cons ?_ ih
    obtain ⟨h1, h2, h3⟩ := h
    unfold putAt
    by_cases e : p.1 = k
    · rw [if_pos e, if_pos (h1.symm.trans e)]; exact ⟨h1, h2, ry⟩
    · rw [if_neg e, if_neg (fun z => e (h1.trans z))]; exact ⟨h1, h2, h3⟩
theorem P3.put {xs : SX} {vs : List (Std × Addr × Value)} (r : P3 xs vs) (k : Std) (b : Addr) {y : V} {u : Value} (ry : RelV y u) : P3 (putS xs k b y) (storedH vs k b u) := by
  have e : (valS xs k).isSome = (atKey vs k).isSome := by rw [(r.val k).isSome_eq, Option.isSome_map]
  unfold putS storedH
  rw [e]
  by_cases q : (atKey vs k).isSome = true
  · rw [if_pos q, if_pos q]; exact r.repl k ry
  · rw [if_neg q, if_neg q]; exact Paired.snoc r ⟨rfl, rfl, ry⟩
theorem P3.keys {xs : SX} {vs : List (Std × Addr × Value)} (r : P3 xs vs) : xs.map (·.1) = vs.map (·.1) := by
  induction r with
  | nil => rfl
  | cons h t ih => rw [List.map_cons, List.map_cons, ih, h.1]
/-- the dict at a, read: its keys are stands -/
structure SD (K : PySem.W.Frag) (H : Hp) (a : Addr) (xs : SX) : Prop where
  at_ : H a = some (DS a xs)
  keys : ∀ p ∈ xs, IsStd K H p.2.1 p.1
section
variable {X : Cx} {pins : List (Addr × Obj)} {σ : St} {H : Hp} {s : Shared} {a : Addr} {xs : SX} {A : Around} {E : Value → Shared → Prop}
theorem row_h (I : Inv X pins σ H s) {b : Addr} {x : List (Option Int)} (h : SqT X.K H b (x.map ent)) : IsRowH s.heap x b := by
  obtain ⟨its, r, ht, _⟩ := I.tuple h
  exact ⟨its, r, ht⟩
theorem std_h (I : Inv X pins σ H s) {b : Addr} {k : Std} (h : IsStd X.K H b k) : IsStdH s.heap k b := by
  obtain ⟨p, q, h1, h2, h3⟩ := h.ex
  obtain ⟨its, r, ht, _⟩ := I.tuple h1
  cases r with
  | cons r1 r =>
    cases r with
    | cons r2 r =>
      cases r with
      | cons r3 r =>
        cases r with
        | cons r4 r =>
          cases r
          obtain ⟨t, rfl⟩ := r1
          obtain ⟨t', rfl⟩ := r2
          cases r3
          cases r4
          exact ⟨p, q, t, t', ht, row_h I h2, row_h I h3⟩
theorem IsStd.inj (I : Inv X pins σ H s) {b : Addr} {k k' : Std} (h : IsStd X.K H b k) (h' : IsStd X.K H b k') : k = k' := (std_h I h).inj (std_h I h')
theorem SD.raw (I : Inv X pins σ H s) (d : H a = some (DS a xs)) : DSφ a xs s.heap := (I.hok a _ d).1
theorem SD.dict (I : Inv X pins σ H s) (d : SD X.K H a xs) : xs.length ≤ sizeLine ∧ (a == sysModules) = false ∧ (xs.map (·.1)).Nodup ∧ ∃ vs, P3 xs vs ∧ s.heap.DictOfH (stdKind X.prog X.w) a vs := by
  obtain ⟨z, hd, hn, vs, r, o, es, ep, h1, h2, h3, h4⟩ := SD.raw I d.at_
  refine ⟨z, hd, hn, vs, r, o, es, ep, h1, h2, h3, h4, ?_, by rw [← r.keys]; exact hn⟩
  have all : ∀ {l : SX} {m : List (Std × Addr × Value)}, P3 l m → (∀ p ∈ l, IsStd X.K H p.2.1 p.1) → ∀ x ∈ m, (stdKind X.prog X.w).is s.heap x.1 x.2.1 := by
    intro l m q
    induction q with
    | nil => intro _ x hx; exact nomatch hx
    | @cons p q ps qs hq t ih =>
      intro hl x hx
      rcases List.mem_cons.mp hx with e | hx
      · subst e
        rw [← hq.1, ← hq.2.1]
        exact std_h I (hl p List.mem_cons_self)
      · exact ih (fun p hp => hl p (List.mem_cons_of_mem _ hp)) x hx
  exact all r d.keys
theorem ds_ok {P : Program} {w : World} {H' : Hp} {h' : Heap} (z : xs.length ≤ sizeLine) (hd : (a == sysModules) = false) (hn : (xs.map (·.1)).Nodup) {vs : List (Std × Addr × Value)} (r : P3 xs vs) {o : Obj} {es : Array DictEntry} {ep : Nat}
    (h1 : h'.get? a = some o) (h2 : o.ExactDict) (h3 : o.data = .dict es ep) (h4 : es.toList = vs.map stdEntry) : ObjOk P w H' h' a (DS a xs) :=
  ⟨⟨z, hd, hn, vs, r, o, es, ep, h1, h2, h3, h4⟩, ⟨o, h1⟩, fun g1 g2 ⟨z, hd, hn, vs, r, o, es, ep, h1, h2, h3, h4⟩ k => ⟨z, hd, hn, vs, r, o, es, ep, k o h1, h2, h3, h4⟩⟩
theorem ds_mut : Mut (some (DS a xs)) := True.intro
/-- d[k] = v -/
theorem s_setItem {b : Addr} {k : Std} {v : V} {r : Value} {Q : Unit → Shared → Prop} (hu : A.units + 2 < cLine) (I : Inv X pins σ H s) (d : SD X.K H a xs) (hb : IsStd X.K H b k) (hl : xs.length < sizeLine) (rv : RelV v r)
    (h : ∀ s', Inv X pins σ (upd H a (DS a (putS xs k b v))) s' → Q () s') : wpAny (model X.prog X.w) A (setItem (.ref a) (.ref b) r) Q E s := by
  obtain ⟨z, hd, hn, vs, rel, dd⟩ := d.dict I
  have hz : vs.length ≤ sizeLine := by rw [← Paired.length rel]; exact z
  refine wpAny_setItem_heap (hsz := hz) (show A.in1.units + 1 < cLine from by show A.units + 1 + 1 < cLine; omega) (std_h I hb) dd fun h' dd' hs => h _ ?_
  obtain ⟨q, es, ep, hq, h2, h3, h4, _, h5⟩ := dd'
  refine d_write I (by rw [d.at_]; exact ds_mut) hs ⟨q, hq⟩ (ds_ok (by have := putS_len xs k b v; omega) hd (putS_nodup hn k b v) (rel.put k b rv) hq h2 h3 h4)
end
/-! ### d[k], k in d, k not in d -/
def rSGet (K : PySem.W.Frag) : R2 := fun x y H Q => ∃ a b xs k v, x = .ref a ∧ y = .ref b ∧ SD K H a xs ∧ IsStd K H b k ∧ valS xs k = some v ∧ Q v H
def rSIn (K : PySem.W.Frag) (neg : Bool) : R2 := fun x y H Q => ∃ a b xs k, x = .ref b ∧ y = .ref a ∧ SD K H a xs ∧ IsStd K H b k ∧ Q (.bl (if neg then !decide (k ∈ xs.map (·.1)) else decide (k ∈ xs.map (·.1)))) H
section
variable {X : Cx}
theorem op_notInS (K : PySem.W.Frag) (hu : X.A.units + 16 < cLine) (hK : X.K = K := by rfl) : OpR X (compareOp .NotIn) (rSIn K true) := by
  subst hK
  intro pins s σ H x y v u Q I rx ry h
  obtain ⟨a, b, xs, k, rfl, rfl, d, hb, q⟩ := h
  cases rx
  cases ry
  obtain ⟨z, hd, hn, vs, rel, dd⟩ := d.dict I
  refine wpAny_notIn_heap (show X.A.in1.units + 1 < cLine from by show X.A.units + 1 + 1 < cLine; omega) (std_h I hb) hd dd ?_
  have e := (rel.val k).isSome_eq
  rw [Option.isSome_map] at e
  rw [← e, valS_isSome]
  exact ⟨.bl _, H, I.tok _, rfl, q⟩
variable {o i value : Expr} {pos pos' : Pos} {td ty tv : TE}
/-- d[k] -/
theorem pe_sget (K : PySem.W.Frag) (hu : X.A.units + 16 < cLine) (ho : PE X o td) (hi : PE X i ty) (hs : NoSl i) (hK : X.K = K := by rfl) : PE X (.Subscript o i pos) (tOp (rSGet K) td ty) := by
  subst hK
  intro pins s σ H Q I h
  refine subD_of PySem.F.slot_dict_getitem.lookup hs (thn (ho pins s σ H _ I h) fun u s1 ⟨x, H1, I1, rx, q1⟩ => thn (hi pins s1 σ H1 _ I1 q1) fun iv s2 ⟨y, H2, I2, ry, a, b, xs, k, v, ex, ey, d, hb, hv, q2⟩ => ?_)
  subst ex
  subst ey
  cases rx
  cases ry
  obtain ⟨z, hd, hn, vs, rel, dd⟩ := d.dict I2
  obtain ⟨w', hw, rw'⟩ := RelO.some_of (v := v) (o := (atKey vs k).map (·.2)) (by rw [← hv]; exact rel.val k)
  obtain ⟨p, hp, hp2⟩ := Option.map_eq_some_iff.mp hw
  refine ⟨dd.typeIs, wpAny_getItem_heap (show X.A.in1.units + 1 < cLine from by show X.A.units + 1 + 1 < cLine; omega) (std_h I2 hb) dd hp ?_⟩
  rw [hp2]
  exact ⟨v, H2, I2.tok _, rw', q2⟩
/-- d[k] = v -/
def sSPut (K : PySem.W.Frag) (td ty tv : TE) : TS := fun D σ H => tv σ H fun v H1 => td σ H1 fun x H2 => ty σ H2 fun y H3 => ∃ a b xs k, x = .ref a ∧ y = .ref b ∧ SD K H3 a xs ∧ IsStd K H3 b k ∧ xs.length < sizeLine ∧ D.nx σ (upd H3 a (DS a (putS xs k b v)))
theorem ps_sput (K : PySem.W.Frag) (hu : X.A.units + 16 < cLine) (ho : PE X o td) (hi : PE X i ty) (hv : PE X value tv) (hs : swapsWith value (some (.Subscript o i pos')) pos.line X.env = pure false) (hK : X.K = K := by rfl) :
    PS X (.Assign [.Subscript o i pos'] value pos) (sSPut K td ty tv) := by
  subst hK
  intro pins s σ H D I h
  refine wpAny_Assign_Subscript (thn (hv pins s σ H _ I h) fun r s1 ⟨v, H1, I1, rv, q1⟩ => thn (ho pins s1 σ H1 _ I1 q1) fun u s2 ⟨x, H2, I2, rx, q2⟩ => thn (hi pins s2 σ H2 _ I2 q2) fun iv s3 ⟨y, H3, I3, ry, a, b, xs, k, ex, ey, d, hb, hl, q3⟩ => ?_) hs
  subst ex
  subst ey
  cases rx
  cases ry
  exact s_setItem (by omega) I3 d hb hl rv fun s4 I4 => ⟨σ, _, I4, q3⟩
theorem ds_empty {P : Program} {w : World} {H : Hp} (h : Heap) (hb : sysModules < h.objs.size) : ObjOk P w H (h.push { cls := .type "dict", data := .dict #[] }) h.objs.size (DS h.objs.size []) :=
  ds_ok (Nat.zero_le _) (beq_eq_false_iff_ne.mpr (Ne.symm (Nat.ne_of_lt hb))) List.nodup_nil .nil (Heap.get?_push_size _ rfl) ⟨rfl, rfl, rfl⟩ (ep := 0) rfl rfl
end
end L2
namespace L2
open PySem PySem.Spec PyProof.Rows
/-! ### a dict by its entries: its length, its keys as a list -/
def DRaw (d : Addr) (es : Array DictEntry) (ep : Nat) (h : Heap) : Prop := ∃ o, h.get? d = some o ∧ o.ExactDict ∧ o.data = .dict es ep
theorem DRaw.typeIs {s : Shared} {d : Addr} {es : Array DictEntry} {ep : Nat} (x : DRaw d es ep s.heap) : s.TypeIs (.ref d) "dict" := let ⟨o, ho, hc, _⟩ := x; ⟨o, ho, hc.1⟩
theorem DRaw.lt {h : Heap} {d : Addr} {es : Array DictEntry} {ep : Nat} (x : DRaw d es ep h) : d < h.objs.size := let ⟨_, ho, _⟩ := x; Heap.lt_size ho
theorem DRaw.at_ {h h' : Heap} {d : Addr} {es : Array DictEntry} {ep : Nat} (x : DRaw d es ep h) (e : ∀ o, h.get? d = some o → h'.get? d = some o) : DRaw d es ep h' := let ⟨o, ho, r⟩ := x; ⟨o, e _ ho, r⟩
section
variable {prog : Program} {w : World} {A : Around} {E : Value → Shared → Prop} {s : Shared} {d : Addr} {es : Array DictEntry} {ep : Nat}
theorem meets_lenR (hd : (d == sysModules) = false) :
    MeetsIn prog w (Builtin.«dict.__len__» ⟨[.ref d], []⟩) (fun _ R s => ∃ es ep, DRaw d es ep s.heap ∧ R (.ok (.ret (.int es.size s.toks))) { s with toks := s.toks + 1 }) :=
  .of_wp fun A R s ⟨es, ep, ⟨o, ho, hc, hdat⟩, h⟩ => by
    refine (show wpAny _ _ (dictSize d >>= _) _ _ s from ?_)
    unfold dictSize
    refine wpAny_bind (wpAny_bind (wpAny_dictEntries ho hdat (wpAny_pure ?_)))
    refine (show wpAny _ _ (Builtin.Dict.pendingCount d >>= _) _ _ s from ?_)
    refine wpAny_bind (wpAny_pendingCount_other hd ?_)
    refine (show wpAny _ _ (retInt ((es.size : Int) + ((0 : Nat) : Int))) _ _ s from ?_)
    rw [show (es.size : Int) + ((0 : Nat) : Int) = es.size from by simp]
    exact wpAny_ret_mkInt h
theorem len_raw {Q : Value → Shared → Prop} (hd : (d == sysModules) = false) (x : DRaw d es ep s.heap) (hfit : (es.size : Int) < 2 ^ 63) (h : ∀ t s', (∃ k, s' = { s with toks := k }) → Q (.int es.size t) s') : wpAny (model prog w) A (call (.builtin "len") [.ref d]) Q E s := by
  refine Calls.call_function_entry kind_len plain_len entry_len (args_len1 _) ?_
  unfold Builtin.«len»
  refine wpAny_bind (m := oneArg "len" _) (wpAny_pure ?_)
  refine wpAny_bind (m := callSpecial? (.ref d) (Str.ofString "__len__")) (wpAny_callSpecial?_slot (name := Str.ofString "__len__") x.typeIs F.slot_dict_len
    (call_meetsIn F.slot_dict_len x.typeIs F.entry_dict_len (F.args_dict_len_1 _) (meets_lenR hd) ⟨es, ep, x, ?_⟩))
  refine (show wpAny _ _ _ _ _ { s with toks := s.toks + 1 } from ?_)
  refine wpAny_bind (wpAny_holding (wpAny_pure ?_))
  refine wpAny_bind (wpAny_letGo ?_)
  refine (show wpAny _ _ (if ((es.size : Nat) : Int) < 0 then _ else _) _ _ _ from ?_)
  rw [if_neg (by omega)]
  refine (show wpAny _ _ (if ((es.size : Nat) : Int) ≥ 2 ^ 63 then _ else _) _ _ _ from ?_)
  rw [if_neg (by omega)]
  exact wpAny_bind (wpAny_mkInt (wpAny_pure ⟨_, rfl, h _ _ ⟨_, rfl⟩⟩))
theorem iter_raw {Q : Value → Shared → Prop} (hd : (d == sysModules) = false) (x : DRaw d es ep s.heap)
    (hQ : Q (.ref s.heap.objs.size) { s with heap := s.heap.push { cls := .type "dict_keyiterator", data := .fields #[.ref d, .int 0 0, .int es.size 0, .int ep 0] } }) :
    wpAny (model prog w) A (pyIter (.ref d)) Q E s := by
  have hT := x.typeIs
  obtain ⟨o, ho, hc, hdat⟩ := x
  refine wpAny_pyIter_slot hT F.slot_dict_iter (wpAny_call_entry F.slot_dict_iter hT F.entry_dict_iter ?_ (F.args_dict_iter_1 _))
  unfold Builtin.«dict.__iter__»
  refine wpAny_bind ?_
  unfold Builtin.Dict.dictSlotNone
  refine wpAny_bind (wpAny_notOrdered_dict hT ?_)
  refine (show wpAny _ _ (pure (Value.ref d)) _ _ s from wpAny_pure ?_)
  refine (show wpAny _ _ (Builtin.Dict.showsAll d >>= _) _ _ s from ?_)
  unfold Builtin.Dict.showsAll
  rw [if_neg (by rw [hd]; exact Bool.false_ne_true)]
  refine wpAny_bind (wpAny_pure (wpAny_bind (wpAny_dictEntries ho hdat (wpAny_bind (wpAny_dictEpoch ho hdat ?_)))))
  refine wpAny_bind (wpAny_newObj_type (wpAny_pure ⟨_, rfl, "dict_keyiterator", _, ⟨_, Heap.get?_push_size _ rfl, rfl⟩, F.slot_dict_keyiterator_next.lookup, ?_⟩))
  simpa [rawInt] using hQ
theorem next_raw {it : Addr} {i : Nat} {Q : Option Value → Shared → Prop} (hit : s.heap.IsKeyIter it d i es.size ep) (x : DRaw d es ep s.heap) (hlt : i < es.size)
    (hQ : ∀ h', h'.IsKeyIter it d (i + 1) es.size ep → Heap.SameBut it s.heap h' → Q (some es[i].key) { s with heap := h' }) : wpAny (model prog w) A (pyNext (.ref it)) Q E s := by
  obtain ⟨o, ho, hc, hd⟩ := id hit
  obtain ⟨od, hod, hcd, hdd⟩ := x
  unfold pyNext
  refine wpAny_bind (wpAny_attempt (wpAny_callSpecial?_slot (name := Str.ofString "__next__") hit.typeIs F.slot_dict_keyiterator_next
    (wpAny_call_entry F.slot_dict_keyiterator_next hit.typeIs F.entry_dict_keyiterator_next ?_ (F.args_dict_keyiterator_next_1 _))))
  refine wpAny_bind (wpAny_pure ?_)
  refine wpAny_bind ?_
  refine wpAny_bind ?_
  first | refine wpAny_bind (wpAny_typeNameOfWhole_keyiter hit.typeIs (wpAny_pure ?_)) | refine wpAny_bind (wpAny_typeNameOf_keyiter hit.typeIs (wpAny_pure ?_))
  refine wpAny_bind (wpAny_fieldsOf ho hd ?_)
  have hown : Builtin.Dict_items.ownsTuple "dict_keyiterator" = false := by decide
  simp only [hown, Bool.false_eq_true, if_false]
  refine (show wpAny _ _ (if (Value.ref d == Value.none) = true then _ else _) _ _ s from ?_)
  rw [if_neg (show ¬ ((Value.ref d == Value.none) = true) from Bool.false_ne_true)]
  refine wpAny_bind (wpAny_pure (wpAny_bind (wpAny_dictEntries hod hdd ?_)))
  rw [if_neg (by simp)]
  refine wpAny_bind (wpAny_pure (wpAny_bind (wpAny_dictEpoch hod hdd ?_)))
  rw [if_neg (by simp)]
  refine wpAny_pure ?_
  simp only [show ¬ ((i : Int) < 0) from by omega, if_false, Int.toNat_natCast, Array.getElem?_eq_getElem hlt]
  refine wpAny_bind ?_
  first | refine wpAny_bind (wpAny_typeNameOfWhole_keyiter hit.typeIs (wpAny_pure ?_)) | refine wpAny_bind (wpAny_typeNameOf_keyiter hit.typeIs (wpAny_pure ?_))
  refine wpAny_bind (wpAny_isOneOf_keyiter hit.typeIs ?_)
  refine (show wpAny _ _ (setField (.ref it) 1 (rawInt ((i : Int) + 1)) >>= _) _ _ s from ?_)
  refine wpAny_bind (wpAny_setField ho hd (by simp) ?_)
  have hit' : (s.heap.update it (Obj.mapFields (·.setIfInBounds 1 (rawInt ((i : Int) + 1))))).IsKeyIter it d (i + 1) es.size ep :=
    ⟨_, Heap.get?_update_self _ ho (Obj.isFreed_of_fields (Obj.data_mapFields hd _)), (Obj.cls_mapFields ..).trans hc, by rw [Obj.data_mapFields hd]; simp [rawInt]⟩
  refine wpAny_bind (wpAny_holding ?_)
  refine wpAny_bind (wpAny_isOneOf_keyiter (s := { s with heap := s.heap.update it (Obj.mapFields (·.setIfInBounds 1 (rawInt ((i : Int) + 1)))) }) hit'.typeIs ?_)
  refine (show wpAny _ _ (pure es[i].key) _ _ _ from ?_)
  exact wpAny_pure (wpAny_pure ⟨_, rfl, wpAny_pure (hQ _ hit' (Heap.SameBut.update ..))⟩)
end
section
variable {prog : Program} {w : World} {A : Around} {E : Value → Shared → Prop} {s : Shared} {d : Addr} {es : Array DictEntry} {ep : Nat}
theorem end_raw {it : Addr} {i : Nat} {Q : Option Value → Shared → Prop} (hh : A.handled = none) (hit : s.heap.IsKeyIter it d i es.size ep) (x : DRaw d es ep s.heap) (hge : es.size ≤ i)
    (hQ : ∀ h', Heap.ExtBut it s.heap h' → Q none { s with heap := h' }) : wpAny (model prog w) A (pyNext (.ref it)) Q E s := by
  obtain ⟨o, ho, hc, hd⟩ := id hit
  obtain ⟨od, hod, hcd, hdd⟩ := x
  unfold pyNext
  refine wpAny_bind (wpAny_attempt (wpAny_callSpecial?_slot (name := Str.ofString "__next__") hit.typeIs F.slot_dict_keyiterator_next
    (wpAny_call_entry F.slot_dict_keyiterator_next hit.typeIs F.entry_dict_keyiterator_next ?_ (F.args_dict_keyiterator_next_1 _))))
  refine wpAny_bind (wpAny_pure ?_)
  refine wpAny_bind ?_
  refine wpAny_bind ?_
  first | refine wpAny_bind (wpAny_typeNameOfWhole_keyiter hit.typeIs (wpAny_pure ?_)) | refine wpAny_bind (wpAny_typeNameOf_keyiter hit.typeIs (wpAny_pure ?_))
  refine wpAny_bind (wpAny_fieldsOf ho hd ?_)
  have hown : Builtin.Dict_items.ownsTuple "dict_keyiterator" = false := by decide
  simp only [hown, Bool.false_eq_true, if_false]
  refine (show wpAny _ _ (if (Value.ref d == Value.none) = true then _ else _) _ _ s from ?_)
  rw [if_neg (show ¬ ((Value.ref d == Value.none) = true) from Bool.false_ne_true)]
  refine wpAny_bind (wpAny_pure (wpAny_bind (wpAny_dictEntries hod hdd ?_)))
  rw [if_neg (by simp)]
  refine wpAny_bind (wpAny_pure (wpAny_bind (wpAny_dictEpoch hod hdd ?_)))
  rw [if_neg (by simp)]
  refine wpAny_pure ?_
  simp only [show ¬ ((i : Int) < 0) from by omega, if_false, Int.toNat_natCast, Array.getElem?_eq_none hge]
  refine wpAny_bind ?_
  first | refine wpAny_bind (wpAny_typeNameOfWhole_keyiter hit.typeIs (wpAny_pure ?_)) | refine wpAny_bind (wpAny_typeNameOf_keyiter hit.typeIs (wpAny_pure ?_))
  refine (show wpAny _ _ (setField (.ref it) 0 .none >>= _) _ _ s from ?_)
  refine wpAny_bind (wpAny_setField ho hd (by simp) ?_)
  refine (show wpAny _ _ (newExc (.type "StopIteration") [] >>= _) _ _ _ from ?_)
  refine wpAny_bind ?_
  simp only [newExc, newTuple]
  refine wpAny_bind (wpAny_newObj_type ?_ (by size_fits))
  refine wpAny_bind (m := firstArgMember _ _) (wpAny_of_eq (a := Value.none) (by first | rfl | (simp only [firstArgMember]; rfl)) ?_)
  refine wpAny_newObj_type ?_ (by size_fits)
  simp only [raiseNew]
  refine wpAny_bind (wpAny_handled ?_)
  rw [show A.in1.handled = none from hh]
  refine wpAny_bind (wpAny_pure (wpAny_throw ?_))
  refine wpAny_bind (wpAny_isInstance (T := "StopIteration") (b := true) ⟨_, Heap.get?_push_size _ rfl, rfl⟩ isSubtype_stop ?_)
  exact wpAny_pure (hQ _ (((Heap.SameBut.update ..).extBut.push _).push _))
theorem walks_raw (hh : A.handled = none) (I : Addr) (hne : d ≠ I) : Walks prog w A I [I, d] [I] es.size (fun i v => ∃ h : i < es.size, v = es[i].key) (fun i h => h.IsKeyIter I d i es.size ep ∧ DRaw d es ep h) where
  sub := fun b hb => by simp at hb; simp [hb]
  frame := fun _ _ _ st hk => ⟨st.1.at fun o e => hk I (by simp) o e, st.2.at_ fun o e => hk d (by simp) o e⟩
  item := fun i s Q E hi st hQ => next_raw st.1 st.2 hi fun h' hit' hs' =>
    hQ _ h' s.toks ⟨hi, rfl⟩ ⟨hit', st.2.at_ fun o e => hs'.extBut d o hne e⟩ fun b o hb e => hs'.extBut b o (fun h => hb (by simp [h])) e
  done := fun s Q E st hQ => end_raw hh st.1 st.2 (Nat.le_refl _) fun h' he' => hQ h' s.toks fun b o hb e => he' b o (fun h => hb (by simp [h])) e
  self := fun _ _ _ _ st hQ => wpAny_pyIter_keyiter st.1 hQ
theorem src_raw (lo : (d == sysModules) = false) : PySem.W.KdlSrc prog w "dict" d d es.size (fun i v => ∃ h : i < es.size, v = es[i].key) (DRaw d es ep) where
  type := fun _ hm => hm.typeIs
  there := fun _ hm => ⟨hm.lt, hm.lt⟩
  keep := fun _ _ hm hk => hm.at_ fun o e => hk d (.inl rfl) o e
  notList := by decide
  notTuple := by decide
  hint := fun _ _ _ _ hm hq => PySem.W.kdl_hint_dict hm.typeIs hq
  iter := fun _ _ hh hm => ⟨_, _, (fun _ _ hq => iter_raw lo hm hq), walks_raw hh _ (Nat.ne_of_lt hm.lt), ⟨⟨_, Heap.get?_push_size _ rfl, rfl, rfl⟩, hm.at_ fun o e => Heap.get?_push_of_some _ e⟩⟩
end
theorem P3.addrs {xs : SX} {vs : List (Std × Addr × Value)} (r : P3 xs vs) : Vals (xs.map fun p => V.ref p.2.1) (vs.map fun q => Value.ref q.2.1) := by
  induction r with
  | nil => exact .nil
  | @cons p q ps qs h t ih =>
    refine .cons ?_ ih
    show Value.ref q.2.1 = Value.ref p.2.1
    rw [h.2.1]
section
variable {X : Cx}
/-- len(d) -/
theorem call_lenS : CallR X (.builtin "len") (fun vs H Q => ∃ a xs, vs = [V.ref a] ∧ H a = some (DS a xs) ∧ Q (.int xs.length) H) := by
  intro pins s σ H vs us Q I r h
  obtain ⟨a, xs, rfl, ha, q⟩ := h
  obtain ⟨u, rfl, ru⟩ := vals1 r
  cases ru
  obtain ⟨z, hd, hn, ws, rel, o, es, ep, h1, h2, h3, h4⟩ := SD.raw I ha
  have hl : es.size = xs.length := by
    have := congrArg List.length h4
    simp only [Array.length_toList, List.length_map] at this
    rw [this, ← Paired.length rel]
  refine len_raw hd ⟨o, h1, h2, h3⟩ (by rw [hl]; rw [sizeLine_eq] at z; omega) fun t s' ⟨k, e⟩ => ?_
  subst e
  exact ⟨.int xs.length, H, I.tok _, ⟨t, by rw [hl]⟩, q⟩
/-- list(d): its keys -/
theorem call_listS : CallR X (.type "list") (fun vs H Q => X.calm = true ∧ ∃ a xs, vs = [V.ref a] ∧ H a = some (DS a xs) ∧ ∀ l, H l = none → Q (.ref l) (upd H l (.lst (xs.map fun p => V.ref p.2.1)))) := by
  intro pins s σ H vs us Q I r h
  obtain ⟨hc, a, xs, rfl, ha, q⟩ := h
  obtain ⟨u, rfl, ru⟩ := vals1 r
  cases ru
  obtain ⟨z, hd, hn, ws, rel, o, es, ep, h1, h2, h3, h4⟩ := SD.raw I ha
  have hl : es.size = xs.length := by
    have := congrArg List.length h4
    simp only [Array.length_toList, List.length_map] at this
    rw [this, ← Paired.length rel]
  refine PySem.W.kdl_call (src_raw (es := es) (ep := ep) hd) (I.ok.hd hc) ⟨o, h1, h2, h3⟩ (by rw [hl]; exact z) fun h' tk acc' c' hk hD hacc => ?_
  have ea : acc'.toList = ws.map fun q => Value.ref q.2.1 := by
    obtain ⟨a1, a2⟩ := hacc
    apply List.ext_getElem?
    intro j
    by_cases hj : j < es.size
    · have hj' : j < acc'.size := by rw [a1]; exact hj
      obtain ⟨_, g⟩ := a2 j acc'[j] (by simp [hj'])
      have e1 : acc'.toList[j]? = some acc'[j] := by simp [hj']
      rw [e1, g]
      have e2 : es.toList[j]? = some es[j] := by simp [hj]
      rw [h4, List.getElem?_map] at e2
      rw [List.getElem?_map]
      cases ew : ws[j]? with
      | none => rw [ew] at e2; cases e2
      | some q =>
        rw [ew] at e2
        have e3 : stdEntry q = es[j] := Option.some.inj e2
        rw [← e3]
        rfl
    · have l1 : acc'.toList[j]? = none := by simp; rw [a1]; omega
      have l2 : ws.length = es.size := by rw [hl, Paired.length rel]
      rw [l1, List.getElem?_eq_none (by rw [List.length_map, l2]; omega)]
  have ea' : acc' = (ws.map fun q => Value.ref q.2.1).toArray := by apply Array.ext'; rw [ea]
  subst ea'
  refine ⟨.ref _, _, I.laid (t' := tk) (o := .lst (xs.map fun p => V.ref p.2.1)) (a := s.heap.objs.size) hk (Nat.le_refl _) ⟨by rw [List.length_map]; exact z, _, c', ?_, hD⟩, rfl, q _ (I.hok.fresh (Nat.le_refl _))⟩
  exact P3.addrs rel
/-- {k: v} -/
def tSOne (K : PySem.W.Frag) (tk tv : TE) : TE := fun σ H Q => ∀ p, H p = none → tk σ (upd H p (DS p [])) fun x H1 => tv σ H1 fun y H2 => ∃ b k, x = .ref b ∧ H2 p = some (DS p []) ∧ IsStd K H2 b k ∧ Q (.ref p) (upd H2 p (DS p [(k, b, y)]))
theorem pe_sone (K : PySem.W.Frag) (hu : X.A.units + 16 < cLine) {k v : Expr} {tk tv : TE} {pos : Pos} (hk : PE X k tk) (hv : PE X v tv) (hK : X.K = K := by rfl) : PE X (.Dict [some k] [v] pos) (tSOne K tk tv) := by
  subst hK
  intro pins s σ H Q I q
  have hn := I.hok.fresh (Nat.le_refl s.heap.objs.size)
  have I1 := I.laid (a := s.heap.objs.size) (o := DS s.heap.objs.size []) (h' := s.heap.push { cls := .type "dict", data := .dict #[] }) (t' := s.toks) (fun _ _ q => Heap.get?_push_of_some _ q) (Nat.le_refl _) (ds_empty s.heap I.big)
  refine wpAny_Dict_any rfl rfl (by simp) (by simp) (pairTrees_cons_walk (thn (hk pins _ σ _ _ I1 (q _ hn)) fun u s1 ⟨x, H1, I2, rx, q1⟩ => thn (hv pins s1 σ H1 _ I2 q1) fun r s2 ⟨y, H2, I3, ry, b, k, ex, hp, hb, q2⟩ => pairTrees_nil_walk ?_))
  subst ex
  cases rx
  unfold storeAll
  rw [List.forIn_cons]
  obtain ⟨z, hd, hnd, vs, rel, dd⟩ := SD.dict I3 ⟨hp, fun p hp => nomatch hp⟩
  cases rel
  refine wpAny_bind (wpAny_bind (wpAny_dictSet_heap (hsz := Nat.zero_le _) (show X.A.units + 1 < cLine from by omega) (std_h I3 hb) dd fun h' dd' hs => wpAny_pure ?_))
  refine (show wpAny _ _ (forIn [] PUnit.unit _) _ _ _ from ?_)
  rw [List.forIn_nil]
  refine wpAny_pure ⟨.ref s.heap.objs.size, _, ?_, rfl, q2⟩
  obtain ⟨o', es, ep, hq, h2, h3, h4, _, h5⟩ := dd'
  exact d_write I3 (by rw [hp]; exact ds_mut) hs ⟨o', hq⟩ (ds_ok (by show 1 ≤ sizeLine; decide) hd (by simp) (.cons ⟨rfl, rfl, ry⟩ .nil) hq h2 h3 h4)
end
end L2
namespace L2
open PySem PySem.Spec PyProof.Rows
/-! ### dict(pairs) of a list of pairs, the first of each a stand -/
theorem list_nokeys : typeLookup (.type "list") "keys" = pure none := by rw [typeLookup_type, builtinLookup_eq_fast]; kernel_rfl
theorem plain_upd : plainId "dict.update.loop" = true := by decide +kernel
theorem entry_upd : entryFor table "dict.update.loop" = some Builtin.«dict.update.loop» := entryFor_of_tree (by kernel_rfl)
theorem keys_miss {prog : Program} {w : World} {A : Around} {E : Value → Shared → Prop} {s : Shared} {a : Addr} {xs : Array Value} {k : Nat} {Q : Option Value → Shared → Prop}
    (hx : s.heap.get? a = some { cls := .type "list", data := .seq xs k }) (hA : A.handled = none)
    (h : ∀ h' tk, (∀ b o, s.heap.get? b = some o → h'.get? b = some o) → Q none { s with heap := h', toks := tk }) : wpAny (model prog w) A (getAttr? (.ref a) "keys") Q E s := by
  obtain ⟨hp, g, d, tk, os⟩ := s
  have hT : ∀ tk', (⟨hp, g, d, tk', os⟩ : Shared).TypeIs (.ref a) "list" := fun _ => ⟨_, hx, rfl⟩
  have f1 := sub_AttributeError
  have f3 := F.slot_list_getattribute.lookup
  have f4 := F.slot_list_getattribute.bind (.ref a)
  have f5 := am_list_getattr_none
  unfold getAttr? getAttrBy? getAttrBy
  repeat (any_goals (first | assumption | exact hT _ | ((with_reducible show wpAny _ _ (call (Value.builtin "list.__getattribute__") _ _) _ _ _); refine call_meets F.slot_list_getattribute (hT _) am_entry_list_getattribute (F.args_list_getattribute_2 _ _) (meets_getattribute_miss_list a xs k _ "keys" _ list_nokeys (by decide)) ⟨hx, hA, fun h' tk' e hx' => ?_⟩) | wp_step))
  obtain ⟨t', u', he⟩ := hx'.there
  refine (show wpAny _ _ (getattributeRaised _ _ _ _ _ _ _) _ _ _ from ?_)
  unfold getattributeRaised
  have hE : ∀ tk', (⟨h', g, d, tk', os⟩ : Shared).TypeIs (.ref e) "AttributeError" := fun _ => ⟨_, he, rfl⟩
  repeat (any_goals (first | assumption | exact hE _ | wp_step))
  exact h _ _ hx'.keeps
theorem IsRowH.at_ {h h' : Heap} {x : List (Option Int)} {a : Addr} (r : IsRowH h x a) (k : ∀ b o, h.get? b = some o → h'.get? b = some o) : IsRowH h' x a := by
  obtain ⟨its, r, o, ho, z⟩ := r
  exact ⟨its, r, o, k _ _ ho, z⟩
theorem IsStdH.at_ {h h' : Heap} {x : Std} {a : Addr} (r : IsStdH h x a) (k : ∀ b o, h.get? b = some o → h'.get? b = some o) : IsStdH h' x a := by
  obtain ⟨b, c, t, t', ⟨o, ho, z⟩, h1, h2⟩ := r
  exact ⟨b, c, t, t', ⟨o, k _ _ ho, z⟩, h1.at_ k, h2.at_ k⟩
abbrev RQ := Addr × Std × Addr × Value
section
variable {prog : Program} {w : World} {A : Around} {h0 : Heap} {d it l : Addr} {L : List RQ}
theorem upd_loop (hu : A.units + 3 < cLine) (hh : A.handled = none) (hL : h0.IsList l (L.map fun q => Value.ref q.1).toArray) (hq : ∀ q ∈ L, h0.IsTuple q.1 #[.ref q.2.2.1, q.2.2.2] ∧ IsStdH h0 q.2.1 q.2.2.1)
    (hd : h0.objs.size ≤ d) (hi : h0.objs.size ≤ it) (hdi : d ≠ it) (hz : L.length ≤ sizeLine) :
    ∀ (rest done : List RQ) (s : Shared) (R : Result → Shared → Prop), L = done ++ rest → (∀ b o, h0.get? b = some o → s.heap.get? b = some o) → s.heap.IsListIter it l done.length →
      s.heap.DictOfH (stdKind prog w) d (done.foldl (fun acc q => storedH acc q.2.1 q.2.2.1 q.2.2.2) []) →
      (∀ h' tk, (∀ b o, h0.get? b = some o → h'.get? b = some o) → h'.DictOfH (stdKind prog w) d (L.foldl (fun acc q => storedH acc q.2.1 q.2.2.1 q.2.2.2) []) → R (.ok (.ret .none)) { s with heap := h', toks := tk }) →
      codeAny (model prog w) A (.builtin "dict.update.loop" ⟨[.ref d, .ref it, rawInt done.length, .none], []⟩) R s := by
  intro rest
  have olds : ∀ {h h' : Heap} {x : Addr}, h0.objs.size ≤ x → (∀ b o, h0.get? b = some o → h.get? b = some o) → Heap.ExtBut x h h' → ∀ b o, h0.get? b = some o → h'.get? b = some o :=
    fun hx k e b o hb => e b o (fun z => absurd (Heap.lt_size hb) (by rw [z]; exact Nat.not_lt.mpr hx)) (k b o hb)
  have lens : ∀ (m : List RQ), (m.foldl (fun acc q => storedH acc q.2.1 q.2.2.1 q.2.2.2) ([] : List (Std × Addr × Value))).length ≤ m.length := by
    have gen : ∀ (m : List RQ) (acc : List (Std × Addr × Value)), (m.foldl (fun acc q => storedH acc q.2.1 q.2.2.1 q.2.2.2) acc).length ≤ acc.length + m.length := by
      intro m
      induction m with
      | nil => intro acc; exact Nat.le_refl _
      | cons q m ih =>
        intro acc
        rw [List.foldl_cons]
        have h1 := ih (storedH acc q.2.1 q.2.2.1 q.2.2.2)
        have h2 : (storedH acc q.2.1 q.2.2.1 q.2.2.2).length ≤ acc.length + 1 := by
          unfold storedH
          split
          · rw [List.length_map]; omega
          · simp
        rw [List.length_cons]
        omega
    intro m
    have := gen m []
    simpa using this
  induction rest with
  | nil =>
    intro done s R e k hit dd hR
    rw [List.append_nil] at e
    subst e
    refine codeAny_builtin entry_upd ?_
    rw [Around.under_plainId plain_upd _]
    refine (show wpAny _ A.in1 (pyNext (.ref it) >>= _) _ _ s from ?_)
    obtain ⟨ol, hol, zl⟩ := hL
    refine wpAny_bind (wpAny_pyNext_list_end hh hit ⟨ol, k _ _ hol, zl⟩ (by simp) fun h' eb => ?_)
    refine (show wpAny _ A.in1 (Builtin.Dict.addKeywords d [] >>= _) _ _ _ from ?_)
    refine wpAny_bind (wpAny_pure (wpAny_pure (hR h' s.toks (olds hi k eb) ?_)))
    obtain ⟨o, es, ep, g1, g2, g3, g4, g5, g6⟩ := dd
    refine ⟨o, es, ep, eb d o hdi g1, g2, g3, g4, fun x hx => ?_, g6⟩
    obtain ⟨b, c, t, t', ht, ⟨i1, r1, p1⟩, ⟨i2, r2, p2⟩⟩ := (show IsStdH s.heap x.1 x.2.1 from g5 x hx)
    have mv : ∀ {a : Addr} {y : Array Value}, s.heap.IsTuple a y → h'.IsTuple a y := by
      intro a y hy
      obtain ⟨o', ho', hc', n', hd'⟩ := hy
      refine ⟨o', eb a o' (fun z => ?_) ho', hc', n', hd'⟩
      obtain ⟨oi, hoi, hci, _⟩ := hit
      rw [z, hoi] at ho'
      obtain rfl := Option.some.inj ho'
      rw [hci] at hc'
      exact absurd hc' (by decide)
    exact ⟨b, c, t, t', mv ht, ⟨i1, r1, mv p1⟩, ⟨i2, r2, mv p2⟩⟩
  | cons q rest ih =>
    intro done s R e k hit dd hR
    refine codeAny_builtin entry_upd ?_
    rw [Around.under_plainId plain_upd _]
    refine (show wpAny _ A.in1 (pyNext (.ref it) >>= _) _ _ s from ?_)
    obtain ⟨ol, hol, zl⟩ := hL
    have hx : (L.map fun q => Value.ref q.1).toArray[done.length]? = some (.ref q.1) := by rw [e]; simp
    refine wpAny_bind (wpAny_pyNext_list_item hit ⟨ol, k _ _ hol, zl⟩ hx fun h' hit' hs => ?_)
    have k' := olds hi k hs.extBut
    obtain ⟨⟨ot, hot, hct, nt, hdt⟩, hstd⟩ := hq q (by rw [e]; simp)
    have dd' : h'.DictOfH (stdKind prog w) d (done.foldl (fun acc q => storedH acc q.2.1 q.2.2.1 q.2.2.2) []) := by
      obtain ⟨o, es, ep, g1, g2, g3, g4, g5, g6⟩ := dd
      refine ⟨o, es, ep, hs.extBut d o hdi g1, g2, g3, g4, fun x hx => ?_, g6⟩
      obtain ⟨b, c, t, t', ht, ⟨i1, r1, p1⟩, ⟨i2, r2, p2⟩⟩ := (show IsStdH s.heap x.1 x.2.1 from g5 x hx)
      have mv : ∀ {a : Addr} {y : Array Value}, s.heap.IsTuple a y → h'.IsTuple a y := by
        intro a y hy
        obtain ⟨o', ho', hc', n', hd'⟩ := hy
        refine ⟨o', hs.extBut a o' (fun z => ?_) ho', hc', n', hd'⟩
        obtain ⟨oi, hoi, hci, _⟩ := hit
        rw [z, hoi] at ho'
        obtain rfl := Option.some.inj ho'
        rw [hci] at hc'
        exact absurd hc' (by decide)
      exact ⟨b, c, t, t', mv ht, ⟨i1, r1, mv p1⟩, ⟨i2, r2, mv p2⟩⟩
    refine (show wpAny _ A.in1 (holding [Value.ref q.1] _ >>= _) _ _ _ from ?_)
    refine wpAny_bind (wpAny_holding ?_)
    refine wpAny_bind (wpAny_tryCatch ?_)
    unfold Builtin.Dict.pairItems
    refine wpAny_bind (wpAny_typeOf (T := "tuple") ⟨ot, k' _ _ hot, hct⟩ ?_)
    refine wpAny_ite_split (fun _ => ?_) (fun z => absurd (by decide) z)
    refine wpAny_bind (wpAny_seqItems (k' _ _ hot) hdt (wpAny_pure ?_))
    refine (show wpAny _ A.in1 (holding [Value.ref q.2.2.1, q.2.2.2] (dictSet d (.ref q.2.2.1) q.2.2.2)) _ _ _ from ?_)
    have hle := lens done
    have hll : done.length + (rest.length + 1) = L.length := by rw [e]; simp
    refine wpAny_holding (wpAny_dictSet_heap (hsz := by omega) (show A.in1.units + 1 < cLine from by show A.units + 1 + 1 < cLine; omega) (hstd.at_ k') dd' fun h2 dd2 hs2 => ?_)
    refine wpAny_pure ⟨plainId_quiet plain_upd _, ?_⟩
    have hit2 : h2.IsListIter it l (done.length + 1) := by
      obtain ⟨oi, hoi, zi⟩ := hit'
      exact ⟨oi, (hs2.2 it (Ne.symm hdi)).trans hoi, zi⟩
    have hr : rawInt ((done.length : Int) + 1) = rawInt ((done ++ [q]).length : Int) := by simp
    rw [hr]
    refine ih (done ++ [q]) _ R (by rw [e]; simp) (olds hd k' hs2.extBut) (by simpa using hit2) (by simpa using dd2) fun h3 tk k3 dd3 => ?_
    exact hR h3 tk k3 dd3
end
abbrev VQ := Addr × Std × Addr × V
abbrev PQ : List VQ → List RQ → Prop := Paired fun p q => p.1 = q.1 ∧ p.2.1 = q.2.1 ∧ p.2.2.1 = q.2.2.1 ∧ RelV p.2.2.2 q.2.2.2
def allS (L : List VQ) : SX := L.foldl (fun acc q => putS acc q.2.1 q.2.2.1 q.2.2.2) []
theorem PQ.fold {L : List VQ} {M : List RQ} (r : PQ L M) : ∀ {acc : SX} {acc' : List (Std × Addr × Value)}, P3 acc acc' → P3 (L.foldl (fun acc q => putS acc q.2.1 q.2.2.1 q.2.2.2) acc) (M.foldl (fun acc q => storedH acc q.2.1 q.2.2.1 q.2.2.2) acc') := by
  induction r with
  | nil => intro acc acc' h; exact h
  | @cons p q ps qs h t ih =>
    intro acc acc' ha
    rw [List.foldl_cons, List.foldl_cons]
    refine ih ?_
    have := ha.put p.2.1 p.2.2.1 h.2.2.2
    rw [h.2.1, h.2.2.1] at this
    rw [h.2.1, h.2.2.1]
    exact this
theorem allS_len (L : List VQ) : (allS L).length ≤ L.length := by
  have gen : ∀ (L : List VQ) (acc : SX), (L.foldl (fun acc q => putS acc q.2.1 q.2.2.1 q.2.2.2) acc).length ≤ acc.length + L.length := by
    intro L
    induction L with
    | nil => intro acc; exact Nat.le_refl _
    | cons q L ih =>
      intro acc
      rw [List.foldl_cons, List.length_cons]
      have h1 := ih (putS acc q.2.1 q.2.2.1 q.2.2.2)
      have h2 := putS_len acc q.2.1 q.2.2.1 q.2.2.2
      omega
  have := gen L []
  simpa [allS] using this
theorem allS_nodup (L : List VQ) : ((allS L).map (·.1)).Nodup := by
  have gen : ∀ (L : List VQ) (acc : SX), (acc.map (·.1)).Nodup → ((L.foldl (fun acc q => putS acc q.2.1 q.2.2.1 q.2.2.2) acc).map (·.1)).Nodup := by
    intro L
    induction L with
    | nil => intro acc h; exact h
    | cons q L ih => intro acc h; exact ih _ (putS_nodup h _ _ _)
  exact gen L [] List.nodup_nil
section
variable {X : Cx} {pins : List (Addr × Obj)} {σ : St} {H : Hp} {s : Shared}
theorem raws (I : Inv X pins σ H s) : ∀ (L : List VQ), (∀ q ∈ L, SqT X.K H q.1 [.ref q.2.2.1, q.2.2.2] ∧ IsStd X.K H q.2.2.1 q.2.1) →
    ∃ M : List RQ, PQ L M ∧ (∀ q ∈ M, s.heap.IsTuple q.1 #[.ref q.2.2.1, q.2.2.2] ∧ IsStdH s.heap q.2.1 q.2.2.1)
  | [], _ => ⟨[], .nil, fun q hq => nomatch hq⟩
  | p :: L, h => by
    obtain ⟨M, r, hM⟩ := raws I L fun q hq => h q (List.mem_cons_of_mem _ hq)
    obtain ⟨h1, h2⟩ := h p List.mem_cons_self
    obtain ⟨its, rv, ht, _⟩ := I.tuple h1
    cases rv with
    | cons r1 rv =>
      cases rv with
      | @cons _ u _ _ r2 rv =>
        cases rv
        cases r1
        refine ⟨(p.1, p.2.1, p.2.2.1, u) :: M, .cons ⟨rfl, rfl, rfl, r2⟩ r, fun q hq => ?_⟩
        rcases List.mem_cons.mp hq with e | hq
        · subst e
          exact ⟨ht, std_h I h2⟩
        · exact hM q hq
theorem PQ.refs {L : List VQ} {M : List RQ} (r : PQ L M) : ∀ {its : List Value}, Vals (L.map fun q => V.ref q.1) its → its = M.map fun q => Value.ref q.1 := by
  induction r with
  | nil => intro its h; cases h; rfl
  | @cons p q ps qs h t ih =>
    intro its hv
    cases hv with
    | cons r1 rv =>
      cases r1
      rw [ih rv, List.map_cons, h.1]
end
theorem call_dictS {X : Cx} (hu : X.A.units + 16 < cLine) : CallR X (.type "dict") (fun vs H Q => X.calm = true ∧ ∃ (l : Addr) (L : List VQ), vs = [V.ref l] ∧ H l = some (.lst (L.map fun q => V.ref q.1)) ∧
    (∀ q ∈ L, SqT X.K H q.1 [.ref q.2.2.1, q.2.2.2] ∧ IsStd X.K H q.2.2.1 q.2.1) ∧ ∀ p, H p = none → Q (.ref p) (upd H p (DS p (allS L)))) := by
  intro pins s σ H vs us Q I r h
  obtain ⟨hc, l, L, rfl, hl, hq, q⟩ := h
  obtain ⟨u, rfl, ru⟩ := vals1 r
  cases ru
  obtain ⟨M, rM, hM⟩ := raws I L hq
  obtain ⟨its, n, rv, ho, hz⟩ := I.lst hl
  obtain rfl := rM.refs rv
  rw [List.length_map] at hz
  have hlen : L.length = M.length := Paired.length rM
  refine callType_codes (Q₁ := fun obj s₁ => obj = .ref s.heap.objs.size ∧ s₁ = { s with heap := s.heap.push { cls := .type "dict", data := .dict #[] } }) F.kt_called_dict (F.kt_typeCall_dict_1 _) F.entry_dict_init (kt_code_dict_new _ ⟨rfl, rfl⟩) ?_
  rintro obj s₁ ⟨rfl, rfl⟩
  have hnew : (s.heap.push { cls := .type "dict", data := .dict #[] }).get? s.heap.objs.size = some { cls := .type "dict", data := .dict #[] } := Heap.get?_push_size _ rfl
  have hT : (⟨s.heap.push { cls := .type "dict", data := .dict #[] }, s.gens, s.drawn, s.toks, s.os⟩ : Shared).TypeIs (.ref s.heap.objs.size) "dict" := ⟨_, hnew, rfl⟩
  refine ⟨hT, F.args_dict_init_2 _ _, ?_⟩
  unfold Builtin.«dict.__init__»
  refine wpAny_bind ?_
  unfold Builtin.Dict.selfAndRest
  refine wpAny_bind (wpAny_notOrdered_dict hT ?_)
  refine (show wpAny _ _ (pure (s.heap.objs.size, [Value.ref l])) _ _ _ from wpAny_pure ?_)
  refine (show wpAny _ _ (Builtin.Dict.updateFrom "dict.__init__" s.heap.objs.size (.ref l) [] .none) _ _ _ from ?_)
  unfold Builtin.Dict.updateFrom
  have ho1 : (s.heap.push { cls := .type "dict", data := .dict #[] }).get? l = some { cls := .type "list", data := .seq (M.map fun q => Value.ref q.1).toArray n } := Heap.get?_push_of_some _ ho
  refine wpAny_bind (wpAny_typeOf (T := "list") ⟨_, ho1, rfl⟩ ?_)
  refine wpAny_ite_split (fun _ => ?_) (fun z => absurd (by decide) z)
  refine wpAny_bind (keys_miss (xs := (M.map fun q => Value.ref q.1).toArray) (k := n) ho1 (I.ok.hd hc) fun h2 tk2 k2 => ?_)
  refine wpAny_ite_split (fun _ => ?_) (fun z => absurd rfl z)
  refine wpAny_bind (wpAny_rule ?_)
  have hl2 : h2.IsList l (M.map fun q => Value.ref q.1).toArray := ⟨_, k2 _ _ ho1, rfl, n, rfl⟩
  refine wpAny_bind (wpAny_pyIter_list hl2 ?_)
  have k0 : ∀ b o, s.heap.get? b = some o → (h2.push { cls := .type "list_iterator", data := .fields #[.ref l, .int 0 0] }).get? b = some o := fun b o e => Heap.get?_push_of_some _ (k2 b o (Heap.get?_push_of_some _ e))
  have hlt2 : s.heap.objs.size < h2.objs.size := Heap.lt_size (k2 _ _ hnew)
  refine wpAny_pure ⟨plainId_quiet plain_upd _, ?_⟩
  refine (show codeAny _ _ (.builtin "dict.update.loop" ⟨[.ref s.heap.objs.size, .ref h2.objs.size, rawInt (([] : List RQ).length : Nat), .none], []⟩) _ _ from ?_)
  have hu' : X.A.in1.units + 3 < cLine := by show X.A.units + 1 + 3 < cLine; omega
  refine upd_loop (h0 := s.heap) (L := M) (l := l) (A := X.A.in1) hu' (I.ok.hd hc) ⟨_, ho, rfl, n, rfl⟩ hM (Nat.le_refl _) (Nat.le_of_lt hlt2) (Nat.ne_of_lt hlt2) (by omega) M [] _ _ ?_ ?_ ?_ ?_ ?_
  · rfl
  · exact k0
  · exact (show (h2.push { cls := .type "list_iterator", data := .fields #[.ref l, .int 0 0] }).IsListIter h2.objs.size l 0 from ⟨_, Heap.get?_push_size _ rfl, rfl, rfl⟩)
  · refine (show (h2.push { cls := .type "list_iterator", data := .fields #[.ref l, .int 0 0] }).DictOfH (stdKind X.prog X.w) s.heap.objs.size [] from ?_)
    exact ⟨_, #[], 0, Heap.get?_push_of_some _ (k2 _ _ hnew), ⟨rfl, rfl, rfl⟩, rfl, rfl, (fun x hx => by cases hx), List.nodup_nil⟩
  · intro h3 tk3 k3 dd
    refine ⟨rfl, .ref s.heap.objs.size, _, I.laid (a := s.heap.objs.size) (o := DS s.heap.objs.size (allS L)) (t' := tk3) k3 (Nat.le_refl _) ?_, rfl, q _ (I.hok.fresh (Nat.le_refl _))⟩
    obtain ⟨o', es, ep, g1, g2, g3, g4, _, g6⟩ := dd
    exact ds_ok (by have := allS_len L; omega) (beq_eq_false_iff_ne.mpr (Ne.symm (Nat.ne_of_lt I.big))) (allS_nodup L) (PQ.fold rM .nil) g1 g2 g3 g4
end L2
namespace L2
open PySem PySem.Spec PyProof.Rows
/-! ### a stand in a list of stands; list.insert -/
theorem SD.same {K : PySem.W.Frag} {H H' : Hp} {a : Addr} {xs : SX} (h : SD K H a xs) (e : Same H H') : SD K H' a xs := ⟨e _ _ h.at_, fun p hp => (h.keys p hp).same e⟩
/-- what is no tuple changes -/
theorem tup_upd {K : PySem.W.Frag} {H : Hp} {l a : Addr} {o' o : HO} {xs : List V} (hl : H l = some o') (hn : ∀ ys, o' ≠ .tup ys) (hf : ∀ u ys, o' ≠ .frz u (.tup ys)) (h : SqT K H a xs) : SqT K (upd H l o) a xs := by
  rcases h with (h | ⟨u, h⟩) | h
  · exact .inl (.inl (by rw [upd_ne (fun z => by rw [z, hl] at h; exact hn _ (Option.some.inj h))]; exact h))
  · exact .inl (.inr ⟨u, by rw [upd_ne (fun z => by rw [z, hl] at h; exact hf _ _ (Option.some.inj h))]; exact h⟩)
  · exact .inr h
theorem IsStd.updL {K : PySem.W.Frag} {H : Hp} {l a : Addr} {ys : List V} {o : HO} {s : Std} (h : IsStd K H a s) (hl : H l = some (.lst ys)) : IsStd K (upd H l o) a s := by
  obtain ⟨b, c, h1, h2, h3⟩ := h.ex
  have n1 : ∀ zs, HO.lst ys ≠ .tup zs := fun _ e => nomatch e
  have n2 : ∀ u zs, HO.lst ys ≠ .frz u (.tup zs) := fun _ _ e => nomatch e
  exact ⟨b, c, tup_upd hl n1 n2 h1, tup_upd hl n1 n2 h2, tup_upd hl n1 n2 h3⟩
theorem IsStd.updD {K : PySem.W.Frag} {H : Hp} {l a : Addr} {ys : SX} {o : HO} {s : Std} (h : IsStd K H a s) (hl : H l = some (DS l ys)) : IsStd K (upd H l o) a s := by
  obtain ⟨b, c, h1, h2, h3⟩ := h.ex
  have n1 : ∀ zs, DS l ys ≠ .tup zs := fun _ e => nomatch e
  have n2 : ∀ u zs, DS l ys ≠ .frz u (.tup zs) := fun _ _ e => nomatch e
  exact ⟨b, c, tup_upd hl n1 n2 h1, tup_upd hl n1 n2 h2, tup_upd hl n1 n2 h3⟩
theorem SD.updL {K : PySem.W.Frag} {H : Hp} {l a : Addr} {ys : List V} {o : HO} {xs : SX} (h : SD K H a xs) (hl : H l = some (.lst ys)) : SD K (upd H l o) a xs :=
  ⟨by rw [upd_ne (fun z => by have := h.at_; rw [z, hl] at this; cases this)]; exact h.at_, fun p hp => (h.keys p hp).updL hl⟩
theorem putS_keys_are {K : PySem.W.Frag} {H : Hp} {xs : SX} {k : Std} {b : Addr} {v : V} (h : ∀ p ∈ xs, IsStd K H p.2.1 p.1) (hb : IsStd K H b k) : ∀ p ∈ putS xs k b v, IsStd K H p.2.1 p.1 := by
  intro p hp
  unfold putS at hp
  split at hp
  · rw [List.mem_map] at hp
    obtain ⟨q, hq, rfl⟩ := hp
    split
    · exact h q hq
    · exact h q hq
  · rcases List.mem_append.mp hp with hp | hp
    · exact h p hp
    · rw [List.mem_singleton.mp hp]; exact hb
theorem SD.put {K : PySem.W.Frag} {H : Hp} {a b : Addr} {xs : SX} {k : Std} {v : V} (h : SD K H a xs) (hb : IsStd K H b k) : SD K (upd H a (DS a (putS xs k b v))) a (putS xs k b v) :=
  ⟨upd_same, fun p hp => (putS_keys_are h.keys hb p hp).updD h.at_⟩
section
variable {X : Cx} {pins : List (Addr × Obj)} {σ : St} {H : Hp} {s : Shared}
end
section
variable {X : Cx}
end
end L2
namespace L2
open PySem PySem.Spec PyProof.Rows
/-! two stands compared -/
section
variable {A : Around} {s : Shared}
def stdE (x y : Std) (j : Nat) : Bool := if j = 0 then (x.ah == y.ah) else if j = 1 then (x.rs == y.rs) else if j = 2 then decide (x.se = y.se) else decide (x.to = y.to)
theorem stdE_all (x y : Std) : ((List.range (min 4 4)).all (stdE x y) && ((4 : Nat) == 4)) = decide (x = y) := by
  have e4 : List.range (min 4 4) = [0, 1, 2, 3] := rfl
  rw [e4]
  unfold stdE
  cases x; cases y
  rw [Bool.eq_iff_iff]
  simp
theorem std_items {x y : Std} {b1 c1 b2 c2 : Addr} {t1 u1 t2 u2 : Tok} (hu : A.units + 1 < cLine) (g1 : IsRowH s.heap x.se b1) (g2 : IsRowH s.heap x.to c1) (k1 : IsRowH s.heap y.se b2) (k2 : IsRowH s.heap y.to c2) :
    ∀ j (h1 : j < (#[Value.int x.ah t1, .int x.rs u1, .ref b1, .ref c1]).size) (h2 : j < (#[Value.int y.ah t2, .int y.rs u2, .ref b2, .ref c2]).size), SeqAt.EqAt A.in1 s (#[Value.int x.ah t1, .int x.rs u1, .ref b1, .ref c1])[j] (#[Value.int y.ah t2, .int y.rs u2, .ref b2, .ref c2])[j] (stdE x y j) := by
  intro j h1 h2
  match j, h1, h2 with
  | 0, _, _ => exact SeqAt.EqAt.int_int _ _ _ _
  | 1, _, _ => exact SeqAt.EqAt.int_int _ _ _ _
  | 2, _, _ => exact rowAt (by show A.units + 1 < cLine; exact hu) g1 k1
  | 3, _, _ => exact rowAt (by show A.units + 1 < cLine; exact hu) g2 k2
  | j + 4, h1, _ => exact absurd h1 (by show ¬ (j + 4 < 4); omega)
end
section
variable {X : Cx}
def rEqStd (K : PySem.W.Frag) (neg : Bool) : R2 := fun x y H Q => ∃ (a b : Addr) (k k' : Std), x = .ref a ∧ y = .ref b ∧ IsStd K H a k ∧ IsStd K H b k' ∧ Q (.bl (if neg = true then !decide (k = k') else decide (k = k'))) H
theorem op_neStd (K : PySem.W.Frag) (hu : X.A.units + 16 < cLine) (hK : X.K = K := by rfl) : OpR X (compareOp .NotEq) (rEqStd K true) := by
  subst hK
  intro pins s σ H x y v u Q I rx ry h
  obtain ⟨a, b, k, k', rfl, rfl, ha, hb, q⟩ := h
  cases rx
  cases ry
  obtain ⟨b1, c1, t1, u1, p1, g1, g2⟩ := std_h I ha
  obtain ⟨b2, c2, t2, u2, p2, k1, k2⟩ := std_h I hb
  refine PySem.EqBoolInt.of_rcne (SeqAt.RcNeAt.tuples (e := stdE k k') p1 p2 (by omega) (std_items (by omega) g1 g2 k1 k2)) ⟨.bl _, H, I, ?_, q⟩
  show _ = Value.bool (!decide (k = k'))
  rw [← stdE_all]
  rfl
end
theorem like_row {K : PySem.W.Frag} {H : Hp} {n : Nat} {a b : Addr} {x : List (Option Int)} (ha : SqT K H a (x.map ent)) (hb : SqT K H b (x.map ent)) : Like K H (n + 1) (.ref a) (.ref b) :=
  .tup ha hb rfl fun j u v h1 h2 => by
    rw [h1] at h2
    cases h2
    rw [List.getElem?_map] at h1
    cases e : x[j]? with
    | none => rw [e] at h1; cases h1
    | some o => rw [e] at h1; cases h1; exact .flat _ (ent_flat o)
theorem like_std {K : PySem.W.Frag} {H : Hp} {a b : Addr} {k : Std} (ha : IsStd K H a k) (hb : IsStd K H b k) : Like K H 8 (.ref a) (.ref b) := by
  obtain ⟨b1, c1, h1, h2, h3⟩ := ha.ex
  obtain ⟨b2, c2, g1, g2, g3⟩ := hb.ex
  refine .tup h1 g1 rfl fun j u v e1 e2 => ?_
  match j, e1, e2 with
  | 0, e1, e2 => cases e1; cases e2; exact .flat _ rfl
  | 1, e1, e2 => cases e1; cases e2; exact .flat _ rfl
  | 2, e1, e2 => cases e1; cases e2; exact (like_row h2 g2)
  | 3, e1, e2 => cases e1; cases e2; exact (like_row h3 g3)
  | j + 4, e1, _ => cases e1
end L2
namespace L2
open PySem PySem.Spec PyProof.Rows
/-! ### for k in d, the keys being tuples: while it is walked the dict stands by its very entries; thawed behind it -/
abbrev XT := List (List Key × Addr × Value)
structure DtOk (P : Program) (w : World) (H : Hp) (d : Addr) (kvs : List (List Key × V)) (u : HO) (bs : Nat → Addr) : Prop where
  z : kvs.length ≤ sizeLine
  sm : (d == sysModules) = false
  ks : ∀ i k v, kvs[i]? = some (k, v) → H (bs i) = some (.tup (k.map kV))
  ex : ∃ (xs : XT) (es : Array DictEntry) (ep : Nat), Paired (fun (p : List Key × V) (q : List Key × Addr × Value) => p.1 = q.1 ∧ H q.2.1 = some (.tup (p.1.map kV)) ∧ RelV p.2 q.2.2) kvs xs ∧
    es.toList = xs.map (entryOfKey (tupleKind (mixKind P w))) ∧ (xs.map (·.1)).Nodup ∧ (∀ i x, xs[i]? = some x → bs i = x.2.1) ∧ u = .ext (DRaw d es ep)
section
variable {X : Cx}
/-- the keys stand where tuples stand -/
theorem DtOk.keep {P : Program} {w : World} {H H' : Hp} {d : Addr} {kvs : List (List Key × V)} {u : HO} {bs : Nat → Addr} (h : DtOk P w H d kvs u bs) (k : ∀ a xs, H a = some (.tup xs) → H' a = some (.tup xs)) : DtOk P w H' d kvs u bs := by
  obtain ⟨xs, es, ep, r, q⟩ := h.ex
  refine ⟨h.z, h.sm, fun i a v e => k _ _ (h.ks i a v e), xs, es, ep, ?_, q⟩
  clear q h
  induction r with
  | nil => exact .nil
  | @cons p q ps qs hq t ih => exact .cons ⟨hq.1, k _ _ hq.2.1, hq.2.2⟩ ih
end
section
variable {g : TG} {σ : St} {H : Hp}
end
section
variable {X : Cx}
end
end L2
set_option genInjectivity false
namespace K24
open PySem L2 PyProof.Rows
def top (i : Nat) : Stmt := PySem.Challenge.pw_stormpost_k24_models_refused.main.body.getD i (.Pass ⟨0, 0, 0, 0⟩)
abbrev s_look_bounds : Stmt := top 21
abbrev s_look_model : Stmt := top 22
abbrev s_first_stand : Stmt := top 23
abbrev s_ages_at : Stmt := top 24
abbrev s_steps_from : Stmt := top 25
abbrev s_is_wrong : Stmt := top 26
abbrev s_shifted : Stmt := top 27
abbrev s_next_stand : Stmt := top 28
abbrev s_row_to : Stmt := top 30
abbrev s_shown : Stmt := top 31
abbrev s_keeps_inside : Stmt := top 32
abbrev s_fence_stands : Stmt := top 33
abbrev s_walk_of : Stmt := top 34
abbrev s__law_left : Stmt := top 37
abbrev s__law_next : Stmt := top 38
abbrev s__law_kinds : Stmt := top 39
abbrev s__law_first : Stmt := top 40
abbrev s__law_asked : Stmt := top 41
abbrev s__law_refused : Stmt := top 42
abbrev s__law_off : Stmt := top 43
abbrev s__law_edge : Stmt := top 44
abbrev s__law_edge_good : Stmt := top 45
abbrev s_law : Stmt := top 46
structure Ad where
  BadCell : Addr
  BadFate : Addr
  BadHouse : Addr
  BadLetter : Addr
  BadMeasure : Addr
  BadModel : Addr
  BadName : Addr
  BadNet : Addr
  BadNews : Addr
  BadPiece : Addr
  BadSign : Addr
  BadText : Addr
  NoAsk : Addr
  NoLink : Addr
  NoStream : Addr
  PostError : Addr
structure Txt (K : PySem.W.Frag) (mg : Str → Option Value) (t : Ad) : Prop where
  cMOST_LATE : ∃ tk, mg "MOST_LATE" = some (.int 3 tk)
  cMOST_PAUSE : ∃ tk, mg "MOST_PAUSE" = some (.int 8 tk)
  cMOST_ROUND : ∃ tk, mg "MOST_ROUND" = some (.int 9 tk)
  n_ValueError : mg "ValueError" = none
  n_all : mg "all" = none
  n_dict : mg "dict" = none
  n_enumerate : mg "enumerate" = none
  n_isinstance : mg "isinstance" = none
  n_len : mg "len" = none
  n_list : mg "list" = none
  n_max : mg "max" = none
  n_range : mg "range" = none
  n_reversed : mg "reversed" = none
  n_tuple : mg "tuple" = none
  mBadCell : mg "BadCell" = some (.ref t.BadCell)
  mBadFate : mg "BadFate" = some (.ref t.BadFate)
  mBadHouse : mg "BadHouse" = some (.ref t.BadHouse)
  mBadLetter : mg "BadLetter" = some (.ref t.BadLetter)
  mBadMeasure : mg "BadMeasure" = some (.ref t.BadMeasure)
  mBadModel : mg "BadModel" = some (.ref t.BadModel)
  mBadName : mg "BadName" = some (.ref t.BadName)
  mBadNet : mg "BadNet" = some (.ref t.BadNet)
  mBadNews : mg "BadNews" = some (.ref t.BadNews)
  mBadPiece : mg "BadPiece" = some (.ref t.BadPiece)
  mBadSign : mg "BadSign" = some (.ref t.BadSign)
  mBadText : mg "BadText" = some (.ref t.BadText)
  mNoAsk : mg "NoAsk" = some (.ref t.NoAsk)
  mNoLink : mg "NoLink" = some (.ref t.NoLink)
  mNoStream : mg "NoStream" = some (.ref t.NoStream)
  mPostError : mg "PostError" = some (.ref t.PostError)
  xBadModel : PySem.W.excIn K t.BadModel [.type "ValueError", .type "Exception", .type "BaseException", .type "object"] "ValueError.__new__" = true
  eBadModel : ExcCls K t.BadModel
  subBadModel_PostError : PySem.W.subIn K (.ref t.BadModel) (.ref t.PostError) = some true
  oneBadModel_BadCell : PySem.W.kitOne K (.ref t.BadModel) (.ref t.BadCell) = some false
  oneBadModel_BadFate : PySem.W.kitOne K (.ref t.BadModel) (.ref t.BadFate) = some false
  oneBadModel_BadHouse : PySem.W.kitOne K (.ref t.BadModel) (.ref t.BadHouse) = some false
  oneBadModel_BadLetter : PySem.W.kitOne K (.ref t.BadModel) (.ref t.BadLetter) = some false
  oneBadModel_BadMeasure : PySem.W.kitOne K (.ref t.BadModel) (.ref t.BadMeasure) = some false
  oneBadModel_BadModel : PySem.W.kitOne K (.ref t.BadModel) (.ref t.BadModel) = some true
  oneBadModel_BadName : PySem.W.kitOne K (.ref t.BadModel) (.ref t.BadName) = some false
  oneBadModel_BadNet : PySem.W.kitOne K (.ref t.BadModel) (.ref t.BadNet) = some false
  oneBadModel_BadNews : PySem.W.kitOne K (.ref t.BadModel) (.ref t.BadNews) = some false
  oneBadModel_BadPiece : PySem.W.kitOne K (.ref t.BadModel) (.ref t.BadPiece) = some false
  oneBadModel_BadSign : PySem.W.kitOne K (.ref t.BadModel) (.ref t.BadSign) = some false
  oneBadModel_BadText : PySem.W.kitOne K (.ref t.BadModel) (.ref t.BadText) = some false
  oneBadModel_NoAsk : PySem.W.kitOne K (.ref t.BadModel) (.ref t.NoAsk) = some false
  oneBadModel_NoLink : PySem.W.kitOne K (.ref t.BadModel) (.ref t.NoLink) = some false
  oneBadModel_NoStream : PySem.W.kitOne K (.ref t.BadModel) (.ref t.NoStream) = some false
  oneBadModel_ValueError : PySem.W.kitOne K (.ref t.BadModel) (.type "ValueError") = some true
  catchPostError : Catch K t.PostError
section
variable {P : Program} {w : World} {K : PySem.W.Frag} {mg : Str → Option Value} {base : Heap} {t : Ad}
/-! stands and steps, reckoned -/
structure Md where
  m : Int
  pa : Int
  la : Nat
def GoodT (x y z : Int) : Prop := (1 ≤ x ∧ x ≤ 9) ∧ (0 ≤ y ∧ y ≤ 8) ∧ 1 ≤ z ∧ z ≤ 3
structure GoodMd (M : Md) : Prop where
  m0 : 1 ≤ M.m
  m1 : M.m ≤ 9
  p0 : 0 ≤ M.pa
  p1 : M.pa ≤ 8
  l0 : 1 ≤ M.la
  l1 : M.la ≤ 3
theorem GoodMd.tri {M : Md} (h : GoodMd M) : GoodT M.m M.pa (M.la : Int) := ⟨⟨h.m0, h.m1⟩, ⟨h.p0, h.p1⟩, by have := h.l0; omega, by have := h.l1; omega⟩
def IsMd (K : PySem.W.Frag) (H : Hp) (a : Addr) (M : Md) : Prop := SqT K H a [.int M.m, .int M.pa, .int (M.la : Int)]
def fitE (n m : Int) : Option Int → Bool
  | none => false
  | some e => decide ((e - n) % m = 0)
def fitAt (es : List (Option Int)) (n m : Int) (k : Nat) : Bool := k == 0 || fitE n m ((es[k - 1]?).getD none)
def tkB (M : Md) (s : Std) (k : Nat) : Bool := fitAt s.se 0 M.m k
def hrB (M : Md) (s : Std) (k : Nat) : Bool := k == 0 || (decide (s.rs = 0) && fitE (s.ah + 1) M.m ((s.to[k - 1]?).getD none))
def agesL (es : List (Option Int)) (n m : Int) (k : Nat) : List Nat := (List.range (k + 1)).filter (fitAt es n m)
def takesL (M : Md) (s : Std) : List Nat := (List.range (M.la + 1)).filter (tkB M s)
def hearsL (M : Md) (s : Std) : List Nat := (List.range (M.la + 1)).filter (hrB M s)
def rowOf (a : Nat) (hs : List Nat) : List (Int × Int) := hs.map fun (b : Nat) => ((a : Int), (b : Int))
def stepsOf (M : Md) (s : Std) : List (Int × Int) := (takesL M s).flatMap fun a => rowOf a (hearsL M s)
def wrongT (s : Std) (x : Int) : Bool := decide (0 < x) && !decide ((s.se[(x - 1).toNat]?).getD none = some 0)
def wrongH (s : Std) (x : Int) : Bool := decide (0 < x) && !decide ((s.to[(x - 1).toNat]?).getD none = some (s.ah + 1))
def wrongB (s : Std) (q : Int × Int) : Bool := wrongT s q.1 || wrongH s q.2
def lessE (k : Int) : Option Int → Option Int
  | none => none
  | some e => some (e - k)
def grownI (x : Int) : Int := if 0 < x then 1 else 0
def restI (M : Md) (s : Std) (q : Int × Int) : Int := if 0 < q.2 then M.pa else s.rs
def behindS (M : Md) (s : Std) (q : Int × Int) : Std :=
  ⟨s.ah - grownI q.1 + grownI q.2, if 0 < restI M s q then restI M s q - 1 else 0,
   (if 0 < restI M s q then none else some (s.ah - grownI q.1 + grownI q.2)) :: s.se.dropLast.map (lessE (grownI q.1)), some 0 :: s.to.dropLast.map (lessE (grownI q.1))⟩
def firstS (n : Nat) : Std := ⟨0, 0, List.replicate n none, List.replicate n none⟩
structure GoodS (M : Md) (s : Std) : Prop where
  se : s.se.length = M.la
  to : s.to.length = M.la
  rs : 0 ≤ s.rs
theorem goodS_first {M : Md} : GoodS M (firstS M.la) := ⟨by simp [firstS], by simp [firstS], by simp [firstS]⟩
theorem goodS_behind {M : Md} {s : Std} {q : Int × Int} (g : GoodMd M) (h : GoodS M s) : GoodS M (behindS M s q) := by
  have := h.se; have := h.to; have := h.rs; have := g.l0; have := g.p0
  refine ⟨?_, ?_, ?_⟩
  · show (_ :: List.map _ _).length = _
    rw [List.length_cons, List.length_map, List.length_dropLast]; omega
  · show (_ :: List.map _ _).length = _
    rw [List.length_cons, List.length_map, List.length_dropLast]; omega
  · show 0 ≤ (if 0 < restI M s q then restI M s q - 1 else 0)
    split <;> omega
theorem ages_succ (es : List (Option Int)) (n m : Int) (k : Nat) : agesL es n m (k + 1) = agesL es n m k ++ (if fitE n m ((es[k]?).getD none) then [k + 1] else []) := by
  unfold agesL
  rw [List.range_succ, List.filter_append]
  congr 1
  have e : fitAt es n m (k + 1) = fitE n m ((es[k]?).getD none) := rfl
  rw [← e]
  by_cases h : fitAt es n m (k + 1) = true <;> simp [h]
theorem ages_len (es : List (Option Int)) (n m : Int) (k : Nat) : (agesL es n m k).length ≤ k + 1 := by
  have := List.length_filter_le (fitAt es n m) (List.range (k + 1))
  rw [List.length_range] at this
  exact this
theorem takes_ages {M : Md} {s : Std} (h : GoodS M s) : takesL M s = agesL s.se 0 M.m s.se.length := by rw [h.se]; rfl
theorem hears_ages {M : Md} {s : Std} (h : GoodS M s) (hr : s.rs = 0) : hearsL M s = agesL s.to (s.ah + 1) M.m s.to.length := by
  rw [h.to]
  unfold hearsL agesL
  refine List.filter_congr fun k _ => ?_
  unfold hrB fitAt
  rw [decide_eq_true hr, Bool.true_and]
theorem hears_rest {M : Md} {s : Std} (hr : s.rs ≠ 0) : hearsL M s = [0] := by
  unfold hearsL
  rw [List.range_succ_eq_map, List.filter_cons]
  have e0 : hrB M s 0 = true := rfl
  rw [if_pos e0]
  congr 1
  rw [List.filter_eq_nil_iff]
  intro k hk
  rw [List.mem_map] at hk
  obtain ⟨j, _, rfl⟩ := hk
  unfold hrB
  rw [decide_eq_false hr]
  simp
theorem hears_zero (M : Md) (s : Std) : ∃ t, hearsL M s = 0 :: t := by
  unfold hearsL
  rw [List.range_succ_eq_map, List.filter_cons]
  exact ⟨_, if_pos rfl⟩
theorem takes_zero (M : Md) (s : Std) : ∃ t, takesL M s = 0 :: t := by
  unfold takesL
  rw [List.range_succ_eq_map, List.filter_cons]
  exact ⟨_, if_pos rfl⟩
theorem steps_zero (M : Md) (s : Std) : ∃ t, stepsOf M s = (0, 0) :: t := by
  obtain ⟨u, hu⟩ := takes_zero M s
  obtain ⟨v, hv⟩ := hears_zero M s
  unfold stepsOf
  rw [hu, List.flatMap_cons, hv]
  exact ⟨_, rfl⟩
theorem wrong_zero (s : Std) : wrongB s (0, 0) = false := rfl
theorem takes_len (M : Md) (s : Std) : (takesL M s).length ≤ M.la + 1 := by
  have := List.length_filter_le (tkB M s) (List.range (M.la + 1))
  rwa [List.length_range] at this
theorem hears_len (M : Md) (s : Std) : (hearsL M s).length ≤ M.la + 1 := by
  have := List.length_filter_le (hrB M s) (List.range (M.la + 1))
  rwa [List.length_range] at this
theorem flat_len {α : Type} (hs : α → List (Int × Int)) (n : Nat) (hn : ∀ a, (hs a).length ≤ n) : ∀ (l : List α), (l.flatMap hs).length ≤ l.length * n
  | [] => by simp
  | a :: l => by
    rw [List.flatMap_cons, List.length_append, List.length_cons, Nat.succ_mul]
    have := flat_len hs n hn l
    have := hn a
    omega
/-- a step that may be: its parts -/
theorem steps_mem {M : Md} {s : Std} {q : Int × Int} (h : q ∈ stepsOf M s) : ∃ a b : Nat, q = ((a : Int), (b : Int)) ∧ a ≤ M.la ∧ b ≤ M.la ∧ tkB M s a = true ∧ hrB M s b = true := by
  unfold stepsOf at h
  rw [List.mem_flatMap] at h
  obtain ⟨a, ha, h⟩ := h
  unfold rowOf at h
  rw [List.mem_map] at h
  obtain ⟨b, hb, rfl⟩ := h
  unfold takesL at ha
  unfold hearsL at hb
  rw [List.mem_filter, List.mem_range] at ha hb
  exact ⟨a, b, rfl, by omega, by omega, ha.2, hb.2⟩
/-- any pair: whether it may be -/
def mayB (M : Md) (s : Std) (q : Int × Int) : Bool := decide (0 ≤ q.1) && decide (q.1 ≤ M.la) && decide (0 ≤ q.2) && decide (q.2 ≤ M.la) && tkB M s q.1.toNat && hrB M s q.2.toNat
theorem may_mem {M : Md} {s : Std} {q : Int × Int} : mayB M s q = true ↔ q ∈ stepsOf M s := by
  constructor
  · intro h
    unfold mayB at h
    simp only [Bool.and_eq_true, decide_eq_true_eq] at h
    obtain ⟨⟨⟨⟨⟨h1, h2⟩, h3⟩, h4⟩, h5⟩, h6⟩ := h
    unfold stepsOf
    rw [List.mem_flatMap]
    refine ⟨q.1.toNat, ?_, ?_⟩
    · unfold takesL
      rw [List.mem_filter, List.mem_range]
      exact ⟨by omega, h5⟩
    · unfold rowOf
      rw [List.mem_map]
      refine ⟨q.2.toNat, ?_, ?_⟩
      · unfold hearsL
        rw [List.mem_filter, List.mem_range]
        exact ⟨by omega, h6⟩
      · rw [Int.toNat_of_nonneg h1, Int.toNat_of_nonneg h3]
  · intro h
    obtain ⟨a, b, rfl, ha, hb, h5, h6⟩ := steps_mem h
    unfold mayB
    simp only [Bool.and_eq_true, decide_eq_true_eq, Int.toNat_natCast]
    exact ⟨⟨⟨⟨⟨by omega, by omega⟩, by omega⟩, by omega⟩, h5⟩, h6⟩
/-- the list of steps, as it is made by the nested loops -/
def IsSteps (K : PySem.W.Frag) (H : Hp) (a : Addr) (ps : List (Int × Int)) : Prop := ∃ tps : Nat → Addr, H a = some (.lst (tabR ps.length tps)) ∧ ∀ y q, ps[y]? = some q → H (tps y) = some (.tup [.int q.1, .int q.2])
theorem IsSteps.same {K : PySem.W.Frag} {H H' : Hp} {a : Addr} {ps : List (Int × Int)} (h : IsSteps K H a ps) (e : Same H H') : IsSteps K H' a ps := by
  obtain ⟨tps, h1, h2⟩ := h
  exact ⟨tps, e _ _ h1, fun y q hq => e _ _ (h2 y q hq)⟩
theorem txt_len {i : Int} (h : i.natAbs < 2 ^ 1000) : (Str.ofString (toString i)).length ≤ 1001 := by
  have hl : i.natAbs.log2 < 1000 := by
    by_cases z : i.natAbs = 0
    · rw [z]; decide
    · exact (Nat.log2_lt z).mpr h
  have e := int_text_length_le (k := 1000) (by decide) hl
  rw [PySem.ofString_length]; omega
/-! lists of steps and entries -/
theorem steps_snoc {K : PySem.W.Frag} {H : Hp} {a tp : Addr} {ps : List (Int × Int)} {tps : Nat → Addr} {q : Int × Int} (h1 : H a = some (.lst (tabR ps.length tps))) (h2 : ∀ y q, ps[y]? = some q → H (tps y) = some (.tup [.int q.1, .int q.2])) (htp : H tp = none) :
    IsSteps K (upd (upd H tp (.tup [.int q.1, .int q.2])) a (.lst (tabR ps.length tps ++ [V.ref tp]))) a (ps ++ [q]) := by
  have nt : tp ≠ a := fun e => by rw [e, h1] at htp; cases htp
  refine ⟨fun y => if y = ps.length then tp else tps y, by rw [tabR_snoc, List.length_append]; exact upd_same, fun y q' hq => ?_⟩
  by_cases e : y = ps.length
  · subst e
    rw [List.getElem?_append_right (Nat.le_refl _), Nat.sub_self] at hq
    cases hq
    simp only [if_true]
    rw [upd_ne nt]
    exact upd_same
  · have hy : y < (ps ++ [q]).length := (List.getElem?_eq_some_iff.mp hq).1
    rw [List.length_append] at hy
    have hy' : y < ps.length := by simp at hy; omega
    rw [List.getElem?_append_left hy'] at hq
    have := h2 y q' hq
    simp only [e, if_false]
    rw [upd_ne (fun z => by rw [z, h1] at this; cases this), upd_ne (ne_of_none this htp)]
    exact this
/-- the same with a pair that is there already -/
theorem steps_add {K : PySem.W.Frag} {H : Hp} {a x : Addr} {ps : List (Int × Int)} {tps : Nat → Addr} {q : Int × Int} (h1 : H a = some (.lst (tabR ps.length tps))) (h2 : ∀ y q, ps[y]? = some q → H (tps y) = some (.tup [.int q.1, .int q.2])) (hx : H x = some (.tup [.int q.1, .int q.2])) :
    IsSteps K (upd H a (.lst (tabR ps.length tps ++ [V.ref x]))) a (ps ++ [q]) := by
  have nt : ∀ {b : Addr} {xs : List V}, H b = some (.tup xs) → b ≠ a := fun h e => by rw [e, h1] at h; cases h
  refine ⟨fun y => if y = ps.length then x else tps y, by rw [tabR_snoc, List.length_append]; exact upd_same, fun y q' hq => ?_⟩
  by_cases e : y = ps.length
  · subst e
    rw [List.getElem?_append_right (Nat.le_refl _), Nat.sub_self] at hq
    cases hq
    simp only [if_true]
    rw [upd_ne (nt hx)]
    exact hx
  · have hy : y < (ps ++ [q]).length := (List.getElem?_eq_some_iff.mp hq).1
    rw [List.length_append] at hy
    have hy' : y < ps.length := by simp at hy; omega
    rw [List.getElem?_append_left hy'] at hq
    have := h2 y q' hq
    simp only [e, if_false]
    rw [upd_ne (nt this)]
    exact this
theorem entry_at {es : List (Option Int)} {i : Nat} {x : V} (h : (es.map ent)[i]? = some x) : ∃ e, es[i]? = some e ∧ x = ent e := by
  rw [List.getElem?_map] at h
  cases e : es[i]? with
  | none => rw [e] at h; cases h
  | some z => rw [e] at h; exact ⟨z, rfl, (Option.some.inj h).symm⟩
def natsV (l : List Nat) : List V := l.map fun (k : Nat) => V.int (k : Int)
theorem nat_at {l : List Nat} {i : Nat} {x : V} (h : (natsV l)[i]? = some x) : ∃ k, l[i]? = some k ∧ x = .int (k : Int) := by
  unfold natsV at h
  rw [List.getElem?_map] at h
  cases e : l[i]? with
  | none => rw [e] at h; cases h
  | some z => rw [e] at h; exact ⟨z, rfl, (Option.some.inj h).symm⟩
theorem take_succ_at {α : Type} {l : List α} {i : Nat} {k : α} (h : l[i]? = some k) : l.take (i + 1) = l.take i ++ [k] := by rw [List.take_succ, h]; rfl
theorem good_of {x y z : Int} (g : GoodT x y z) : GoodMd ⟨x, y, z.toNat⟩ := ⟨g.1.1, g.1.2, g.2.1.1, g.2.1.2, by have := g.2.2; show 1 ≤ z.toNat; omega, by have := g.2.2; show z.toNat ≤ 3; omega⟩
theorem rep_none (k : Nat) : (List.replicate k [V.non]).flatten = (List.replicate k (none : Option Int)).map ent := by
  induction k with
  | zero => rfl
  | succ k ih => rw [List.replicate_succ, List.flatten_cons, ih, List.replicate_succ, List.map_cons]; rfl
/-! look_bounds, look_model -/
def sp_look_bounds (C : Addr) : Sp := fun vs H Q E => ∃ n lo hi : Int, vs = [.int n, .int lo, .int hi] ∧ n.natAbs < 2 ^ 1000 ∧ lo.natAbs < 2 ^ 1000 ∧ hi.natAbs < 2 ^ 1000 ∧ (lo ≤ n ∧ n ≤ hi → Q .non H) ∧ (¬ (lo ≤ n ∧ n ≤ hi) → E (.ref C) none H)
theorem sc_look_bounds : FnScope ["number", "least", "most"] ["number", "least", "most"] (defScope s_look_bounds) := ⟨rfl, rfl, rfl, by decide +kernel, rfl, by decide +kernel, by decide +kernel⟩
theorem ok_look_bounds (F : Site K mg "look_bounds" s_look_bounds) (T : Txt K mg t) : Def P w K mg base 1 "look_bounds" ["number", "least", "most"] (sp_look_bounds t.BadModel) := by
  refine F.def sc_look_bounds (fun _ _ _ _ _ _ us hl => match us, hl with | [_, _, _], _ => rfl) (fun vs H Q E h => ?_) (fun f cdv A outer s H vs Q E hr h => ?_)
  · obtain ⟨n, lo, hi, rfl, _⟩ := h
    rfl
  · obtain ⟨n, lo, hi, rfl, hb, hlo, hhi, q1, q2⟩ := h
    refine ⟨_, pss_one (ps_if (pt_not (pt_chain op_le op_le (pv 1) (pv 0) (pv 2)))
        (pss_one (ps_raise cx1_body rfl rfl T.mBadModel T.xBadModel PySem.F.excBase_ValueError (pa_cons (pe_fstr (pj_cons pe_str (pj_cons (pe_fmtI (pv 1)) (pj_cons pe_str (pj_cons (pe_fmtI (pv 2)) (pj_cons pe_str (pj_cons (pe_fmtI (pv 0)) pj_nil))))))) pa_nil)))
        (pss_nil)), ?_⟩
    have sl : (4000 : Nat) ≤ sizeLine := by decide
    have l1 : ("from " : Str).length = 5 := by decide +kernel
    have l2 : (" to " : Str).length = 4 := by decide +kernel
    have l3 : (" is asked for here, not " : Str).length = 24 := by decide +kernel
    have zl := txt_len hlo
    have zh := txt_len hhi
    have zn := txt_len hb
    have e0 : (Str.empty ++ ("from " : Str)).length ≤ 5 := by rw [strLen_append, l1]; show 0 + 5 ≤ 5; omega
    have e1 : ((Str.empty ++ ("from " : Str)) ++ Str.ofString (toString lo)).length ≤ 1006 := by rw [strLen_append]; omega
    have e2 : (((Str.empty ++ ("from " : Str)) ++ Str.ofString (toString lo)) ++ (" to " : Str)).length ≤ 1010 := by rw [strLen_append]; omega
    have e3 : ((((Str.empty ++ ("from " : Str)) ++ Str.ofString (toString lo)) ++ (" to " : Str)) ++ Str.ofString (toString hi)).length ≤ 2011 := by rw [strLen_append]; omega
    have e4 : (((((Str.empty ++ ("from " : Str)) ++ Str.ofString (toString lo)) ++ (" to " : Str)) ++ Str.ofString (toString hi)) ++ (" is asked for here, not " : Str)).length ≤ 2035 := by rw [strLen_append]; omega
    have e5 : ((((((Str.empty ++ ("from " : Str)) ++ Str.ofString (toString lo)) ++ (" to " : Str)) ++ Str.ofString (toString hi)) ++ (" is asked for here, not " : Str)) ++ Str.ofString (toString n)).length ≤ 3036 := by rw [strLen_append]; omega
    refine ⟨_, rfl, _, rfl, _, _, rfl, rfl, _, rfl, ?_⟩
    by_cases h1 : lo ≤ n
    · refine iteY h1 ?_
      refine ⟨_, rfl, _, _, rfl, rfl, _, rfl, ?_⟩
      by_cases h2 : n ≤ hi
      · rw [decide_eq_true h2]
        exact iteF (q1 ⟨h1, h2⟩)
      · rw [decide_eq_false h2]
        refine iteT ?_
        refine ⟨_, rfl, by omega, _, rfl, lo, rfl, log_lt hlo (by decide) (by decide), _, rfl, by omega, _, rfl, by omega, _, rfl, hi, rfl, log_lt hhi (by decide) (by decide), _, rfl, by omega, _, rfl, by omega, _, rfl, n, rfl, log_lt hb (by decide) (by decide), _, rfl, by omega, by omega, ?_⟩
        exact ⟨by show 1 ≤ sizeLine; decide, q2 (by omega)⟩
    · refine iteN h1 ⟨_, rfl, iteT ?_⟩
      refine ⟨_, rfl, by omega, _, rfl, lo, rfl, log_lt hlo (by decide) (by decide), _, rfl, by omega, _, rfl, by omega, _, rfl, hi, rfl, log_lt hhi (by decide) (by decide), _, rfl, by omega, _, rfl, by omega, _, rfl, n, rfl, log_lt hb (by decide) (by decide), _, rfl, by omega, by omega, ?_⟩
      exact ⟨by show 1 ≤ sizeLine; decide, q2 (by omega)⟩
def Small3 (x y z : Int) : Prop := x.natAbs < 2 ^ 1000 ∧ y.natAbs < 2 ^ 1000 ∧ z.natAbs < 2 ^ 1000
theorem GoodT.small {x y z : Int} (h : GoodT x y z) : Small3 x y z := ⟨small_abs (by have := h.1; omega) (by have := h.1; omega), small_abs (by have := h.2.1; omega) (by have := h.2.1; omega), small_abs (by have := h.2.2; omega) (by have := h.2.2; omega)⟩
def sp_look_model (K : PySem.W.Frag) (C : Addr) : Sp := fun vs H Q E => ∃ (a : Addr) (x y z : Int), vs = [.ref a] ∧ SqT K H a [.int x, .int y, .int z] ∧ Small3 x y z ∧ (GoodT x y z → Q .non H) ∧ (¬ GoodT x y z → E (.ref C) none H)
theorem sc_look_model : FnScope ["model"] ["model"] (defScope s_look_model) := ⟨rfl, rfl, rfl, by decide +kernel, rfl, by decide +kernel, by decide +kernel⟩
theorem ok_look_model (F : Site K mg "look_model" s_look_model) (T : Txt K mg t) (D_look_bounds : Def P w K mg base 1 "look_bounds" ["number", "least", "most"] (sp_look_bounds t.BadModel)) : Def P w K mg base 2 "look_model" ["model"] (sp_look_model K t.BadModel) := by
  refine F.def sc_look_model (fun _ _ _ _ _ _ us hl => match us, hl with | [_], _ => rfl) (fun vs H Q E h => ?_) (fun f cdv A outer s H vs Q E hr h => ?_)
  · obtain ⟨a, x, y, z, rfl, _⟩ := h
    rfl
  · obtain ⟨a, x, y, z, rfl, ha, hs, q1, q2⟩ := h
    refine ⟨_, pss_cons (ps_expr (pe_def (D_look_bounds.mono (by decide)) hr (pass1 cx1_body) (pa_cons (pe_ix (ix_tupK K) (pv 0) pe_int (fun _ _ => rfl)) (pa_cons pe_int (pa_cons (pe_gint T.cMOST_ROUND) pa_nil)))))
      (pss_cons (ps_expr (pe_def (D_look_bounds.mono (by decide)) hr (pass1 cx1_body) (pa_cons (pe_ix (ix_tupK K) (pv 0) pe_int (fun _ _ => rfl)) (pa_cons pe_int (pa_cons (pe_gint T.cMOST_PAUSE) pa_nil)))))
      (pss_one (ps_expr (pe_def (D_look_bounds.mono (by decide)) hr (pass1 cx1_body) (pa_cons (pe_ix (ix_tupK K) (pv 0) pe_int (fun _ _ => rfl)) (pa_cons pe_int (pa_cons (pe_gint T.cMOST_LATE) pa_nil))))))), ?_⟩
    refine ⟨_, rfl, a, _, _, _, rfl, rfl, ha, rfl, x, 1, 9, rfl, hs.1, by decide, by decide, fun h1 => ?_, fun h1 => q2 fun g => h1 g.1⟩
    refine ⟨_, rfl, a, _, _, _, rfl, rfl, ha, rfl, y, 0, 8, rfl, hs.2.1, by decide, by decide, fun h2 => ?_, fun h2 => q2 fun g => h2 g.2.1⟩
    refine ⟨_, rfl, a, _, _, _, rfl, rfl, ha, rfl, z, 1, 3, rfl, hs.2.2, by decide, by decide, fun h3 => ?_, fun h3 => q2 fun g => h3 g.2.2⟩
    exact q1 ⟨h1, h2, h3⟩
/-! first_stand -/
def sp_first_stand (K : PySem.W.Frag) (C : Addr) : Sp := fun vs H Q E => ∃ (a : Addr) (x y z : Int), vs = [.ref a] ∧ SqT K H a [.int x, .int y, .int z] ∧ Small3 x y z ∧
  (GoodT x y z → ∀ (r : Addr) (H' : Hp), Same H H' → IsStd K H' r (firstS z.toNat) → Q (.ref r) H') ∧ (¬ GoodT x y z → E (.ref C) none H)
theorem sc_first_stand : FnScope ["model", "nothing"] ["model"] (defScope s_first_stand) := ⟨rfl, rfl, rfl, by decide +kernel, rfl, by decide +kernel, by decide +kernel⟩
theorem ok_first_stand (F : Site K mg "first_stand" s_first_stand) (T : Txt K mg t) (D_look_model : Def P w K mg base 2 "look_model" ["model"] (sp_look_model K t.BadModel)) : Def P w K mg base 3 "first_stand" ["model"] (sp_first_stand K t.BadModel) := by
  refine F.def sc_first_stand (fun _ _ _ _ _ _ us hl => match us, hl with | [_], _ => rfl) (fun vs H Q E h => ?_) (fun f cdv A outer s H vs Q E hr h => ?_)
  · obtain ⟨a, x, y, z, rfl, _⟩ := h
    rfl
  · obtain ⟨a, x, y, z, rfl, ha, hs, q1, q2⟩ := h
    refine ⟨_, pss_cons (ps_expr (pe_def (D_look_model.mono (by decide)) hr (pass1 cx1_body) (pa_cons (pv 0) pa_nil)))
      (pss_cons (ps_set (i := 1) sc_first_stand.nd rfl (Or.inl rfl) (pe_op (op_repA K) (pe_tup (pa_cons pe_non pa_nil)) (pe_ix (ix_tupK K) (pv 0) pe_int (fun _ _ => rfl))))
      (pss_one (ps_ret (pe_tup (pa_cons pe_int (pa_cons pe_int (pa_cons (pv 1) (pa_cons (pv 1) pa_nil)))))))), ?_⟩
    refine ⟨_, rfl, a, x, y, z, rfl, ha, hs, fun g => ?_, fun g => q2 g⟩
    have gz := g.2.2
    refine ⟨by show 1 ≤ sizeLine; decide, fun p hp => ?_⟩
    have s1 : Same H (upd H p (.tup [.non])) := (Same.refl _).new hp
    refine ⟨_, rfl, a, _, _, _, rfl, rfl, s1.tup ha, rfl, p, z, [.non], rfl, rfl, SqT.of upd_same, (fun e => by cases e), by decide, by omega, by omega, fun b H2 s2 hb => ?_⟩
    rw [rep_none] at hb
    refine ⟨_, rfl, _, rfl, by show 4 ≤ sizeLine; decide, fun r hq => ?_⟩
    have s3 : Same H2 (upd H2 r (.tup [.int 0, .int 0, .ref b, .ref b])) := (Same.refl _).new hq
    exact q1 g r _ ((s1.trans s2).trans s3) ⟨b, b, SqT.of upd_same, s3.tup hb, s3.tup hb⟩
/-! ages_at, steps_from -/
def sp_ages_at (K : PySem.W.Frag) : Sp := fun vs H Q _ => ∃ (a : Addr) (es : List (Option Int)) (n m : Int), vs = [.ref a, .int n, .int m] ∧ SqT K H a (es.map ent) ∧ es.length ≤ 3 ∧ 0 < m ∧ ∀ (r : Addr) (H' : Hp), Same H H' → H r = none → H' r = some (.lst (natsV (agesL es n m es.length))) → Q (.ref r) H'
theorem sc_ages_at : FnScope ["entries", "number", "many", "fitting", "age", "entry"] ["entries", "number", "many"] (defScope s_ages_at) := ⟨rfl, rfl, rfl, by decide +kernel, rfl, by decide +kernel, by decide +kernel⟩
theorem ok_ages_at (F : Site K mg "ages_at" s_ages_at) (T : Txt K mg t) : Def P w K mg base 1 "ages_at" ["entries", "number", "many"] (sp_ages_at K) := by
  refine F.def sc_ages_at (fun _ _ _ _ _ _ us hl => match us, hl with | [_, _, _], _ => rfl) (fun vs H Q E h => ?_) (fun f cdv A outer s H vs Q E hr h => ?_)
  · obtain ⟨a, es, n, m, rfl, _⟩ := h
    rfl
  · obtain ⟨a, es, n, m, rfl, ha, hes, hm, q⟩ := h
    refine ⟨_, pss_cons (ps_set (i := 3) sc_ages_at.nd rfl (Or.inl rfl) (pe_lst (pa_cons pe_int pa_nil)))
      (pss_cons (PS.nox (ps_for PassesOwn.never rfl (pi_enumS K (by rfl) T.n_enumerate (pa_cons (pv 0) pa_nil)) (pg_twoK K (i := 4) (j := 5) rfl sc_ages_at.nd rfl rfl (Or.inl rfl) (Or.inl rfl))
        (pss_one (ps_if (PW.pt (pw_and (pt_cmpR op_notN (pv 5) pe_non (nomark _)) (pw_and1 (pt_cmpR op_eq (pe_op op_mod (pe_op op_sub (pv 5) (pv 1)) (pv 2)) pe_int (nomark _)))))
          (pss_one (ps_expr (pe_bmK K PySem.F.plainAttrs_list PySem.F.slot_list_append PySem.F.type_list_append mt_append (pv 3) (pa_cons (pv 4) pa_nil))))
          (pss_nil)))))
      (pss_one (ps_ret (pv 3)))), ?_⟩
    have hsz : (2000 : Nat) ≤ sizeLine := by decide
    refine ⟨by show 1 ≤ sizeLine; decide, fun L hL => ?_⟩
    have s0 : Same H (upd H L (.lst [.int 0])) := (Same.refl _).new hL
    refine ⟨_, rfl, a, _, rfl, s0.tup ha, for_enumS (K := K) (a := a) (xs := es.map ent) (fun i σ H2 => ∃ v4 v5 : Option V, σ = [some (.ref a), some (.int n), some (.int m), some (.ref L), v4, v5] ∧ Same H H2 ∧ H2 L = some (.lst (natsV (agesL es n m i))))
      ⟨none, none, rfl, s0, upd_same⟩ (fun i σ H2 _ ⟨_, _, _, s2, _⟩ => s2.tup ha) ?_ ?_⟩
    · rintro i x p σ H2 hi ⟨v4, v5, rfl, s2, hL2⟩ hp
      obtain ⟨e, he, rfl⟩ := entry_at hi
      have nLp : L ≠ p := ne_of_none hL2 hp
      have hi' : i < es.length := (List.getElem?_eq_some_iff.mp he).1
      refine take_two (SqT.of upd_same) ?_
      have s3 : Same H (upd H2 p (.tup [.int ((i + 1 : Nat) : Int), ent e])) := s2.new hp
      have hL3 : (upd H2 p (.tup [.int ((i + 1 : Nat) : Int), ent e])) L = some (.lst (natsV (agesL es n m i))) := by rw [upd_ne nLp]; exact hL2
      generalize upd H2 p (.tup [.int ((i + 1 : Nat) : Int), ent e]) = H3 at *
      have ea := ages_succ es n m i
      rw [he] at ea
      cases e with
      | none =>
        refine ⟨_, rfl, rfl, _, rfl, iteF (iteF ?_)⟩
        exact ⟨_, _, rfl, s3, by rw [ea, hL3]; simp [fitE]⟩
      | some z =>
        refine ⟨_, rfl, rfl, _, rfl, iteT ?_⟩
        refine ⟨_, rfl, _, rfl, _, _, rfl, rfl, _, rfl, _, _, rfl, rfl, hm, rfl, _, rfl, ?_⟩
        by_cases hz : (z - n) % m = 0
        · have e2 : fitE n m (Option.getD (some (some z)) none) = true := decide_eq_true hz
          rw [if_pos e2] at ea
          refine iteY (by show V.int ((z - n) % m) = V.int 0; rw [hz]) ?_
          refine ⟨_, rfl, .inl ⟨rfl, _, SqL.of hL3⟩, _, rfl, L, _, _, rfl, rfl, hL3, ?_, ?_⟩
          · have := ages_len es n m i
            unfold natsV
            rw [List.length_map]
            omega
          · refine ⟨_, _, rfl, s3.put hL, ?_⟩
            rw [upd_same, ea]
            unfold natsV
            rw [List.map_append]
            rfl
        · have e2 : ¬ (fitE n m (Option.getD (some (some z)) none) = true) := fun y => hz (of_decide_eq_true y)
          rw [if_neg e2, List.append_nil] at ea
          refine iteN (fun y => hz (V.int.inj y)) ?_
          exact ⟨_, _, rfl, s3, by rw [ea]; exact hL3⟩
    · rintro σ H2 ⟨v4, v5, rfl, s2, hL2⟩
      rw [List.length_map] at hL2
      exact ⟨_, rfl, q L H2 s2 hL hL2⟩
def sp_steps_from (K : PySem.W.Frag) (C : Addr) : Sp := fun vs H Q E => ∃ (a b : Addr) (x y z : Int), vs = [.ref a, .ref b] ∧ SqT K H a [.int x, .int y, .int z] ∧ Small3 x y z ∧
  (GoodT x y z → ∃ s : Std, IsStd K H b s ∧ GoodS ⟨x, y, z.toNat⟩ s ∧ ∀ (r : Addr) (H' : Hp), Same H H' → H r = none → IsSteps K H' r (stepsOf ⟨x, y, z.toNat⟩ s) → Q (.ref r) H') ∧ (¬ GoodT x y z → E (.ref C) none H)
theorem sc_steps_from : FnScope ["model", "stand", "takes", "hears", "steps", "take", "hear"] ["model", "stand"] (defScope s_steps_from) := ⟨rfl, rfl, rfl, by decide +kernel, rfl, by decide +kernel, by decide +kernel⟩
theorem ok_steps_from (F : Site K mg "steps_from" s_steps_from) (T : Txt K mg t) (D_look_model : Def P w K mg base 2 "look_model" ["model"] (sp_look_model K t.BadModel)) (D_ages_at : Def P w K mg base 1 "ages_at" ["entries", "number", "many"] (sp_ages_at K)) : Def P w K mg base 3 "steps_from" ["model", "stand"] (sp_steps_from K t.BadModel) := by
  refine F.def sc_steps_from (fun _ _ _ _ _ _ us hl => match us, hl with | [_, _], _ => rfl) (fun vs H Q E h => ?_) (fun f cdv A outer s H vs Q E hr h => ?_)
  · obtain ⟨a, b, x, y, z, rfl, _⟩ := h
    rfl
  · obtain ⟨a, b, x, y, z, rfl, ha, hs, q1, q2⟩ := h
    refine ⟨_, pss_cons (ps_expr (pe_def (D_look_model.mono (by decide)) hr (pass1 cx1_body) (pa_cons (pv 0) pa_nil)))
      (pss_cons (ps_set (i := 2) sc_steps_from.nd rfl (Or.inl rfl) (pe_def (D_ages_at.mono (by decide)) hr passN (pa_cons (pe_ix (ix_tupK K) (pv 1) pe_int (fun _ _ => rfl)) (pa_cons pe_int (pa_cons (pe_ix (ix_tupK K) (pv 0) pe_int (fun _ _ => rfl)) pa_nil)))))
      (pss_cons (ps_set (i := 3) sc_steps_from.nd rfl (Or.inl rfl) (pe_ifExp (pt_cmpR op_eq (pe_ix (ix_tupK K) (pv 1) pe_int (fun _ _ => rfl)) pe_int (nomark _)) (pe_def (D_ages_at.mono (by decide)) hr passN (pa_cons (pe_ix (ix_tupK K) (pv 1) pe_int (fun _ _ => rfl)) (pa_cons (pe_op op_add (pe_ix (ix_tupK K) (pv 1) pe_int (fun _ _ => rfl)) pe_int) (pa_cons (pe_ix (ix_tupK K) (pv 0) pe_int (fun _ _ => rfl)) pa_nil)))) (pe_lst (pa_cons pe_int pa_nil))))
      (pss_cons (ps_set (i := 4) sc_steps_from.nd rfl (Or.inl rfl) (pe_lst pa_nil))
      (pss_cons (PS.nox (ps_for PassesOwn.never rfl (pi_listK K (pv 2)) (pg_name (i := 5) sc_steps_from.nd rfl (Or.inl rfl))
        (pss_one (ps_for PassesOwn.never rfl (pi_listK K (pv 3)) (pg_name (i := 6) sc_steps_from.nd rfl (Or.inl rfl))
          (pss_one (ps_expr (pe_bmK K PySem.F.plainAttrs_list PySem.F.slot_list_append PySem.F.type_list_append mt_append (pv 4) (pa_cons (pe_tup (pa_cons (pv 5) (pa_cons (pv 6) pa_nil))) pa_nil))))))))
      (pss_one (ps_ret (pv 4))))))), ?_⟩
    have hsz : (2000 : Nat) ≤ sizeLine := by decide
    refine ⟨_, rfl, a, x, y, z, rfl, ha, hs, fun g => ?_, fun g => q2 g⟩
    have gM := good_of g
    obtain ⟨s, hS, gS, q⟩ := q1 g
    generalize hMM : (⟨x, y, z.toNat⟩ : Md) = M at *
    have ex : x = M.m := by rw [← hMM]
    subst ex
    obtain ⟨c, d, h1, h2, h3⟩ := hS.ex
    have l1 := gS.se
    have l2 := gS.to
    have l3 := gM.l1
    have m0 := gM.m0
    refine ⟨_, rfl, b, _, _, _, rfl, rfl, h1, rfl, _, rfl, a, _, _, _, rfl, rfl, ha, rfl, c, s.se, 0, M.m, rfl, h2, by omega, by omega, fun r1 H1 s1 n1 hr1 => ?_⟩
    rw [← takes_ages gS] at hr1
    have prevlen : ∀ i, (((takesL M s).take i).flatMap fun a => rowOf a (hearsL M s)).length ≤ 16 := fun i => by
      have e1 := flat_len (fun a : Nat => rowOf a (hearsL M s)) 4 (fun a => by unfold rowOf; rw [List.length_map]; have := hears_len M s; omega) ((takesL M s).take i)
      have e2 := takes_len M s
      have e3 : ((takesL M s).take i).length ≤ (takesL M s).length := by rw [List.length_take]; exact Nat.min_le_right _ _
      omega
    refine ⟨_, rfl, b, _, _, _, rfl, rfl, s1.tup h1, rfl, rfl, _, rfl, ?_⟩
    by_cases hr0 : s.rs = 0
    case' pos =>
      refine iteY (by rw [hr0]) ?_
      refine ⟨_, rfl, b, _, _, _, rfl, rfl, s1.tup h1, rfl, _, rfl, b, _, _, _, rfl, rfl, s1.tup h1, rfl, _, _, rfl, rfl, _, rfl, a, _, _, _, rfl, rfl, s1.tup ha, rfl, d, s.to, s.ah + 1, M.m, rfl, s1.tup h3, by omega, by omega, fun r2 H2 s2 n2 hr2 => ?_⟩
      rw [← hears_ages gS hr0] at hr2
    case' neg =>
      refine iteN (fun e => hr0 (V.int.inj e)) ?_
      refine ⟨by show 1 ≤ sizeLine; decide, fun r2 n2 => ?_⟩
      have s2 : Same H1 (upd H1 r2 (.lst [.int 0])) := (Same.refl _).new n2
      have hr2 : (upd H1 r2 (.lst [.int 0])) r2 = some (.lst (natsV (hearsL M s))) := by rw [hears_rest hr0]; exact upd_same
      generalize upd H1 r2 (.lst [.int 0]) = H2 at *
    all_goals
      refine ⟨by show 0 ≤ sizeLine; decide, fun L hL => ?_⟩
      have s3 : Same H2 (upd H2 L (.lst [])) := (Same.refl _).new hL
      have hr1' := s2 _ _ hr1
      refine ⟨_, rfl, r1, rfl, ⟨_, SqL.of (s3 _ _ hr1')⟩, for_list (K := K) (a := r1) (xs := natsV (takesL M s)) (fun i σ H4 => ∃ v5 v6 : Option V, σ = [some (.ref a), some (.ref b), some (.ref r1), some (.ref r2), some (.ref L), v5, v6] ∧ Same H2 H4 ∧ IsSteps K H4 L (((takesL M s).take i).flatMap fun a => rowOf a (hearsL M s)))
        ⟨none, none, rfl, s3, fun _ => 0, upd_same, fun y q hq => by cases hq⟩ (fun i σ H4 _ ⟨_, _, _, s4, _⟩ => SqL.of (s4 _ _ hr1')) ?_ ?_⟩
      · rintro i v σ H4 hi ⟨v5, v6, rfl, s4, hst⟩
        obtain ⟨k, hk, rfl⟩ := nat_at hi
        refine ⟨_, rfl, r2, rfl, ⟨_, SqL.of (s4 _ _ hr2)⟩, for_list (K := K) (a := r2) (xs := natsV (hearsL M s)) (fun j σ H5 => ∃ v6 : Option V, σ = [some (.ref a), some (.ref b), some (.ref r1), some (.ref r2), some (.ref L), some (.int (k : Int)), v6] ∧ Same H2 H5 ∧ IsSteps K H5 L ((((takesL M s).take i).flatMap fun a => rowOf a (hearsL M s)) ++ rowOf k ((hearsL M s).take j)))
          ⟨v6, rfl, s4, by rw [List.take_zero, show rowOf k [] = [] from rfl, List.append_nil]; exact hst⟩ (fun j σ H5 _ ⟨_, _, s5, _⟩ => SqL.of (s5 _ _ hr2)) ?_ ?_⟩
        · rintro j u σ H5 hj ⟨v6, rfl, s5, tps, g1, g2⟩
          obtain ⟨e, he, rfl⟩ := nat_at hj
          refine ⟨_, rfl, .inl ⟨rfl, _, SqL.of g1⟩, _, rfl, _, rfl, by show 2 ≤ sizeLine; decide, fun tp htp => ?_⟩
          have nLt : L ≠ tp := ne_of_none g1 htp
          refine ⟨L, _, _, rfl, rfl, by rw [upd_ne nLt]; exact g1, ?_, ?_⟩
          · rw [tab_len, List.length_append]
            have := prevlen i
            have e4 : (rowOf k ((hearsL M s).take j)).length ≤ 4 := by unfold rowOf; rw [List.length_map, List.length_take]; have := hears_len M s; omega
            omega
          · refine ⟨_, rfl, (s5.put (s5.free htp)).put hL, ?_⟩
            have e5 : rowOf k ((hearsL M s).take (j + 1)) = rowOf k ((hearsL M s).take j) ++ [((k : Int), (e : Int))] := by unfold rowOf; rw [take_succ_at he, List.map_append]; rfl
            rw [e5, ← List.append_assoc]
            exact steps_snoc (q := ((k : Int), (e : Int))) g1 g2 htp
        · rintro σ H5 ⟨v6, rfl, s5, hst5⟩
          refine ⟨_, _, rfl, s5, ?_⟩
          have e6 : (hearsL M s).take (natsV (hearsL M s)).length = hearsL M s := by unfold natsV; rw [List.length_map, List.take_length]
          rw [e6] at hst5
          rw [take_succ_at hk, List.flatMap_append, List.flatMap_singleton]
          exact hst5
      · rintro σ H4 ⟨v5, v6, rfl, s4, hst⟩
        have e7 : (takesL M s).take (natsV (takesL M s)).length = takesL M s := by unfold natsV; rw [List.length_map, List.take_length]
        rw [e7] at hst
        exact ⟨_, rfl, q L H4 ((s1.trans s2).trans s4) ((s1.trans s2).free hL) hst⟩
/-! _law_left, _law_next: the pot -/
structure Lf (B H : Hp) (p : Addr) : Prop where
  no : B p = none
  at_ : ∃ r m k : Int, H p = some (.lst [.int r, .int m, .int k])
  sm : Same B H
theorem Lf.turn {B H : Hp} {p : Addr} {r m k : Int} (h : Lf B H p) : Lf B (upd H p (.lst [.int r, .int m, .int k])) p := ⟨h.no, ⟨r, m, k, upd_same⟩, h.sm.put h.no⟩
theorem Lf.ne {B H : Hp} {p q : Addr} (h : Lf B H p) (e : H q = none) : q ≠ p := fun z => by obtain ⟨r, m, k, g⟩ := h.at_; rw [z, g] at e; cases e
/-- an object more, kept in the shadow -/
theorem Lf.new {B H : Hp} {p q : Addr} {o : HO} (h : Lf B H p) (e : H q = none) : Lf (upd B q o) (upd H q o) p := by
  have n := h.ne e
  obtain ⟨r, m, k, g⟩ := h.at_
  refine ⟨by rw [upd_ne (Ne.symm n)]; exact h.no, ⟨r, m, k, by rw [upd_ne (Ne.symm n)]; exact g⟩, fun b u eb => ?_⟩
  by_cases z : b = q
  · subst z; rw [upd_same] at eb ⊢; exact eb
  · rw [upd_ne z] at eb ⊢; exact h.sm _ _ eb
theorem Lf.keep {B H H' : Hp} {p : Addr} (h : Lf B H p) (s : Same H H') : Lf B H' p := by
  obtain ⟨r, m, k, g⟩ := h.at_
  exact ⟨h.no, ⟨r, m, k, s _ _ g⟩, h.sm.trans s⟩
def sp__law_left : Sp := fun vs H Q _ => ∃ c : Int, vs = [.int c] ∧ ∀ (p : Addr) (r m : Int), H p = none → Q (.ref p) (upd H p (.lst [.int r, .int m, .int 0]))
theorem sc__law_left : FnScope ["cell"] ["cell"] (defScope s__law_left) := ⟨rfl, rfl, rfl, by decide +kernel, rfl, by decide +kernel, by decide +kernel⟩
theorem ok__law_left (F : Site K mg "_law_left" s__law_left) (T : Txt K mg t) : Def P w K mg base 1 "_law_left" ["cell"] sp__law_left := by
  refine F.def sc__law_left (fun _ _ _ _ _ _ us hl => match us, hl with | [_], _ => rfl) (fun vs H Q E h => ?_) (fun f cdv A outer s H vs Q E hr h => ?_)
  · obtain ⟨c, rfl, _⟩ := h
    rfl
  · obtain ⟨c, rfl, q⟩ := h
    refine ⟨_, pss_one (ps_ret (pe_lst (pa_cons (pe_callB (call_max2 rfl) (by rfl) T.n_max boot_max (pa_cons pe_int (pa_cons (pe_op op_sub (pv 0) (pe_op op_pow pe_int pe_int)) pa_nil))) (pa_cons (pe_op op_mod (pv 0) (pe_op op_pow pe_int pe_int)) (pa_cons pe_int pa_nil))))), ?_⟩
    have p18 : (10 : Int) ^ (18 : Int).toNat = 1000000000000000000 := by decide
    refine ⟨_, rfl, _, _, rfl, rfl, ⟨by decide, by decide, by decide⟩, _, _, rfl, rfl, _, _, rfl, _, rfl, _, _, rfl, rfl, ⟨by decide, by decide, by decide⟩, _, _, rfl, rfl, (by show (0 : Int) < 10 ^ (18 : Int).toNat; rw [p18]; decide), by show 3 ≤ sizeLine; decide, fun p hp => ?_⟩
    exact q p _ _ hp
def sp__law_next : Sp := fun vs H Q _ => ∃ (p : Addr) (size : Int), vs = [.ref p, .int size] ∧ 0 < size ∧ size < 1073741824 ∧ (∃ r m k : Int, H p = some (.lst [.int r, .int m, .int k])) ∧
  ∀ (d r m k : Int), 0 ≤ d → d < size → Q (.int d) (upd H p (.lst [.int r, .int m, .int k]))
theorem sc__law_next : FnScope ["left", "base", "digit", "near", "stir"] ["left", "base"] (defScope s__law_next) := ⟨rfl, rfl, rfl, by decide +kernel, rfl, by decide +kernel, by decide +kernel⟩
theorem ok__law_next (F : Site K mg "_law_next" s__law_next) : Def P w K mg base 1 "_law_next" ["left", "base"] sp__law_next := by
  refine F.def sc__law_next (fun _ _ _ _ _ _ us hl => match us, hl with | [_, _], _ => rfl) (fun vs H Q E h => ?_) (fun f cdv A outer s H vs Q E hr h => ?_)
  · obtain ⟨p, size, rfl, _⟩ := h
    rfl
  · obtain ⟨p, size, rfl, s0, s1, ⟨r, m, k, hp⟩, q⟩ := h
    refine ⟨_, pss_cons (ps_if (pt_cmpR op_gt (pe_ix (ix_listK K) (pv 0) pe_int (fun _ _ => rfl)) pe_int (nomark _))
        (pss_cons (ps_set (i := 2) sc__law_next.nd rfl (Or.inl rfl) (pe_op op_mod (pe_ix (ix_listK K) (pv 0) pe_int (fun _ _ => rfl)) (pv 1)))
        (pss_cons (ps_asg (pe_op op_fdiv (pe_ix (ix_listK K) (pv 0) pe_int (fun _ _ => rfl)) (pv 1)) (pg_sub (pv 0) pe_int set_list))
        (pss_one (ps_ret (pv 2)))))
        (pss_nil))
      (pss_cons (ps_asg (pe_op op_add (pe_ix (ix_listK K) (pv 0) pe_int (fun _ _ => rfl)) pe_int) (pg_sub (pv 0) pe_int set_list))
      (pss_cons (ps_set (i := 3) sc__law_next.nd rfl (Or.inl rfl) (pe_op op_mod (pe_op op_add (pe_ix (ix_listK K) (pv 0) pe_int (fun _ _ => rfl)) (pe_op op_mul pe_int (pe_ix (ix_listK K) (pv 0) pe_int (fun _ _ => rfl)))) pe_int))
      (pss_cons (ps_set (i := 4) sc__law_next.nd rfl (Or.inl rfl) (pe_op op_mod (pe_op op_mul (pe_op op_add (pv 3) pe_int) (pe_op op_add (pv 3) pe_int)) pe_int))
      (pss_one (ps_ret (pe_op op_mod (pe_op op_fdiv (pe_op op_mod (pe_op op_mul (pv 4) (pv 4)) pe_int) pe_int) (pv 1))))))), ?_⟩
    refine ⟨_, rfl, p, _, _, _, rfl, rfl, SqL.of hp, rfl, _, _, rfl, rfl, _, rfl, ?_⟩
    refine ite2 (fun h => ?_) (fun h => ?_)
    · refine ⟨_, rfl, p, _, _, _, rfl, rfl, SqL.of hp, rfl, _, rfl, _, _, rfl, rfl, s0, ?_⟩
      refine ⟨_, rfl, p, _, _, _, rfl, rfl, SqL.of hp, rfl, _, rfl, _, _, rfl, rfl, ⟨s0, s1⟩, _, rfl, p, _, _, _, rfl, rfl, hp, rfl, ?_⟩
      exact ⟨_, rfl, q _ _ _ _ (Int.emod_nonneg _ (by omega)) (Int.emod_lt_of_pos _ s0)⟩
    · have hp2 : ∀ xs, (upd H p (.lst xs)) p = some (.lst xs) := fun xs => upd_same
      refine ⟨_, rfl, p, _, _, _, rfl, rfl, SqL.of hp, rfl, _, _, rfl, rfl, _, rfl, p, _, _, _, rfl, rfl, hp, rfl, ?_⟩
      refine ⟨_, rfl, p, _, _, _, rfl, rfl, SqL.of (hp2 _), rfl, _, rfl, p, _, _, _, rfl, rfl, SqL.of (hp2 _), rfl, _, _, rfl, rfl, .inl ⟨by decide, by decide⟩, _, _, rfl, rfl, _, _, rfl, rfl, (by show (0 : Int) < 1000000007; decide), ?_⟩
      generalize hM : (m + 7919 * (k + 1)) % 1000000007 = M
      have hM1 : 0 ≤ M := by rw [← hM]; exact Int.emod_nonneg _ (by decide)
      have hM2 : M < 1000000007 := by rw [← hM]; exact Int.emod_lt_of_pos _ (by decide)
      refine ⟨_, rfl, _, _, rfl, rfl, _, rfl, _, _, rfl, rfl, _, _, rfl, rfl, .inl ⟨by omega, by omega⟩, _, _, rfl, rfl, (by show (0 : Int) < 998244353; decide), ?_⟩
      generalize hN : (M + 11) * (M + 48271) % 998244353 = N
      have hN1 : 0 ≤ N := by rw [← hN]; exact Int.emod_nonneg _ (by decide)
      have hN2 : N < 998244353 := by rw [← hN]; exact Int.emod_lt_of_pos _ (by decide)
      refine ⟨_, rfl, _, rfl, _, _, rfl, rfl, .inl ⟨by omega, by omega⟩, _, _, rfl, rfl, (by show (0 : Int) < 2147483647; decide), _, _, rfl, rfl, ⟨by decide, by decide⟩, _, rfl, _, _, rfl, rfl, s0, ?_⟩
      exact q _ _ _ _ (Int.emod_nonneg _ (by omega)) (Int.emod_lt_of_pos _ s0)
/-! dicts with stands as keys, reckoned -/
def keepsB (M : Md) (s : Std) (ks : List Std) : Bool := (stepsOf M s).all fun q => !wrongB s q && decide (behindS M s q ∈ ks)
def putKs (ks : List Std) (k : Std) : List Std := if k ∈ ks then ks else ks ++ [k]
theorem keys_put (xs : SX) (k : Std) (b : Addr) (v : V) : (putS xs k b v).map (·.1) = putKs (xs.map (·.1)) k := by
  unfold putKs
  by_cases h : k ∈ xs.map (·.1)
  · rw [if_pos h, putS_keys_old h]
  · rw [if_neg h, putS_new h, List.map_append]; rfl
def dedupS (ss : List Std) : List Std := ss.foldl putKs []
theorem allS_keys (L : List VQ) : (allS L).map (·.1) = dedupS (L.map (·.2.1)) := by
  have gen : ∀ (L : List VQ) (acc : SX), (L.foldl (fun acc q => putS acc q.2.1 q.2.2.1 q.2.2.2) acc).map (·.1) = (L.map (·.2.1)).foldl putKs (acc.map (·.1)) := by
    intro L
    induction L with
    | nil => intro acc; rfl
    | cons q L ih => intro acc; rw [List.foldl_cons, List.map_cons, List.foldl_cons, ih, keys_put]
  exact gen L []
theorem putKs_mem {ks : List Std} {k x : Std} : x ∈ putKs ks k ↔ x ∈ ks ∨ x = k := by
  unfold putKs
  split
  · rename_i h
    exact ⟨.inl, fun e => e.elim id fun e => by rw [e]; exact h⟩
  · simp
theorem fold_mem : ∀ (ss : List Std) (acc : List Std) (x : Std), x ∈ ss.foldl putKs acc ↔ x ∈ acc ∨ x ∈ ss
  | [], acc, x => by simp
  | k :: ss, acc, x => by
    rw [List.foldl_cons, fold_mem ss, putKs_mem, List.mem_cons]
    constructor
    · rintro ((h | h) | h)
      · exact .inl h
      · exact .inr (.inl h)
      · exact .inr (.inr h)
    · rintro (h | h | h)
      · exact .inl (.inl h)
      · exact .inl (.inr h)
      · exact .inr h
theorem dedup_mem {ss : List Std} {x : Std} : x ∈ dedupS ss ↔ x ∈ ss := by unfold dedupS; rw [fold_mem]; simp
theorem fold_len : ∀ (ss : List Std) (acc : List Std), acc.Nodup → (ss.foldl putKs acc).length ≤ acc.length + ss.length ∧ ((ss.foldl putKs acc).length = acc.length + ss.length ↔ (acc ++ ss).Nodup)
  | [], acc, h => by simp [h]
  | k :: ss, acc, h => by
    rw [List.foldl_cons, List.length_cons]
    by_cases hk : k ∈ acc
    · have e : putKs acc k = acc := if_pos hk
      rw [e]
      obtain ⟨h1, _⟩ := fold_len ss acc h
      refine ⟨by omega, fun z => by omega, fun z => ?_⟩
      rw [List.nodup_append] at z
      exact absurd rfl (z.2.2 k hk k List.mem_cons_self)
    · have e : putKs acc k = acc ++ [k] := if_neg hk
      rw [e]
      obtain ⟨h1, h2⟩ := fold_len ss (acc ++ [k]) (nd_snoc h hk)
      rw [List.length_append, List.length_singleton] at h1 h2
      rw [List.append_assoc] at h2
      exact ⟨by omega, ⟨fun z => h2.mp (by omega), fun z => by have := h2.mpr z; omega⟩⟩
theorem dedup_len (ss : List Std) : (dedupS ss).length = ss.length ↔ ss.Nodup := by
  have := (fold_len ss [] List.nodup_nil).2
  simpa [dedupS] using this
def fenceB (M : Md) (ss : List Std) : Bool := decide ((dedupS ss).length = ss.length) && decide (firstS M.la ∈ dedupS ss) && ss.all fun s => keepsB M s (dedupS ss)
end
end K24
namespace K24
open PySem L2 PyProof.Rows
section
variable {P : Program} {w : World} {K : PySem.W.Frag} {mg : Str → Option Value} {base : Heap} {t : Ad}
theorem at_ent {es : List (Option Int)} {x : Int} (h0 : 0 < x) (h1 : x ≤ es.length) : atI (es.map ent) (x - 1) = some (ent ((es[(x - 1).toNat]?).getD none)) := by
  obtain ⟨j, hj⟩ : ∃ j : Nat, x - 1 = j := ⟨(x - 1).toNat, by omega⟩
  have hl : j < es.length := by omega
  rw [hj, Int.toNat_natCast]
  refine atI_nat ?_
  simp [hl]
theorem scal_ent (e : Option Int) (n : Int) : scal (ent e) (.int n) = true := by cases e <;> rfl
theorem dec_ent (e : Option Int) (n : Int) : decide (ent e = V.int n) = decide (e = some n) := by
  cases e with
  | none => rfl
  | some z => by_cases h : z = n <;> simp [ent, h]
theorem cut_last (xs : List V) : cutV xs none (some (-1)) = xs.dropLast := by
  unfold cutV
  rw [HT.sIx_none, List.drop_zero, Nat.sub_zero, List.dropLast_eq_take]
  congr 1
  show (if (-1 : Int) < 0 then ((-1 : Int) + (xs.length : Int)).toNat else min (-1 : Int).toNat xs.length) = xs.length - 1
  rw [if_pos (by decide)]
  omega
theorem drop_ent (es : List (Option Int)) : (es.map ent).dropLast = es.dropLast.map ent := by rw [List.map_dropLast]
/-! is_wrong, shifted, next_stand -/
def sp_is_wrong (K : PySem.W.Frag) (C : Addr) : Sp := fun vs H Q E => ∃ (a b c : Addr) (x y z : Int), vs = [.ref a, .ref b, .ref c] ∧ SqT K H a [.int x, .int y, .int z] ∧ Small3 x y z ∧
  (GoodT x y z → ∃ (s : Std) (u v : Int), IsStd K H b s ∧ SqT K H c [.int u, .int v] ∧ u ≤ s.se.length ∧ v ≤ s.to.length ∧ Q (.bl (wrongB s (u, v))) H) ∧ (¬ GoodT x y z → E (.ref C) none H)
theorem sc_is_wrong : FnScope ["model", "stand", "step", "wrong_take", "wrong_hear"] ["model", "stand", "step"] (defScope s_is_wrong) := ⟨rfl, rfl, rfl, by decide +kernel, rfl, by decide +kernel, by decide +kernel⟩
theorem ok_is_wrong (F : Site K mg "is_wrong" s_is_wrong) (T : Txt K mg t) (D_look_model : Def P w K mg base 2 "look_model" ["model"] (sp_look_model K t.BadModel)) : Def P w K mg base 3 "is_wrong" ["model", "stand", "step"] (sp_is_wrong K t.BadModel) := by
  refine F.def sc_is_wrong (fun _ _ _ _ _ _ us hl => match us, hl with | [_, _, _], _ => rfl) (fun vs H Q E h => ?_) (fun f cdv A outer s H vs Q E hr h => ?_)
  · obtain ⟨a, b, c, x, y, z, rfl, _⟩ := h
    rfl
  · obtain ⟨a, b, c, x, y, z, rfl, ha, hs, q1, q2⟩ := h
    refine ⟨_, pss_cons (ps_expr (pe_def (D_look_model.mono (by decide)) hr (pass1 cx1_body) (pa_cons (pv 0) pa_nil)))
      (pss_cons (ps_set (i := 3) sc_is_wrong.nd rfl (Or.inl rfl) (pe_and (pe_cmpR op_gt (pe_ix (ix_tupK K) (pv 2) pe_int (fun _ _ => rfl)) pe_int (nomark _)) (pe_one (pe_cmpR op_ne (pe_ix (ix_tupK K) (pe_ix (ix_tupK K) (pv 1) pe_int (fun _ _ => rfl)) (pe_op op_sub (pe_ix (ix_tupK K) (pv 2) pe_int (fun _ _ => rfl)) pe_int) (fun _ _ => rfl)) pe_int (nomark _)))))
      (pss_cons (ps_set (i := 4) sc_is_wrong.nd rfl (Or.inl rfl) (pe_and (pe_cmpR op_gt (pe_ix (ix_tupK K) (pv 2) pe_int (fun _ _ => rfl)) pe_int (nomark _)) (pe_one (pe_cmpR op_ne (pe_ix (ix_tupK K) (pe_ix (ix_tupK K) (pv 1) pe_int (fun _ _ => rfl)) (pe_op op_sub (pe_ix (ix_tupK K) (pv 2) pe_int (fun _ _ => rfl)) pe_int) (fun _ _ => rfl)) (pe_op op_add (pe_ix (ix_tupK K) (pv 1) pe_int (fun _ _ => rfl)) pe_int) (nomark _)))))
      (pss_one (ps_ret (pe_or (pv 3) (pe_one (pv 4))))))), ?_⟩
    refine ⟨_, rfl, a, x, y, z, rfl, ha, hs, fun g => ?_, fun g => q2 g⟩
    obtain ⟨s, u, v, hS, hc, hu, hv, q⟩ := q1 g
    obtain ⟨b1, b2, g1, g2, g3⟩ := hS.ex
    refine ⟨_, rfl, c, _, _, _, rfl, rfl, hc, rfl, _, _, rfl, rfl, _, rfl, ?_⟩
    by_cases h1 : 0 < u
    case' pos =>
      refine iteY h1 ?_
      refine ⟨_, rfl, b, _, _, _, rfl, rfl, g1, rfl, _, rfl, c, _, _, _, rfl, rfl, hc, rfl, _, _, rfl, rfl, b1, _, _, _, rfl, rfl, g2, at_ent h1 hu, scal_ent _ _, ?_⟩
      rw [dec_ent]
      have ew : (!decide ((s.se[(u - 1).toNat]?).getD none = some 0)) = wrongT s u := by unfold wrongT; rw [decide_eq_true h1, Bool.true_and]
    case' neg =>
      refine iteN h1 ?_
      have ew : false = wrongT s u := by unfold wrongT; rw [decide_eq_false h1]; rfl
    all_goals
      refine ⟨_, rfl, c, _, _, _, rfl, rfl, hc, rfl, _, _, rfl, rfl, _, rfl, ?_⟩
      by_cases h2 : 0 < v
      · refine iteY h2 ?_
        refine ⟨_, rfl, b, _, _, _, rfl, rfl, g1, rfl, _, rfl, c, _, _, _, rfl, rfl, hc, rfl, _, _, rfl, rfl, b2, _, _, _, rfl, rfl, g3, at_ent h2 hv, _, rfl, b, _, _, _, rfl, rfl, g1, rfl, _, _, rfl, rfl, scal_ent _ _, ?_⟩
        rw [dec_ent]
        have ew2 : (!decide ((s.to[(v - 1).toNat]?).getD none = some (s.ah + 1))) = wrongH s v := by unfold wrongH; rw [decide_eq_true h2, Bool.true_and]
        refine ⟨_, rfl, _, rfl, ?_⟩
        refine ite2 (fun e => ?_) (fun e => ?_)
        · rw [show wrongB s (u, v) = true by unfold wrongB; rw [← ew, e]; rfl] at q
          exact q
        · rw [show wrongB s (u, v) = wrongH s v by unfold wrongB; rw [← ew, Bool.eq_false_iff.mpr e]; rfl, ← ew2] at q
          exact ⟨_, rfl, q⟩
      · refine iteN h2 ?_
        have ew2 : false = wrongH s v := by unfold wrongH; rw [decide_eq_false h2]; rfl
        refine ⟨_, rfl, _, rfl, ?_⟩
        refine ite2 (fun e => ?_) (fun e => ?_)
        · rw [show wrongB s (u, v) = true by unfold wrongB; rw [← ew, e]; rfl] at q
          exact q
        · rw [show wrongB s (u, v) = wrongH s v by unfold wrongB; rw [← ew, Bool.eq_false_iff.mpr e]; rfl, ← ew2] at q
          exact ⟨_, rfl, q⟩
def sp_shifted (K : PySem.W.Frag) : Sp := fun vs H Q _ => ∃ (b : Addr) (gv : Option Int) (es : List (Option Int)) (g : Int), vs = [ent gv, .ref b, .int g] ∧ SqT K H b (es.map ent) ∧ es.length ≤ 3 ∧ ∀ (r : Addr) (H' : Hp), Same H H' → SqT K H' r ((gv :: es.dropLast.map (lessE g)).map ent) → Q (.ref r) H'
theorem sc_shifted : FnScope ["given", "entries", "grown", "older"] ["given", "entries", "grown"] (defScope s_shifted) := ⟨rfl, rfl, rfl, by decide +kernel, rfl, by decide +kernel, by decide +kernel⟩
theorem ok_shifted (F : Site K mg "shifted" s_shifted) (T : Txt K mg t) : Def P w K mg base 1 "shifted" ["given", "entries", "grown"] (sp_shifted K) := by
  refine F.def sc_shifted (fun _ _ _ _ _ _ us hl => match us, hl with | [_, _, _], _ => rfl) (fun vs H Q E h => ?_) (fun f cdv A outer s H vs Q E hr h => ?_)
  · obtain ⟨b, gv, es, g, rfl, _⟩ := h
    rfl
  · obtain ⟨b, gv, es, g, rfl, hb, hl, q⟩ := h
    refine ⟨_, pss_cons (ps_setLC (i := 3) sc_shifted.nd rfl (Or.inl rfl) rfl (Nc := ["entry", "grown"]) (ix := [none, some 2]) (cscope (defScope s_shifted) ["given", "entries", "grown", "older"] rfl rfl (by decide +kernel)) (pi_tupK K (pe_slice (sl_tupA K) (pv 1) po_none (po_some (pe_un un_neg pe_int)))) (fun C fp s H => ⟨(pg_name (i := 0) (show (["entry", "grown"] : List Str).Nodup by decide +kernel) rfl (Or.inl rfl)), pts_nil, (pe_ifExp (pt_cmpR op_isN (pv 0) pe_non (nomark _)) pe_non (pe_op op_sub (pv 0) (pv 1)))⟩))
      (pss_one (ps_ret (pe_op (op_catA K) (pe_tup (pa_cons (pv 0) pa_nil)) (pe_callTy (call_tupleK K) (by rfl) T.n_tuple boot_tuple (pa_cons (pv 3) pa_nil))))), ?_⟩
    have hsz : (2000 : Nat) ≤ sizeLine := by decide
    refine ⟨_, rfl, _, rfl, _, rfl, b, _, rfl, hb, fun r4 H4 s4 hr4 => ?_⟩
    rw [cut_last, drop_ent] at hr4
    refine ⟨r4, rfl, ⟨_, hr4⟩, fun D hD => ?_⟩
    refine lc_tup (K := K) (a := r4) (xs := es.dropLast.map ent) (fun i σ H' => ∃ v : Option V, σ = [v, some (.int g)] ∧ Same H4 H' ∧ H' D = some (.lst (((es.dropLast.map (lessE g)).take i).map ent))) ⟨none, rfl, (Same.refl _).new hD, by rw [upd_same]; rfl⟩ (fun i σ H' _ ⟨_, _, s', _⟩ => s'.tup hr4) ?_ ?_
    · rintro i v σ H' N hN hv ⟨w, rfl, s', hDl⟩
      obtain ⟨e, he, rfl⟩ := entry_at hv
      refine turn_do ?_
      have fin : ∃ ys, H' D = some (.lst ys) ∧ ys.length < sizeLine ∧ N [some (ent e), some (.int g)] (upd H' D (.lst (ys ++ [ent (lessE g e)]))) := by
        refine ⟨_, hDl, by rw [List.length_map, List.length_take, List.length_map, List.length_dropLast]; omega, hN _ _ ⟨_, rfl, s'.put hD, ?_⟩⟩
        rw [upd_same, take_succ_at (k := lessE g e) (by rw [List.getElem?_map, he]; rfl), List.map_append]
        rfl
      cases e with
      | none => exact ⟨_, rfl, rfl, _, rfl, iteT fin⟩
      | some z => exact ⟨_, rfl, rfl, _, rfl, iteF ⟨_, rfl, _, rfl, _, _, rfl, rfl, fin⟩⟩
    · rintro σ H5 ⟨w, rfl, s5, hDl⟩
      rw [show (List.map ent es.dropLast).length = (List.map (lessE g) es.dropLast).length by simp, List.take_length] at hDl
      refine ⟨_, rfl, by show 1 ≤ sizeLine; decide, fun t1 ht1 => ?_⟩
      have s6 : Same H5 (upd H5 t1 (.tup [ent gv])) := (Same.refl _).new ht1
      have e6 : (upd H5 t1 (.tup [ent gv])) t1 = some (.tup [ent gv]) := upd_same
      generalize upd H5 t1 (.tup [ent gv]) = H6 at *
      refine ⟨_, rfl, D, _, rfl, .inl ⟨SqL.of (s6 _ _ hDl), fun u hu => ?_⟩⟩
      have s7 : Same H6 (upd H6 u (.tup ((es.dropLast.map (lessE g)).map ent))) := (Same.refl _).new hu
      have e7 : (upd H6 u (.tup ((es.dropLast.map (lessE g)).map ent))) u = some (.tup ((es.dropLast.map (lessE g)).map ent)) := upd_same
      generalize upd H6 u (.tup ((es.dropLast.map (lessE g)).map ent)) = H7 at *
      refine ⟨t1, u, _, _, rfl, rfl, SqT.of (s7 _ _ e6), SqT.of e7, by rw [List.length_map, List.length_map, List.length_dropLast]; show 1 + _ ≤ sizeLine; omega, fun v8 H8 s8 hv8 => ?_⟩
      exact q v8 H8 ((s4.trans s5).trans ((s6.trans s7).trans s8)) hv8
def sp_next_stand (K : PySem.W.Frag) (C : Addr) : Sp := fun vs H Q E => ∃ (a b c : Addr) (x y z : Int), vs = [.ref a, .ref b, .ref c] ∧ SqT K H a [.int x, .int y, .int z] ∧ Small3 x y z ∧
  (GoodT x y z → ∃ (s : Std) (u v : Int), IsStd K H b s ∧ GoodS ⟨x, y, z.toNat⟩ s ∧ SqT K H c [.int u, .int v] ∧ ∀ (r : Addr) (H' : Hp), Same H H' → IsStd K H' r (behindS ⟨x, y, z.toNat⟩ s (u, v)) → Q (.ref r) H') ∧ (¬ GoodT x y z → E (.ref C) none H)
theorem sc_next_stand : FnScope ["model", "stand", "step", "grown", "ahead", "rest", "given"] ["model", "stand", "step"] (defScope s_next_stand) := ⟨rfl, rfl, rfl, by decide +kernel, rfl, by decide +kernel, by decide +kernel⟩
theorem ok_next_stand (F : Site K mg "next_stand" s_next_stand) (T : Txt K mg t) (D_look_model : Def P w K mg base 2 "look_model" ["model"] (sp_look_model K t.BadModel)) (D_shifted : Def P w K mg base 1 "shifted" ["given", "entries", "grown"] (sp_shifted K)) : Def P w K mg base 3 "next_stand" ["model", "stand", "step"] (sp_next_stand K t.BadModel) := by
  refine F.def sc_next_stand (fun _ _ _ _ _ _ us hl => match us, hl with | [_, _, _], _ => rfl) (fun vs H Q E h => ?_) (fun f cdv A outer s H vs Q E hr h => ?_)
  · obtain ⟨a, b, c, x, y, z, rfl, _⟩ := h
    rfl
  · obtain ⟨a, b, c, x, y, z, rfl, ha, hs, q1, q2⟩ := h
    refine ⟨_, pss_cons (ps_expr (pe_def (D_look_model.mono (by decide)) hr (pass1 cx1_body) (pa_cons (pv 0) pa_nil)))
      (pss_cons (ps_set (i := 3) sc_next_stand.nd rfl (Or.inl rfl) (pe_ifExp (pt_cmpR op_gt (pe_ix (ix_tupK K) (pv 2) pe_int (fun _ _ => rfl)) pe_int (nomark _)) pe_int pe_int))
      (pss_cons (ps_set (i := 4) sc_next_stand.nd rfl (Or.inl rfl) (pe_op op_sub (pe_ix (ix_tupK K) (pv 1) pe_int (fun _ _ => rfl)) (pv 3)))
      (pss_cons (ps_set (i := 5) sc_next_stand.nd rfl (Or.inl rfl) (pe_ix (ix_tupK K) (pv 1) pe_int (fun _ _ => rfl)))
      (pss_cons (ps_cut (ps_if (pt_cmpR op_gt (pe_ix (ix_tupK K) (pv 2) pe_int (fun _ _ => rfl)) pe_int (nomark _))
        (pss_cons (ps_aug (i := 4) sc_next_stand.nd rfl (Or.inl rfl) pe_int ip_add)
        (pss_one (ps_set (i := 5) sc_next_stand.nd rfl (Or.inl rfl) (pe_ix (ix_tupK K) (pv 0) pe_int (fun _ _ => rfl)))))
        (pss_nil)))
      (pss_cons (ps_set (i := 6) sc_next_stand.nd rfl (Or.inl rfl) (pv 4))
      (pss_cons (ps_cut (ps_if (pt_cmpR op_gt (pv 5) pe_int (nomark _))
        (pss_cons (ps_aug (i := 5) sc_next_stand.nd rfl (Or.inl rfl) pe_int ip_sub)
        (pss_one (ps_set (i := 6) sc_next_stand.nd rfl (Or.inl rfl) pe_non)))
        (pss_nil)))
      (pss_one (ps_ret (pe_tup (pa_cons (pv 4) (pa_cons (pv 5) (pa_cons (pe_def (D_shifted.mono (by decide)) hr passN (pa_cons (pv 6) (pa_cons (pe_ix (ix_tupK K) (pv 1) pe_int (fun _ _ => rfl)) (pa_cons (pv 3) pa_nil)))) (pa_cons (pe_def (D_shifted.mono (by decide)) hr passN (pa_cons pe_int (pa_cons (pe_ix (ix_tupK K) (pv 1) pe_int (fun _ _ => rfl)) (pa_cons (pv 3) pa_nil)))) pa_nil))))))))))))), ?_⟩
    refine ⟨_, rfl, a, x, y, z, rfl, ha, hs, fun g => ?_, fun g => q2 g⟩
    obtain ⟨s, u, v, hS, gS, hc, q⟩ := q1 g
    have gM := good_of g
    have hy0 := g.2.1.1
    have hz3 := g.2.2.2
    obtain ⟨b1, b2, g1, g2, g3⟩ := hS.ex
    have l1 : s.se.length = z.toNat := gS.se
    have l2 : s.to.length = z.toNat := gS.to
    have r0 := gS.rs
    -- grown
    refine ⟨_, rfl, c, _, _, _, rfl, rfl, hc, rfl, _, _, rfl, rfl, _, rfl, ?_⟩
    by_cases h1 : 0 < u
    case' pos =>
      refine iteY h1 ?_
      have hgu : (1 : Int) = grownI u := by unfold grownI; rw [if_pos h1]
    case' neg =>
      refine iteN h1 ?_
      have hgu : (0 : Int) = grownI u := by unfold grownI; rw [if_neg h1]
    all_goals
      refine ⟨_, rfl, b, _, _, _, rfl, rfl, g1, rfl, _, rfl, _, _, rfl, rfl, ?_⟩
      refine ⟨_, rfl, b, _, _, _, rfl, rfl, g1, rfl, ?_⟩
      refine ⟨fun σ' H' => ∃ k, σ' = [some (.ref a), some (.ref b), some (.ref c), some (.int k), some (.int (s.ah - grownI u + grownI v)), some (.int (restI ⟨x, y, z.toNat⟩ s (u, v))), none] ∧ k = grownI u ∧ H' = H, ?_, ?_⟩
      · refine ⟨_, rfl, c, _, _, _, rfl, rfl, hc, rfl, _, _, rfl, rfl, _, rfl, ?_⟩
        by_cases h2 : 0 < v
        · refine iteY h2 ?_
          refine ⟨_, rfl, _, _, rfl, rfl, ?_⟩
          refine ⟨_, rfl, a, _, _, _, rfl, rfl, ha, rfl, ?_⟩
          refine ⟨_, ?_, hgu, rfl⟩
          have e1 : s.ah - grownI u + 1 = s.ah - grownI u + grownI v := by unfold grownI; rw [if_pos h2]
          have e2 : y = restI ⟨x, y, z.toNat⟩ s (u, v) := by unfold restI; rw [if_pos h2]
          rw [← e1, ← e2, ← hgu]
          rfl
        · refine iteN h2 ⟨_, ?_, hgu, rfl⟩
          have e1 : s.ah - grownI u = s.ah - grownI u + grownI v := by unfold grownI; rw [if_neg h2, Int.add_zero]
          have e2 : s.rs = restI ⟨x, y, z.toNat⟩ s (u, v) := by unfold restI; rw [if_neg h2]
          rw [← e1, ← e2, ← hgu]
          rfl
      · rintro σ' H' ⟨k, rfl, hk, e⟩
        rw [e]
        have rr0 : 0 ≤ restI ⟨x, y, z.toNat⟩ s (u, v) := by unfold restI; split <;> omega
        have eb : behindS ⟨x, y, z.toNat⟩ s (u, v) = ⟨s.ah - grownI u + grownI v, if 0 < restI ⟨x, y, z.toNat⟩ s (u, v) then restI ⟨x, y, z.toNat⟩ s (u, v) - 1 else 0, (if 0 < restI ⟨x, y, z.toNat⟩ s (u, v) then none else some (s.ah - grownI u + grownI v)) :: s.se.dropLast.map (lessE (grownI u)), some 0 :: s.to.dropLast.map (lessE (grownI u))⟩ := rfl
        rw [eb, ← hk] at q
        rw [← hk]
        generalize restI ⟨x, y, z.toNat⟩ s (u, v) = rr at *
        generalize s.ah - k + grownI v = n at *
        refine ⟨_, rfl, ?_⟩
        refine ⟨fun σ' H' => ∃ (r' : Int) (gv : Option Int), σ' = [some (.ref a), some (.ref b), some (.ref c), some (.int k), some (.int n), some (.int r'), some (ent gv)] ∧ r' = (if 0 < rr then rr - 1 else 0) ∧ gv = (if 0 < rr then none else some n) ∧ H' = H, ?_, ?_⟩
        · refine ⟨_, rfl, _, _, rfl, rfl, _, rfl, ?_⟩
          by_cases h3 : 0 < rr
          · refine iteY h3 ?_
            refine ⟨_, rfl, _, _, rfl, rfl, ?_⟩
            exact ⟨_, none, rfl, by rw [if_pos h3], by rw [if_pos h3], rfl⟩
          · refine iteN h3 ?_
            exact ⟨_, some n, rfl, by rw [if_neg h3]; omega, by rw [if_neg h3], rfl⟩
        · rintro σ' H' ⟨r', gv, rfl, hr', hgv, e⟩
          rw [e]
          rw [← hr', ← hgv] at q
          refine ⟨_, rfl, _, rfl, _, rfl, _, rfl, b, _, _, _, rfl, rfl, g1, rfl, _, rfl, b1, gv, s.se, k, rfl, g2, by omega, fun p1 H1 s1 e1 => ?_⟩
          refine ⟨_, rfl, b, _, _, _, rfl, rfl, s1.tup g1, rfl, _, rfl, b2, some 0, s.to, k, rfl, s1.tup g3, by omega, fun p2 H2 s2 e2 => ?_⟩
          refine ⟨by show 4 ≤ sizeLine; decide, fun r hq => ?_⟩
          have s3 : Same H2 (upd H2 r (.tup [.int n, .int r', .ref p1, .ref p2])) := (Same.refl _).new hq
          exact q r _ ((s1.trans s2).trans s3) ⟨p1, p2, SqT.of upd_same, (s2.trans s3).tup e1, s3.tup e2⟩
def sp__law_first (K : PySem.W.Frag) : Sp := fun vs H Q _ => ∃ (a : Addr) (M : Md), vs = [.ref a] ∧ IsMd K H a M ∧ GoodMd M ∧ ∀ (r : Addr) (H' : Hp), Same H H' → IsStd K H' r (firstS M.la) → Q (.ref r) H'
theorem sc__law_first : FnScope ["model"] ["model"] (defScope s__law_first) := ⟨rfl, rfl, rfl, by decide +kernel, rfl, by decide +kernel, by decide +kernel⟩
theorem ok__law_first (F : Site K mg "_law_first" s__law_first) : Def P w K mg base 1 "_law_first" ["model"] (sp__law_first K) := by
  refine F.def sc__law_first (fun _ _ _ _ _ _ us hl => match us, hl with | [_], _ => rfl) (fun vs H Q E h => ?_) (fun f cdv A outer s H vs Q E hr h => ?_)
  · obtain ⟨a, M, rfl, _⟩ := h
    rfl
  · obtain ⟨a, M, rfl, hM, gM, q⟩ := h
    refine ⟨_, pss_one (ps_ret (pe_tup (pa_cons pe_int (pa_cons pe_int (pa_cons (pe_op (op_repA K) (pe_tup (pa_cons pe_non pa_nil)) (pe_ix (ix_tupK K) (pv 0) pe_int (fun _ _ => rfl))) (pa_cons (pe_op (op_repA K) (pe_tup (pa_cons pe_non pa_nil)) (pe_ix (ix_tupK K) (pv 0) pe_int (fun _ _ => rfl))) pa_nil)))))), ?_⟩
    have l0 := gM.l0
    have l1 := gM.l1
    refine ⟨by show 1 ≤ sizeLine; decide, fun p hp => ?_⟩
    have s1 : Same H (upd H p (.tup [.non])) := (Same.refl _).new hp
    refine ⟨_, rfl, a, _, _, _, rfl, rfl, s1.tup hM, rfl, p, (M.la : Int), [.non], rfl, rfl, SqT.of upd_same, (fun e => by cases e), by decide, by omega, by omega, fun b H2 s2 hb => ?_⟩
    rw [rep_none, Int.toNat_natCast] at hb
    refine ⟨by show 1 ≤ sizeLine; decide, fun p' hp' => ?_⟩
    have s3 : Same H2 (upd H2 p' (.tup [.non])) := (Same.refl _).new hp'
    refine ⟨_, rfl, a, _, _, _, rfl, rfl, ((s1.trans s2).trans s3).tup hM, rfl, p', (M.la : Int), [.non], rfl, rfl, SqT.of upd_same, (fun e => by cases e), by decide, by omega, by omega, fun b' H4 s4 hb' => ?_⟩
    rw [rep_none, Int.toNat_natCast] at hb'
    refine ⟨by show 4 ≤ sizeLine; decide, fun r hq => ?_⟩
    have s5 : Same H4 (upd H4 r (.tup [.int 0, .int 0, .ref b, .ref b'])) := (Same.refl _).new hq
    exact q r _ (((s1.trans s2).trans (s3.trans s4)).trans s5) ⟨b, b', SqT.of upd_same, ((s3.trans s4).trans s5).tup hb, s5.tup hb'⟩
end
end K24
namespace K24
open PySem L2 PyProof.Rows
section
variable {P : Program} {w : World} {K : PySem.W.Frag} {mg : Str → Option Value} {base : Heap} {t : Ad}
/-! keeps_inside, fence_stands -/
def keepQ (M : Md) (s : Std) (ks : List Std) (q : Int × Int) : Bool := !wrongB s q && decide (behindS M s q ∈ ks)
def sp_keeps_inside (K : PySem.W.Frag) : Sp := fun vs H Q _ => ∃ (a b d : Addr) (M : Md) (s : Std) (xs : SX), vs = [.ref a, .ref b, .ref d] ∧ IsMd K H a M ∧ GoodMd M ∧ IsStd K H b s ∧ GoodS M s ∧ SD K H d xs ∧ ∀ H', Same H H' → Q (.bl (keepsB M s (xs.map (·.1)))) H'
theorem sc_keeps_inside : FnScope ["model", "stand", "inside", "step"] ["model", "stand", "inside"] (defScope s_keeps_inside) := ⟨rfl, rfl, rfl, by decide +kernel, rfl, by decide +kernel, by decide +kernel⟩
theorem ok_keeps_inside (F : Site K mg "keeps_inside" s_keeps_inside) (T : Txt K mg t) (D_steps_from : Def P w K mg base 3 "steps_from" ["model", "stand"] (sp_steps_from K t.BadModel)) (D_is_wrong : Def P w K mg base 3 "is_wrong" ["model", "stand", "step"] (sp_is_wrong K t.BadModel))
    (D_next_stand : Def P w K mg base 3 "next_stand" ["model", "stand", "step"] (sp_next_stand K t.BadModel)) : Def P w K mg base 4 "keeps_inside" ["model", "stand", "inside"] (sp_keeps_inside K) := by
  refine F.def sc_keeps_inside (fun _ _ _ _ _ _ us hl => match us, hl with | [_, _, _], _ => rfl) (fun vs H Q E h => ?_) (fun f cdv A outer s H vs Q E hr h => ?_)
  · obtain ⟨a, b, d, M, s, xs, rfl, _⟩ := h
    rfl
  · obtain ⟨a, b, d, M, s, xs, rfl, ha, gM, hS, gS, hd, q⟩ := h
    refine ⟨_, pss_cons (PS.nox (ps_for PassesOwn.never rfl (pi_listK K (pe_def (D_steps_from.mono (by decide)) hr passN (pa_cons (pv 0) (pa_cons (pv 1) pa_nil)))) (pg_name (i := 3) sc_keeps_inside.nd rfl (Or.inl rfl))
        (pss_one (ps_if (PW.pt (pw_or (pt_val (pe_def (D_is_wrong.mono (by decide)) hr passN (pa_cons (pv 0) (pa_cons (pv 1) (pa_cons (pv 3) pa_nil))))) (pw_or1 (pt_cmpR (op_notInS K (hu16 hr)) (pe_def (D_next_stand.mono (by decide)) hr passN (pa_cons (pv 0) (pa_cons (pv 1) (pa_cons (pv 3) pa_nil)))) (pv 2) (by rfl)))))
          (pss_one (ps_ret pe_bl))
          (pss_nil)))))
      (pss_one (ps_ret pe_bl)), ?_⟩
    have g := gM.tri
    have l1 := gS.se
    have l2 := gS.to
    refine ⟨_, rfl, _, rfl, a, b, M.m, M.pa, (M.la : Int), rfl, ha, g.small, fun _ => ⟨s, hS, gS, fun r H1 s1 n1 h1 => ?_⟩, fun g' => absurd g g'⟩
    obtain ⟨tps, k1, k2⟩ := (show IsSteps K H1 r (stepsOf M s) from h1)
    refine ⟨r, rfl, ⟨_, SqL.of k1⟩, for_list (K := K) (a := r) (xs := tabR (stepsOf M s).length tps) (fun i σ H2 => ∃ v3 : Option V, σ = [some (.ref a), some (.ref b), some (.ref d), v3] ∧ Same H1 H2 ∧ ((stepsOf M s).take i).all (keepQ M s (xs.map (·.1))) = true)
      ⟨none, rfl, Same.refl _, rfl⟩ (fun i σ H2 _ ⟨_, _, s2, _⟩ => SqL.of (s2 _ _ k1)) ?_ ?_⟩
    · rintro i v σ H2 hi ⟨v3, rfl, s2, hall⟩
      obtain ⟨hil, rfl⟩ := tab_of hi
      have e : (stepsOf M s)[i]? = some (stepsOf M s)[i] := by simp [hil]
      generalize hqq : (stepsOf M s)[i] = qq at e
      obtain ⟨ua, va, eq, hua, hva, _⟩ := steps_mem (List.mem_of_getElem? e)
      subst eq
      have s12 := s1.trans s2
      have hq := s2 _ _ (k2 i _ e)
      refine ⟨_, rfl, _, rfl, _, rfl, a, b, tps i, M.m, M.pa, (M.la : Int), rfl, s12.tup ha, g.small, fun _ => ⟨s, (ua : Int), (va : Int), hS.same s12, SqT.of hq, by omega, by omega, ?_⟩, fun g' => absurd g g'⟩
      refine ⟨_, rfl, ?_⟩
      by_cases hw : wrongB s ((ua : Int), (va : Int)) = true
      · rw [hw]
        refine iteT (iteT ?_)
        have : keepsB M s (xs.map (·.1)) = false := by
          unfold keepsB
          rw [List.all_eq_false]
          exact ⟨_, List.mem_of_getElem? e, by rw [hw]; simp⟩
        rw [this] at q
        exact q _ s12
      · rw [Bool.not_eq_true] at hw
        rw [hw]
        refine iteF ?_
        refine ⟨_, rfl, _, rfl, _, rfl, a, b, tps i, M.m, M.pa, (M.la : Int), rfl, s12.tup ha, g.small, fun _ => ⟨s, (ua : Int), (va : Int), hS.same s12, gS, SqT.of hq, fun r3 H3 s3 h3 => ?_⟩, fun g' => absurd g g'⟩
        have s13 := s12.trans s3
        refine ⟨_, rfl, d, r3, xs, _, rfl, rfl, hd.same s13, h3, ?_⟩
        refine ⟨_, rfl, ?_⟩
        have h3' : (⟨M.m, M.pa, (M.la : Int).toNat⟩ : Md) = M := rfl
        rw [h3']
        by_cases hm : behindS M s ((ua : Int), (va : Int)) ∈ xs.map (·.1)
        · rw [decide_eq_true hm]
          refine iteF ?_
          refine ⟨_, rfl, s2.trans s3, ?_⟩
          rw [take_succ_at e, List.all_append, hall, List.all_cons, List.all_nil]
          unfold keepQ
          rw [hw, decide_eq_true hm]
          rfl
        · rw [decide_eq_false hm]
          refine iteT ?_
          have : keepsB M s (xs.map (·.1)) = false := by
            unfold keepsB
            rw [List.all_eq_false]
            exact ⟨_, List.mem_of_getElem? e, by rw [decide_eq_false hm]; simp⟩
          rw [this] at q
          exact q _ s13
    · rintro σ H2 ⟨v3, rfl, s2, hall⟩
      rw [tab_len, List.take_length] at hall
      have : keepsB M s (xs.map (·.1)) = true := hall
      rw [this] at q
      exact q _ (s1.trans s2)
end
end K24
namespace K24
open PySem L2 PyProof.Rows
section
variable {P : Program} {w : World} {K : PySem.W.Frag} {mg : Str → Option Value} {base : Heap} {t : Ad}
/-! lists of stands -/
def IsStds (K : PySem.W.Frag) (H : Hp) (r : Addr) (ss : List Std) : Prop := ∃ sas : Nat → Addr, H r = some (.lst (tabR ss.length sas)) ∧ ∀ y s, ss[y]? = some s → IsStd K H (sas y) s
theorem IsStds.same {K : PySem.W.Frag} {H H' : Hp} {a : Addr} {ss : List Std} (h : IsStds K H a ss) (e : Same H H') : IsStds K H' a ss := by
  obtain ⟨sas, h1, h2⟩ := h
  exact ⟨sas, e _ _ h1, fun y s hs => (h2 y s hs).same e⟩
theorem stds_add {K : PySem.W.Frag} {H : Hp} {a x : Addr} {ss : List Std} {sas : Nat → Addr} {s : Std} (h1 : H a = some (.lst (tabR ss.length sas))) (h2 : ∀ y s, ss[y]? = some s → IsStd K H (sas y) s) (hx : IsStd K H x s) :
    IsStds K (upd H a (.lst (tabR ss.length sas ++ [V.ref x]))) a (ss ++ [s]) := by
  refine ⟨fun y => if y = ss.length then x else sas y, by rw [tabR_snoc, List.length_append]; exact upd_same, fun y s' hs => ?_⟩
  by_cases e : y = ss.length
  · subst e
    rw [List.getElem?_append_right (Nat.le_refl _), Nat.sub_self] at hs
    cases hs
    simp only [if_true]
    exact hx.updL h1
  · have hy : y < (ss ++ [s]).length := (List.getElem?_eq_some_iff.mp hs).1
    rw [List.length_append] at hy
    have hy' : y < ss.length := by simp at hy; omega
    rw [List.getElem?_append_left hy'] at hs
    simp only [e, if_false]
    exact (h2 y s' hs).updL h1
theorem allS_are {K : PySem.W.Frag} {H : Hp} (L : List VQ) (h : ∀ q ∈ L, IsStd K H q.2.2.1 q.2.1) : ∀ p ∈ allS L, IsStd K H p.2.1 p.1 := by
  have gen : ∀ (L : List VQ) (acc : SX), (∀ q ∈ L, IsStd K H q.2.2.1 q.2.1) → (∀ p ∈ acc, IsStd K H p.2.1 p.1) → ∀ p ∈ L.foldl (fun acc q => putS acc q.2.1 q.2.2.1 q.2.2.2) acc, IsStd K H p.2.1 p.1 := by
    intro L
    induction L with
    | nil => intro acc _ h; exact h
    | cons q L ih => intro acc h h'; exact ih _ (fun r hr => h r (List.mem_cons_of_mem _ hr)) (putS_keys_are h' (h q List.mem_cons_self))
  exact gen L [] h fun p hp => by cases hp
/-! fence_stands -/
def sp_fence_stands (K : PySem.W.Frag) (C : Addr) : Sp := fun vs H Q E => ∃ (a l : Addr) (x y z : Int), vs = [.ref a, .ref l] ∧ SqT K H a [.int x, .int y, .int z] ∧ Small3 x y z ∧
  (GoodT x y z → ∃ ss, IsStds K H l ss ∧ (∀ s ∈ ss, GoodS ⟨x, y, z.toNat⟩ s) ∧ ss.length ≤ 1000000 ∧ ∀ H', Same H H' → Q (.bl (fenceB ⟨x, y, z.toNat⟩ ss)) H') ∧ (¬ GoodT x y z → E (.ref C) none H)
theorem sc_fence_stands : FnScope ["model", "stands", "first", "inside"] ["model", "stands"] (defScope s_fence_stands) := ⟨rfl, rfl, rfl, by decide +kernel, rfl, by decide +kernel, by decide +kernel⟩
theorem ok_fence_stands (F : Site K mg "fence_stands" s_fence_stands) (T : Txt K mg t) (D_first_stand : Def P w K mg base 3 "first_stand" ["model"] (sp_first_stand K t.BadModel)) (D_keeps_inside : Def P w K mg base 4 "keeps_inside" ["model", "stand", "inside"] (sp_keeps_inside K)) : Def P w K mg base 5 "fence_stands" ["model", "stands"] (sp_fence_stands K t.BadModel) := by
  refine F.def sc_fence_stands (fun _ _ _ _ _ _ us hl => match us, hl with | [_, _], _ => rfl) (fun vs H Q E h => ?_) (fun f cdv A outer s H vs Q E hr h => ?_)
  · obtain ⟨a, l, x, y, z, rfl, _⟩ := h
    rfl
  · obtain ⟨a, l, x, y, z, rfl, ha, hs, q1, q2⟩ := h
    refine ⟨_, pss_cons (ps_set (i := 2) sc_fence_stands.nd rfl (Or.inl rfl) (pe_def (D_first_stand.mono (by decide)) hr (pass1 cx1_body) (pa_cons (pv 0) pa_nil)))
      (pss_cons (ps_set (i := 3) sc_fence_stands.nd rfl (Or.inr rfl) (pe_callTy (call_dictS (hu16 hr)) (by rfl) T.n_dict boot_dict (pa_cons (pe_lc rfl (Nc := ["stand"]) (ix := [none]) (cscope (defScope s_fence_stands) ["model", "stands", "first", "inside"] rfl rfl (by decide +kernel)) (pi_listK K (pv 1)) (fun C fp s H => ⟨(pg_name (i := 0) (show (["stand"] : List Str).Nodup by decide +kernel) rfl (Or.inl rfl)), pts_nil, (pe_tup (pa_cons (pv 0) (pa_cons pe_bl pa_nil)))⟩)) pa_nil)))
      (pss_cons (ps_if (PW.pt (pw_or (pt_cmpR op_ne (pe_callB call_lenS (by rfl) T.n_len boot_len (pa_cons (pv 3) pa_nil)) (pe_callB (call_lenK K) (by rfl) T.n_len boot_len (pa_cons (pv 1) pa_nil)) (nomark _)) (pw_or1 (pt_cmpR (op_notInS K (hu16 hr)) (pv 2) (pv 3) (by rfl)))))
        (pss_one (ps_ret pe_bl))
        (pss_nil))
      (pss_one (ps_ret (pe_callB (call_allK K rfl) (by rfl) T.n_all boot_all (pa_cons (pe_lc rfl (Nc := ["stand", "model", "inside"]) (ix := [none, some 0, some 3]) (cscope (defScope s_fence_stands) ["model", "stands", "first", "inside"] rfl rfl (by decide +kernel)) (pi_listK K (pv 1)) (fun C fp s H => ⟨(pg_name (i := 0) (show (["stand", "model", "inside"] : List Str).Nodup by decide +kernel) rfl (Or.inl rfl)), pts_nil, (pe_def (D_keeps_inside.mono (by decide)) hr passN (pa_cons (pv 1) (pa_cons (pv 0) (pa_cons (pv 2) pa_nil))))⟩)) pa_nil)))))), ?_⟩
    have hsz : (1000001 : Nat) ≤ sizeLine := by decide
    refine ⟨_, rfl, a, x, y, z, rfl, ha, hs, fun g sa H1 s1 h1 => ?_, fun g => q2 g⟩
    obtain ⟨ss, hss, gss, hlen, q⟩ := q1 g
    have gM := good_of g
    generalize hM : (⟨x, y, z.toNat⟩ : Md) = M at *
    have hla : z.toNat = M.la := by rw [← hM]
    rw [hla] at h1
    obtain ⟨sas, k1, k2⟩ := hss.same s1
    refine ⟨_, rfl, l, rfl, ⟨_, SqL.of k1⟩, fun D hD => ?_⟩
    refine lc_list (K := K) (a := l) (xs := tabR ss.length sas) (fun i σ H' => (∃ v0 : Option V, σ = [v0]) ∧ Same H1 H' ∧ ∃ L : List VQ, L.length = i ∧ H' D = some (.lst (L.map fun q => V.ref q.1)) ∧ L.map (·.2.1) = ss.take i ∧ ∀ q ∈ L, H' q.1 = some (.tup [.ref q.2.2.1, q.2.2.2]) ∧ IsStd K H1 q.2.2.1 q.2.1)
      ⟨⟨none, rfl⟩, (Same.refl H1).new hD, [], rfl, upd_same, rfl, fun q hq => by cases hq⟩ (fun i σ H' _ p => SqL.of (p.2.1 _ _ k1)) ?_ ?_
    · rintro i v σ H' N hN hi ⟨⟨v0, rfl⟩, s2, L, hL, hD2, hk, hq⟩
      obtain ⟨hil, rfl⟩ := tab_of hi
      have e : ss[i]? = some ss[i] := by simp [hil]
      refine turn_do ?_
      refine ⟨_, rfl, by show 2 ≤ sizeLine; decide, fun tp htp => ?_⟩
      have nD : D ≠ tp := ne_of_none hD2 htp
      refine ⟨_, by rw [upd_ne nD]; exact hD2, by rw [List.length_map]; omega, hN _ _ ⟨⟨_, rfl⟩, (s2.new htp).put hD, L ++ [(tp, ss[i], sas i, .bl true)], by simp [hL], by rw [upd_same, List.map_append]; rfl, ?_, ?_⟩⟩
      · rw [List.map_append, hk, take_succ_at e]; rfl
      · intro q' hq'
        rcases List.mem_append.mp hq' with h | h
        · obtain ⟨g1, g2⟩ := hq q' h
          have n1 : q'.1 ≠ D := fun z => by rw [z, hD2] at g1; cases g1
          exact ⟨by rw [upd_ne n1, upd_ne (ne_of_none g1 htp)]; exact g1, g2⟩
        · rw [List.mem_singleton.mp h]
          exact ⟨by rw [upd_ne (Ne.symm nD)]; exact upd_same, k2 i _ e⟩
    · rintro σ H2 ⟨⟨v0, rfl⟩, s2, L, hL, hD2, hk, hq⟩
      rw [tab_len] at hL
      rw [tab_len, List.take_length] at hk
      refine ⟨rfl, D, L, rfl, hD2, fun q' hq' => ⟨SqT.of (hq q' hq').1, (hq q' hq').2.same s2⟩, fun p hp => ?_⟩
      have s3 : Same H2 (upd H2 p (DS p (allS L))) := (Same.refl _).new hp
      have hd : SD K (upd H2 p (DS p (allS L))) p (allS L) := ⟨upd_same, fun r hr => ?_⟩
      · have s13 := s2.trans s3
        have hkeys : (allS L).map (·.1) = dedupS ss := by rw [allS_keys, hk]
        have hlenS : (allS L).length = (dedupS ss).length := by rw [← hkeys, List.length_map]
        generalize upd H2 p (DS p (allS L)) = H3 at *
        have s03 := s1.trans s13
        refine ⟨_, rfl, p, _, rfl, hd.at_, _, rfl, l, _, rfl, .inl (SqL.of (s13 _ _ k1)), rfl, _, rfl, ?_⟩
        rw [tab_len, hlenS]
        by_cases hn : (dedupS ss).length = ss.length
        · rw [hn]
          refine iteNN rfl ?_
          refine ⟨_, rfl, _, rfl, p, sa, _, _, rfl, rfl, hd, h1.same s13, _, rfl, ?_⟩
          rw [hkeys]
          by_cases hf : firstS M.la ∈ dedupS ss
          · rw [decide_eq_true hf]
            refine iteF ?_
            refine ⟨_, rfl, l, rfl, ⟨_, SqL.of (s13 _ _ k1)⟩, fun D2 hD3 => ?_⟩
            refine lc_list (K := K) (a := l) (xs := tabR ss.length sas) (fun i σ H' => (∃ v0 : Option V, σ = [v0, some (.ref a), some (.ref p)]) ∧ Same H3 H' ∧ H' D2 = some (.lst (((ss.take i).map fun s => keepsB M s (dedupS ss)).map V.bl)))
              ⟨⟨none, rfl⟩, (Same.refl H3).new hD3, upd_same⟩ (fun i σ H' _ p => SqL.of (p.2.1 _ _ (s13 _ _ k1))) ?_ ?_
            · rintro i v σ H' N hN hi ⟨⟨v0, rfl⟩, s4, hD4⟩
              obtain ⟨hil, rfl⟩ := tab_of hi
              have e : ss[i]? = some ss[i] := by simp [hil]
              refine turn_do ?_
              have s14 := s13.trans s4
              have ham : IsMd K H' a M := by unfold IsMd; rw [← hM]; have := (s1.trans s14).tup ha; rw [show (((⟨x, y, z.toNat⟩ : Md).la : Nat) : Int) = z from by show ((z.toNat : Nat) : Int) = z; have := g.2.2; omega]; exact this
              refine ⟨_, rfl, _, rfl, _, rfl, a, sas i, p, M, ss[i], allS L, rfl, ham, gM, (k2 i _ e).same s14, gss _ (List.getElem_mem hil), hd.same s4, fun H5 s5 => ?_⟩
              refine ⟨_, s5 _ _ hD4, by rw [List.length_map, List.length_map, List.length_take]; omega, hN _ _ ⟨⟨_, rfl⟩, (s4.trans s5).put hD3, ?_⟩⟩
              rw [upd_same, take_succ_at e, hkeys, List.map_append, List.map_append]
              rfl
            · rintro σ H5 ⟨⟨v0, rfl⟩, s4, hD4⟩
              rw [tab_len, List.take_length] at hD4
              refine ⟨D2, _, rfl, SqL.of hD4, ?_⟩
              have e : fenceB M ss = ((ss.map fun s => keepsB M s (dedupS ss)).all id) := by
                unfold fenceB
                rw [decide_eq_true hn, decide_eq_true hf]
                rw [List.all_map]
                rfl
              rw [← e]
              exact q _ (s03.trans s4)
          · rw [decide_eq_false hf]
            refine iteT ?_
            have e : fenceB M ss = false := by unfold fenceB; rw [decide_eq_false hf]; simp
            rw [e] at q
            exact q _ s03
        · refine iteNY (fun z => hn (by have := V.int.inj z; omega)) ?_
          refine iteT ?_
          have e : fenceB M ss = false := by unfold fenceB; rw [decide_eq_false hn]; simp
          rw [e] at q
          exact q _ s03
      · exact (allS_are L (fun q' hq' => (hq q' hq').2) r hr).same (s2.trans s3)
end
end K24
namespace K24
open PySem L2 PyProof.Rows
section
variable {P : Program} {w : World} {K : PySem.W.Frag} {mg : Str → Option Value} {base : Heap} {t : Ad}
/-! rows of steps that are not wrong, and a search by layers, reckoned -/
def goF (M : Md) : Std → List (Int × Int) → Option Std
  | s, [] => some s
  | s, q :: r => if mayB M s q = true ∧ wrongB s q = false then goF M (behindS M s q) r else none
theorem go_snoc {M : Md} : ∀ (ps : List (Int × Int)) (s x : Std) (q : Int × Int), goF M s ps = some x → mayB M x q = true → wrongB x q = false → goF M s (ps ++ [q]) = some (behindS M x q)
  | [], s, x, q, h, h1, h2 => by
    cases h
    show (if mayB M s q = true ∧ wrongB s q = false then goF M (behindS M s q) [] else none) = _
    rw [if_pos ⟨h1, h2⟩]; rfl
  | p :: r, s, x, q, h, h1, h2 => by
    unfold goF at h
    by_cases hp : mayB M s p = true ∧ wrongB s p = false
    · rw [if_pos hp] at h
      show (if mayB M s p = true ∧ wrongB s p = false then goF M (behindS M s p) (r ++ [q]) else none) = _
      rw [if_pos hp]
      exact go_snoc r _ x q h h1 h2
    · rw [if_neg hp] at h; cases h
theorem go_split {M : Md} : ∀ (ps : List (Int × Int)) (s y : Std) (q : Int × Int), goF M s (ps ++ [q]) = some y → ∃ x, goF M s ps = some x ∧ mayB M x q = true ∧ wrongB x q = false ∧ y = behindS M x q
  | [], s, y, q, h => by
    have h : (if mayB M s q = true ∧ wrongB s q = false then goF M (behindS M s q) [] else none) = some y := h
    by_cases hp : mayB M s q = true ∧ wrongB s q = false
    · rw [if_pos hp] at h; cases h; exact ⟨s, rfl, hp.1, hp.2, rfl⟩
    · rw [if_neg hp] at h; cases h
  | p :: r, s, y, q, h => by
    have h : (if mayB M s p = true ∧ wrongB s p = false then goF M (behindS M s p) (r ++ [q]) else none) = some y := h
    by_cases hp : mayB M s p = true ∧ wrongB s p = false
    · rw [if_pos hp] at h
      obtain ⟨x, h1, h2, h3, h4⟩ := go_split r _ y q h
      refine ⟨x, ?_, h2, h3, h4⟩
      show (if mayB M s p = true ∧ wrongB s p = false then goF M (behindS M s p) r else none) = _
      rw [if_pos hp]; exact h1
    · rw [if_neg hp] at h; cases h
/-! stands that can be come to: close to the count -/
structure Near (M : Md) (s : Std) : Prop where
  good : GoodS M s
  ah : s.ah = 0 ∨ s.ah = -1
  rs : s.rs ≤ 8
  se : ∀ (i : Nat) (e : Int), s.se[i]? = some (some e) → -1 - (i : Int) ≤ e ∧ e ≤ s.ah
  to : ∀ (i : Nat) (e : Int), s.to[i]? = some (some e) → -(i : Int) ≤ e ∧ e ≤ 0
theorem rep_at {n i : Nat} {e : Int} (h : (List.replicate n (none : Option Int))[i]? = some (some e)) : False := by
  rw [List.getElem?_replicate] at h
  split at h
  · cases h
  · cases h
theorem near_first {M : Md} : Near M (firstS M.la) := ⟨goodS_first, .inl rfl, by show (0 : Int) ≤ 8; decide, fun i e h => (rep_at h).elim, fun i e h => (rep_at h).elim⟩
theorem less_at {l : List (Option Int)} {k : Int} {i : Nat} {e : Int} (h : (l.dropLast.map (lessE k))[i]? = some (some e)) : l[i]? = some (some (e + k)) := by
  rw [List.getElem?_map] at h
  cases c : l.dropLast[i]? with
  | none => rw [c] at h; cases h
  | some o =>
    rw [c] at h
    cases o with
    | none => cases h
    | some z =>
      have h' : some (some (z - k)) = some (some e) := h
      have e1 : z - k = e := by injection h' with h'; injection h'
      have hi : i < l.dropLast.length := (List.getElem?_eq_some_iff.mp c).1
      rw [List.getElem?_dropLast] at c
      split at c
      · rw [c]; congr 2; omega
      · cases c
theorem near_behind {M : Md} {s : Std} {q : Int × Int} (g : GoodMd M) (h : Near M s) (hm : q ∈ stepsOf M s) (hw : wrongB s q = false) : Near M (behindS M s q) := by
  obtain ⟨a, b, rfl, ha, hb, h1, h2⟩ := steps_mem hm
  have p1 := g.p1
  have p0 := g.p0
  have hr := h.good.rs
  have hr8 := h.rs
  unfold wrongB at hw
  rw [Bool.or_eq_false_iff] at hw
  obtain ⟨w1, w2⟩ := hw
  have take : 0 < (a : Int) → s.ah = 0 := fun ha0 => by
    unfold wrongT at w1
    have e0 : decide ((0 : Int) < (a : Int)) = true := decide_eq_true ha0
    rw [e0, Bool.true_and, Bool.not_eq_false', decide_eq_true_eq] at w1
    cases e : s.se[((a : Int) - 1).toNat]? with
    | none => rw [e] at w1; cases w1
    | some o =>
      rw [e] at w1
      have w1 : o = some 0 := w1
      rw [w1] at e
      have := h.se _ _ e
      have := h.ah
      omega
  have hear : 0 < (b : Int) → s.ah = -1 := fun hb0 => by
    unfold wrongH at w2
    have e0 : decide ((0 : Int) < (b : Int)) = true := decide_eq_true hb0
    rw [e0, Bool.true_and, Bool.not_eq_false', decide_eq_true_eq] at w2
    cases e : s.to[((b : Int) - 1).toNat]? with
    | none => rw [e] at w2; cases w2
    | some o =>
      rw [e] at w2
      have w2 : o = some (s.ah + 1) := w2
      rw [w2] at e
      have := h.to _ _ e
      have := h.ah
      omega
  have gk : grownI (a : Int) = 0 ∨ (grownI (a : Int) = 1 ∧ s.ah = 0) := by
    unfold grownI
    by_cases z : 0 < (a : Int)
    · rw [if_pos z]; exact .inr ⟨rfl, take z⟩
    · rw [if_neg z]; exact .inl rfl
  have gh : grownI (b : Int) = 0 ∨ (grownI (b : Int) = 1 ∧ s.ah = -1) := by
    unfold grownI
    by_cases z : 0 < (b : Int)
    · rw [if_pos z]; exact .inr ⟨rfl, hear z⟩
    · rw [if_neg z]; exact .inl rfl
  have hah := h.ah
  have rr : restI M s ((a : Int), (b : Int)) ≤ 8 := by unfold restI; split <;> omega
  refine ⟨goodS_behind g h.good, ?_, ?_, ?_, ?_⟩
  · show s.ah - grownI (a : Int) + grownI (b : Int) = 0 ∨ s.ah - grownI (a : Int) + grownI (b : Int) = -1
    omega
  · show (if 0 < restI M s ((a : Int), (b : Int)) then restI M s ((a : Int), (b : Int)) - 1 else 0) ≤ 8
    split <;> omega
  · intro i e he
    have he : ((if 0 < restI M s ((a : Int), (b : Int)) then none else some (s.ah - grownI (a : Int) + grownI (b : Int))) :: s.se.dropLast.map (lessE (grownI (a : Int))))[i]? = some (some e) := he
    show -1 - (i : Int) ≤ e ∧ e ≤ s.ah - grownI (a : Int) + grownI (b : Int)
    cases i with
    | zero =>
      rw [List.getElem?_cons_zero] at he
      injection he with he
      split at he
      · cases he
      · injection he with he; omega
    | succ i =>
      rw [List.getElem?_cons_succ] at he
      have := h.se _ _ (less_at he)
      omega
  · intro i e he
    have he : (some 0 :: s.to.dropLast.map (lessE (grownI (a : Int))))[i]? = some (some e) := he
    cases i with
    | zero =>
      rw [List.getElem?_cons_zero] at he
      injection he with he; injection he with he; omega
    | succ i =>
      rw [List.getElem?_cons_succ] at he
      have := h.to _ _ (less_at he)
      omega
def optU (c : Nat) : List (Option Int) := none :: (List.range (c + 1)).map fun (j : Nat) => some (-(j : Int))
def rowsU : Nat → Nat → List (List (Option Int))
  | _, 0 => [[]]
  | c, n + 1 => (optU c).flatMap fun e => (rowsU (c + 1) n).map (e :: ·)
theorem mem_optU {c : Nat} {o : Option Int} (h : ∀ e, o = some e → -(c : Int) ≤ e ∧ e ≤ 0) : o ∈ optU c := by
  unfold optU
  cases o with
  | none => exact List.mem_cons_self
  | some e =>
    have := h e rfl
    refine List.mem_cons_of_mem _ (List.mem_map.mpr ⟨(-e).toNat, List.mem_range.mpr (by omega), ?_⟩)
    congr 1
    omega
theorem mem_rowsU : ∀ (n c : Nat) (l : List (Option Int)), l.length = n → (∀ (i : Nat) (e : Int), l[i]? = some (some e) → -(c : Int) - (i : Int) ≤ e ∧ e ≤ 0) → l ∈ rowsU c n
  | 0, c, l, hl, _ => by rw [List.length_eq_zero_iff.mp hl]; exact List.mem_singleton.mpr rfl
  | n + 1, c, [], hl, _ => by cases hl
  | n + 1, c, o :: l, hl, h => by
    unfold rowsU
    rw [List.mem_flatMap]
    refine ⟨o, mem_optU fun e he => by have := h 0 e (by rw [he]; rfl); omega, List.mem_map.mpr ⟨l, mem_rowsU n (c + 1) l (by simpa using hl) fun i e he => ?_, rfl⟩⟩
    have := h (i + 1) e (by simpa using he)
    omega
def allU (la : Nat) : List Std := [0, -1].flatMap fun (x : Int) => (List.range 9).flatMap fun (y : Nat) => (rowsU 1 la).flatMap fun s => (rowsU 0 la).map fun t => ⟨x, (y : Int), s, t⟩
theorem near_mem {M : Md} {s : Std} (h : Near M s) : s ∈ allU M.la := by
  unfold allU
  have h0 := h.good.rs
  have h8 := h.rs
  rw [List.mem_flatMap]
  refine ⟨s.ah, by rcases h.ah with e | e <;> rw [e] <;> simp, ?_⟩
  rw [List.mem_flatMap]
  refine ⟨s.rs.toNat, List.mem_range.mpr (by omega), ?_⟩
  rw [List.mem_flatMap]
  refine ⟨s.se, mem_rowsU _ 1 _ h.good.se fun i e he => by have := h.se i e he; have := h.ah; omega, ?_⟩
  rw [List.mem_map]
  refine ⟨s.to, mem_rowsU _ 0 _ h.good.to fun i e he => by have := h.to i e he; omega, ?_⟩
  cases s
  simp only [Std.mk.injEq, and_true, true_and]
  exact Int.toNat_of_nonneg h0
theorem allU_len {la : Nat} (h0 : 1 ≤ la) (h1 : la ≤ 3) : (allU la).length ≤ 25920 := by
  have : la = 1 ∨ la = 2 ∨ la = 3 := by omega
  rcases this with rfl | rfl | rfl <;> decide +kernel
theorem keys_len {M : Md} {ks : List Std} (g : GoodMd M) (hn : ks.Nodup) (h : ∀ s ∈ ks, Near M s) : ks.length ≤ 25920 :=
  Nat.le_trans (hn.length_le_of_subset fun s hs => near_mem (h s hs)) (allU_len g.l0 g.l1)
abbrev Rho := Std → List (Int × Int)
/-- a step looked at: not wrong, where it leads is known, and no deeper than one more -/
def Cl (M : Md) (ks : List Std) (ρ : Rho) (k : Std) (q : Int × Int) : Prop := wrongB k q = false ∧ behindS M k q ∈ ks ∧ (ρ (behindS M k q)).length ≤ (ρ k).length + 1
structure Bf (M : Md) (ks : List Std) (ρ : Rho) (n : Nat) (bs : List Std) : Prop where
  nd : ks.Nodup
  fst : firstS M.la ∈ ks
  fst0 : ρ (firstS M.la) = []
  near : ∀ k ∈ ks, Near M k
  go : ∀ k ∈ ks, goF M (firstS M.la) (ρ k) = some k
  dep : ∀ k ∈ ks, (ρ k).length ≤ n + 1
  up : ∀ k ∈ ks, (ρ k).length = n + 1 → k ∈ bs
  byk : ∀ s ∈ bs, s ∈ ks ∧ (ρ s).length = n + 1
  closed : ∀ k ∈ ks, (ρ k).length < n → ∀ q ∈ stepsOf M k, Cl M ks ρ k q
def putR (ρ : Rho) (r : Std) (row : List (Int × Int)) : Rho := fun k => if k = r then row else ρ k
theorem putR_same {ρ : Rho} {r : Std} {row : List (Int × Int)} : putR ρ r row r = row := if_pos rfl
theorem putR_ne {ρ : Rho} {r k : Std} {row : List (Int × Int)} (h : k ≠ r) : putR ρ r row k = ρ k := if_neg h
theorem Bf.first {M : Md} : Bf M [firstS M.la] (fun _ => []) 0 [] := by
  have h1 : ∀ k, k ∈ [firstS M.la] → k = firstS M.la := fun k hk => List.mem_singleton.mp hk
  refine ⟨List.nodup_cons.mpr ⟨List.not_mem_nil, List.nodup_nil⟩, List.mem_singleton.mpr rfl, rfl, (fun k hk => by rw [h1 k hk]; exact near_first), (fun k hk => by rw [h1 k hk]; rfl), fun k _ => Nat.zero_le _, (fun k _ h => by cases h), (fun s hs => by cases hs), (fun k _ h => by cases h)⟩
section
variable {M : Md} {ks bs : List Std} {ρ : Rho} {n : Nat} {s : Std} {q : Int × Int}
theorem Cl.add {k r : Std} {row : List (Int × Int)} (h : Cl M ks ρ k q) (hk : k ∈ ks) (hr : r ∉ ks) : Cl M (ks ++ [r]) (putR ρ r row) k q := by
  obtain ⟨h1, h2, h3⟩ := h
  have n1 : k ≠ r := fun z => hr (by rw [← z]; exact hk)
  have n2 : behindS M k q ≠ r := fun z => hr (by rw [← z]; exact h2)
  exact ⟨h1, List.mem_append_left _ h2, by rw [putR_ne n1, putR_ne n2]; exact h3⟩
theorem Bf.add (g : GoodMd M) (h : Bf M ks ρ n bs) (hs : s ∈ ks) (hn : (ρ s).length = n) (hq : q ∈ stepsOf M s) (hw : wrongB s q = false) (hr : behindS M s q ∉ ks) :
    Bf M (ks ++ [behindS M s q]) (putR ρ (behindS M s q) (ρ s ++ [q])) n (bs ++ [behindS M s q]) ∧ Cl M (ks ++ [behindS M s q]) (putR ρ (behindS M s q) (ρ s ++ [q])) s q := by
  have keep : ∀ k ∈ ks, putR ρ (behindS M s q) (ρ s ++ [q]) k = ρ k := fun k hk => putR_ne fun z => hr (by rw [← z]; exact hk)
  have mem : ∀ k ∈ ks ++ [behindS M s q], k ∈ ks ∨ k = behindS M s q := fun k hk => (List.mem_append.mp hk).imp id List.mem_singleton.mp
  have ln : (putR ρ (behindS M s q) (ρ s ++ [q]) (behindS M s q)).length = n + 1 := by rw [putR_same, List.length_append, hn]; rfl
  refine ⟨⟨nd_snoc h.nd hr, List.mem_append_left _ h.fst, by rw [keep _ h.fst]; exact h.fst0, fun k hk => ?_, fun k hk => ?_, fun k hk => ?_, fun k hk hl => ?_, fun k hk => ?_, fun k hk hl q' hq' => ?_⟩, ?_⟩
  · rcases mem k hk with z | rfl
    · exact h.near k z
    · exact near_behind g (h.near s hs) hq hw
  · rcases mem k hk with z | rfl
    · rw [keep k z]; exact h.go k z
    · rw [putR_same]; exact go_snoc _ _ _ _ (h.go s hs) (may_mem.mpr hq) hw
  · rcases mem k hk with z | rfl
    · rw [keep k z]; exact h.dep k z
    · rw [ln]; exact Nat.le_refl _
  · rcases mem k hk with z | rfl
    · rw [keep k z] at hl; exact List.mem_append_left _ (h.up k z hl)
    · exact List.mem_append_right _ (List.mem_singleton.mpr rfl)
  · rcases List.mem_append.mp hk with z | z
    · obtain ⟨z1, z2⟩ := h.byk k z
      exact ⟨List.mem_append_left _ z1, by rw [keep k z1]; exact z2⟩
    · rw [List.mem_singleton.mp z]
      exact ⟨List.mem_append_right _ (List.mem_singleton.mpr rfl), ln⟩
  · rcases mem k hk with z | rfl
    · rw [keep k z] at hl
      exact (h.closed k z hl q' hq').add z hr
    · rw [ln] at hl; omega
  · refine ⟨hw, List.mem_append_right _ (List.mem_singleton.mpr rfl), ?_⟩
    rw [ln, keep s hs, hn]
    exact Nat.le_refl _
theorem Bf.seen (h : Bf M ks ρ n bs) (hn : (ρ s).length = n) (hw : wrongB s q = false) (hr : behindS M s q ∈ ks) : Cl M ks ρ s q := ⟨hw, hr, by rw [hn]; exact h.dep _ hr⟩
theorem Bf.next (h : Bf M ks ρ n bs) (hc : ∀ k ∈ ks, (ρ k).length = n → ∀ q ∈ stepsOf M k, Cl M ks ρ k q) : Bf M ks ρ (n + 1) [] :=
  ⟨h.nd, h.fst, h.fst0, h.near, h.go, (fun k hk => by have := h.dep k hk; omega), (fun k hk hl => by have := h.dep k hk; omega), (fun s hs => by cases hs), fun k hk hl q hq =>
    if z : (ρ k).length = n then hc k hk z q hq else h.closed k hk (by omega) q hq⟩
theorem Bf.reach (h : Bf M ks ρ n bs) : ∀ (m : Nat) (qs : List (Int × Int)) (x : Std), qs.length = m → m ≤ n → goF M (firstS M.la) qs = some x → x ∈ ks ∧ (ρ x).length ≤ m
  | 0, qs, x, hl, _, hg => by
    rw [List.length_eq_zero_iff.mp hl] at hg
    cases hg
    exact ⟨h.fst, by rw [h.fst0]; exact Nat.le_refl _⟩
  | m + 1, qs, x, hl, hm, hg => by
    have hne : qs ≠ [] := fun z => by rw [z] at hl; cases hl
    rw [← List.dropLast_concat_getLast hne] at hg
    obtain ⟨y, h1, h2, h3, rfl⟩ := go_split _ _ _ _ hg
    obtain ⟨z1, z2⟩ := Bf.reach h m qs.dropLast y (by rw [List.length_dropLast, hl]; rfl) (by omega) h1
    obtain ⟨_, c2, c3⟩ := h.closed y z1 (by omega) _ (may_mem.mp h2)
    exact ⟨c2, by omega⟩
theorem Bf.least (h : Bf M ks ρ n bs) (qs : List (Int × Int)) (x : Std) (hl : qs.length < n) (hg : goF M (firstS M.la) qs = some x) : ∀ q ∈ stepsOf M x, wrongB x q = false := by
  intro q hq
  obtain ⟨z1, z2⟩ := h.reach qs.length qs x rfl (by omega) hg
  exact (h.closed x z1 (by omega) q hq).1
end
/-- a fence -/
structure Safe (M : Md) (ss : List Std) : Prop where
  nd : ss.Nodup
  fst : firstS M.la ∈ ss
  near : ∀ s ∈ ss, Near M s
  keeps : ∀ s ∈ ss, keepsB M s ss = true
/-- a row of the fewest steps that comes to a wrong one -/
structure Wrong (M : Md) (ps : List (Int × Int)) : Prop where
  ex : ∃ qs s q, ps = qs ++ [q] ∧ goF M (firstS M.la) qs = some s ∧ q ∈ stepsOf M s ∧ wrongB s q = true
  least : ∀ (qs : List (Int × Int)) (x : Std), qs.length + 1 < ps.length → goF M (firstS M.la) qs = some x → ∀ q ∈ stepsOf M x, wrongB x q = false
theorem Bf.safe {M : Md} {ks : List Std} {ρ : Rho} {n : Nat} (h : Bf M ks ρ n []) (hl : ∀ k ∈ ks, (ρ k).length ≠ n) : Safe M ks := by
  refine ⟨h.nd, h.fst, h.near, fun s hs => ?_⟩
  unfold keepsB
  rw [List.all_eq_true]
  intro q hq
  have d1 := h.dep s hs
  have d2 : (ρ s).length ≠ n + 1 := fun z => by cases h.up s hs z
  have d3 := hl s hs
  obtain ⟨c1, c2, _⟩ := h.closed s hs (by omega) q hq
  rw [c1, decide_eq_true c2]
  rfl
theorem Bf.wrong {M : Md} {ks bs : List Std} {ρ : Rho} {n : Nat} {s : Std} {q : Int × Int} (h : Bf M ks ρ n bs) (hs : s ∈ ks) (hn : (ρ s).length = n) (hq : q ∈ stepsOf M s) (hw : wrongB s q = true) : Wrong M (ρ s ++ [q]) :=
  ⟨⟨ρ s, s, q, rfl, h.go s hs, hq, hw⟩, fun qs x hl hg => h.least qs x (by rw [List.length_append, hn] at hl; simp at hl; omega) hg⟩
end
end K24
namespace K24
open PySem L2 PyProof.Rows
section
variable {P : Program} {w : World} {K : PySem.W.Frag} {mg : Str → Option Value} {base : Heap} {t : Ad}
/-! row_to -/
theorem while_gh {c : TT} {tb : TS} {D : Ends} {σ : L2.St} {H : Hp} (W : Nat → L2.St → Hp → Prop) (h0 : ∃ m, W m σ H)
    (hs : ∀ m σ H, W m σ H → c σ H fun b H1 => if b = true then ∃ N : L2.St → Hp → Prop, (∀ σ' H', N σ' H' → ∃ m', m' < m ∧ W m' σ' H') ∧ tb { D with nx := N, ct := N, bk := D.nx } σ H1 else D.nx σ H1) : tWhile c tb D σ H := ⟨W, h0, hs⟩
/-- the ways kept: None at the first, else where one came from and by which step -/
def WayV (K : PySem.W.Frag) (H : Hp) (xs : SX) (ρ : Rho) : Prop := ∀ p ∈ xs, (ρ p.1 = [] ∧ p.2.2 = .non) ∨ ∃ (t sa ta : Addr) (s : Std) (q : Int × Int), p.2.2 = .ref t ∧ H t = some (.tup [.ref sa, .ref ta]) ∧ IsStd K H sa s ∧ H ta = some (.tup [.int q.1, .int q.2]) ∧ s ∈ xs.map (·.1) ∧ ρ p.1 = ρ s ++ [q]
theorem WayV.same {K : PySem.W.Frag} {H H' : Hp} {xs : SX} {ρ : Rho} (h : WayV K H xs ρ) (e : Same H H') : WayV K H' xs ρ := fun p hp => (h p hp).imp id fun ⟨t, sa, ta, s, q, h1, h2, h3, h4, h5⟩ => ⟨t, sa, ta, s, q, h1, e _ _ h2, h3.same e, e _ _ h4, h5⟩
theorem valS_at {xs : SX} {k : Std} (h : k ∈ xs.map (·.1)) : ∃ p ∈ xs, p.1 = k ∧ valS xs k = some p.2.2 := by
  have hs : (valS xs k).isSome = true := by rw [valS_isSome, decide_eq_true h]
  unfold valS at hs ⊢
  cases e : xs.find? fun x => decide (x.1 = k) with
  | none => rw [e] at hs; cases hs
  | some p => exact ⟨p, List.mem_of_find?_eq_some e, by have := List.find?_some e; simpa using this, rfl⟩
theorem steps_rev {K : PySem.W.Frag} {H : Hp} {a l : Addr} {ps : List (Int × Int)} {tps : Nat → Addr} (h2 : ∀ y q, ps[y]? = some q → H (tps y) = some (.tup [.int q.1, .int q.2])) (hl : H l = none) : IsSteps K (upd H l (.lst (tabR ps.length tps).reverse)) l ps.reverse := by
  refine ⟨fun y => tps (ps.length - 1 - y), ?_, fun y q hq => ?_⟩
  · rw [upd_same, List.length_reverse]
    congr 2
    apply List.ext_getElem?
    intro y
    by_cases hy : y < ps.length
    · rw [List.getElem?_reverse (by rw [tab_len]; exact hy), tab_len]
      rw [show (tabR ps.length tps)[ps.length - 1 - y]? = some (.ref (tps (ps.length - 1 - y))) from tab_get (by omega)]
      exact (tab_get (f := fun y => V.ref (tps (ps.length - 1 - y))) hy).symm
    · rw [List.getElem?_eq_none (by rw [List.length_reverse, tab_len]; omega), List.getElem?_eq_none (by rw [tab_len]; omega)]
  · have hy : y < ps.length := by have := (List.getElem?_eq_some_iff.mp hq).1; simpa using this
    rw [List.getElem?_reverse hy] at hq
    have := h2 _ _ hq
    rw [upd_ne (ne_of_none this hl)]
    exact this
def sp_row_to (K : PySem.W.Frag) : Sp := fun vs H Q _ => ∃ (d b : Addr) (xs : SX) (ρ : Rho) (k : Std), vs = [.ref d, .ref b] ∧ SD K H d xs ∧ WayV K H xs ρ ∧ IsStd K H b k ∧ k ∈ xs.map (·.1) ∧ (ρ k).length ≤ 100000 ∧ ∀ (r : Addr) (H' : Hp), Same H H' → H r = none → IsSteps K H' r (ρ k) → Q (.ref r) H'
theorem sc_row_to : FnScope ["ways", "stand", "row"] ["ways", "stand"] (defScope s_row_to) := ⟨rfl, rfl, rfl, by decide +kernel, rfl, by decide +kernel, by decide +kernel⟩
theorem ok_row_to (F : Site K mg "row_to" s_row_to) (T : Txt K mg t) : Def P w K mg base 1 "row_to" ["ways", "stand"] (sp_row_to K) := by
  refine F.def sc_row_to (fun _ _ _ _ _ _ us hl => match us, hl with | [_, _], _ => rfl) (fun vs H Q E h => ?_) (fun f cdv A outer s H vs Q E hr h => ?_)
  · obtain ⟨d, b, xs, ρ, k, rfl, _⟩ := h
    rfl
  · obtain ⟨d, b, xs, ρ, k, rfl, hd, hw, hb, hk, hl, q⟩ := h
    refine ⟨_, pss_cons (ps_set (i := 2) sc_row_to.nd rfl (Or.inl rfl) (pe_lst pa_nil))
      (pss_cons (PS.nox (ps_while PassesOwn.never (pt_cmpR op_notN (pe_sget K (hu16 hr) (pv 0) (pv 1) (fun _ _ => rfl)) pe_non (nomark _))
        (pss_cons (ps_expr (pe_bmK K PySem.F.plainAttrs_list PySem.F.slot_list_append PySem.F.type_list_append mt_append (pv 2) (pa_cons (pe_ix (ix_tupK K) (pe_sget K (hu16 hr) (pv 0) (pv 1) (fun _ _ => rfl)) pe_int (fun _ _ => rfl)) pa_nil)))
        (pss_one (ps_set (i := 1) sc_row_to.nd rfl (Or.inl rfl) (pe_ix (ix_tupK K) (pe_sget K (hu16 hr) (pv 0) (pv 1) (fun _ _ => rfl)) pe_int (fun _ _ => rfl)))))))
      (pss_one (ps_ret (pe_list_reversed rfl T.n_list T.n_reversed (pv 2))))), ?_⟩
    have hsz : (1000001 : Nat) ≤ sizeLine := by decide
    refine ⟨by show 0 ≤ sizeLine; decide, fun L hL => ?_⟩
    have s1 : Same H (upd H L (.lst [])) := (Same.refl _).new hL
    refine while_gh (fun m σ H2 => ∃ (b' : Addr) (k' : Std) (acc : List (Int × Int)), σ = [some (.ref d), some (.ref b'), some (.ref L)] ∧ Same H H2 ∧ IsStd K H b' k' ∧ k' ∈ xs.map (·.1) ∧ IsSteps K H2 L acc ∧ ρ k = ρ k' ++ acc.reverse ∧ m = (ρ k').length)
      ⟨_, b, k, [], rfl, s1, hb, hk, ⟨fun _ => 0, upd_same, fun y q hq => by cases hq⟩, by simp, rfl⟩ ?_
    rintro m σ H2 ⟨b', k', acc, rfl, s2, hb', hk', ⟨tps, g1, g2⟩, hr, rfl⟩
    obtain ⟨p, hp, hp1, hv⟩ := valS_at hk'
    refine ⟨_, rfl, _, rfl, d, b', xs, k', _, rfl, rfl, hd.same s2, hb'.same s2, hv, ?_⟩
    have hal : (ρ k').length + acc.length = (ρ k).length := by rw [hr, List.length_append, List.length_reverse]
    rcases hw p hp with ⟨e1, e2⟩ | ⟨t, sa, ta, s, q1, e1, e2, e3, e4, e5, e6⟩
    · rw [e2]
      refine ⟨rfl, _, rfl, iteF ?_⟩
      rw [hp1] at e1
      refine ⟨_, rfl, L, _, rfl, SqL.of g1, fun r hr' => ?_⟩
      have hrr := steps_rev (K := K) (a := L) g2 hr'
      rw [e1, List.nil_append] at hr
      rw [← hr] at hrr
      exact q r _ (s2.new hr') (s2.free hr') hrr
    · rw [e1]
      refine ⟨rfl, _, rfl, iteT ?_⟩
      rw [hp1] at e6
      refine ⟨fun σ' H' => ∃ (b' : Addr) (k' : Std) (acc' : List (Int × Int)), σ' = [some (.ref d), some (.ref b'), some (.ref L)] ∧ Same H H' ∧ IsStd K H b' k' ∧ k' ∈ xs.map (·.1) ∧ IsSteps K H' L acc' ∧ ρ k = ρ k' ++ acc'.reverse ∧ (ρ k').length + 1 = (ρ (p.1)).length, fun σ' H' ⟨b', k', acc', h1, h2, h3, h4, h5, h6, h7⟩ => ⟨_, by rw [hp1] at h7; omega, b', k', acc', h1, h2, h3, h4, h5, h6, rfl⟩, ?_⟩
      refine ⟨_, rfl, .inl ⟨rfl, _, SqL.of g1⟩, _, rfl, _, rfl, d, b', xs, k', _, rfl, rfl, hd.same s2, hb'.same s2, hv, ?_⟩
      rw [e1]
      refine ⟨t, _, _, _, rfl, rfl, SqT.of (s2 _ _ e2), rfl, ?_⟩
      refine ⟨L, _, _, rfl, rfl, g1, by rw [tab_len]; omega, ?_⟩
      have hst := steps_add (K := K) g1 g2 (s2 _ _ e4)
      have s3 : Same H (upd H2 L (.lst (tabR acc.length tps ++ [V.ref ta]))) := s2.put hL
      generalize upd H2 L (.lst (tabR acc.length tps ++ [V.ref ta])) = H3 at *
      refine ⟨_, rfl, _, rfl, d, b', xs, k', _, rfl, rfl, hd.same s3, hb'.same s3, hv, ?_⟩
      rw [e1]
      refine ⟨t, _, _, _, rfl, rfl, SqT.of (s3 _ _ e2), rfl, ?_⟩
      exact ⟨sa, s, acc ++ [q1], rfl, s3, e3, e5, hst, by rw [hr, e6, List.reverse_append, List.append_assoc]; rfl, by rw [hp1, e6, List.length_append]; rfl⟩
end
end K24
namespace K24
open PySem L2 PyProof.Rows
section
variable {P : Program} {w : World} {K : PySem.W.Frag} {mg : Str → Option Value} {base : Heap} {t : Ad}
/-! shown -/
def Keep2 (r p : Addr) (H H' : Hp) : Prop := ∀ b o, b ≠ r → b ≠ p → H b = some o → H' b = some o
theorem Keep2.refl {r p : Addr} {H : Hp} : Keep2 r p H H := fun _ _ _ _ h => h
theorem Keep2.same {r p : Addr} {H H1 H2 : Hp} (k : Keep2 r p H H1) (s : Same H1 H2) : Keep2 r p H H2 := fun b o h1 h2 h => s _ _ (k b o h1 h2 h)
theorem Keep2.put2 {r p : Addr} {H H1 : Hp} {o o' : HO} (k : Keep2 r p H H1) : Keep2 r p H (upd (upd H1 r o) p o') := fun b u h1 h2 h => by rw [upd_ne h2, upd_ne h1]; exact k b u h1 h2 h
structure Sh (K : PySem.W.Frag) (M : Md) (H0 H : Hp) (d lyA f : Addr) (ly : List Std) (las : Nat → Addr) (n x0 : Nat) (xs : SX) (ρ : Rho) (bs : List Std) : Prop where
  sm : Same H0 H
  ly1 : H lyA = some (.lst (tabR ly.length las))
  ly2 : ∀ y s, ly[y]? = some s → IsStd K H (las y) s
  sd : SD K H d xs
  wy : WayV K H xs ρ
  by_ : IsStds K H f bs
  bf : Bf M (xs.map (·.1)) ρ n bs
  lk : ∀ s ∈ ly, s ∈ xs.map (·.1) ∧ (ρ s).length = n
  kl : ∀ k ∈ xs.map (·.1), (ρ k).length = n → k ∈ ly
  nl : n + 1 ≤ xs.length
  cnt : xs.length = x0 + bs.length
  d0 : H0 d = none
  f0 : H0 f = none
  lf : lyA ≠ f
section
variable {M : Md} {H0 H H' : Hp} {d lyA f : Addr} {ly bs : List Std} {las : Nat → Addr} {n x0 : Nat} {xs : SX} {ρ : Rho}
theorem Sh.same (h : Sh K M H0 H d lyA f ly las n x0 xs ρ bs) (s : Same H H') : Sh K M H0 H' d lyA f ly las n x0 xs ρ bs :=
  ⟨h.sm.trans s, s _ _ h.ly1, fun y x e => (h.ly2 y x e).same s, h.sd.same s, h.wy.same s, h.by_.same s, h.bf, h.lk, h.kl, h.nl, h.cnt, h.d0, h.f0, h.lf⟩
theorem Sh.add (g : GoodMd M) {s : Std} {q : Int × Int} {t sa ta r8 : Addr} {fas : Nat → Addr} (h : Sh K M H0 H d lyA f ly las n x0 xs ρ bs) (hs : s ∈ ly) (hq : q ∈ stepsOf M s) (hw : wrongB s q = false) (hr : behindS M s q ∉ xs.map (·.1))
    (ht : H t = some (.tup [.ref sa, .ref ta])) (hsa : IsStd K H sa s) (hta : H ta = some (.tup [.int q.1, .int q.2])) (h8 : IsStd K H r8 (behindS M s q)) (f1 : H f = some (.lst (tabR bs.length fas))) (f2 : ∀ y x, bs[y]? = some x → IsStd K H (fas y) x) :
    Sh K M H0 (upd (upd H d (DS d (putS xs (behindS M s q) r8 (.ref t)))) f (.lst (tabR bs.length fas ++ [.ref r8]))) d lyA f ly las n x0 (putS xs (behindS M s q) r8 (.ref t)) (putR ρ (behindS M s q) (ρ s ++ [q])) (bs ++ [behindS M s q]) ∧
    Cl M ((putS xs (behindS M s q) r8 (.ref t)).map (·.1)) (putR ρ (behindS M s q) (ρ s ++ [q])) s q ∧
    (∀ k q', k ∈ xs.map (·.1) → Cl M (xs.map (·.1)) ρ k q' → Cl M ((putS xs (behindS M s q) r8 (.ref t)).map (·.1)) (putR ρ (behindS M s q) (ρ s ++ [q])) k q') := by
  obtain ⟨hsk, hsn⟩ := h.lk s hs
  obtain ⟨b1, b2⟩ := h.bf.add g hsk hsn hq hw hr
  have ek : (putS xs (behindS M s q) r8 (.ref t)).map (·.1) = xs.map (·.1) ++ [behindS M s q] := by rw [putS_new hr, List.map_append]; rfl
  have el : (putS xs (behindS M s q) r8 (.ref t)).length = xs.length + 1 := by rw [putS_new hr]; simp
  have keep : ∀ k ∈ xs.map (·.1), putR ρ (behindS M s q) (ρ s ++ [q]) k = ρ k := fun k hk => putR_ne fun z => hr (by rw [← z]; exact hk)
  have nfd : f ≠ d := fun z => by have := h.sd.at_; rw [← z, f1] at this; cases this
  have hd7 := h.sd.put (v := .ref t) h8
  have f17 : (upd H d (DS d (putS xs (behindS M s q) r8 (.ref t)))) f = some (.lst (tabR bs.length fas)) := by rw [upd_ne nfd]; exact f1
  have up : ∀ {b : Addr} {ys : List V}, H b = some (.tup ys) → (upd (upd H d (DS d (putS xs (behindS M s q) r8 (.ref t)))) f (.lst (tabR bs.length fas ++ [.ref r8]))) b = some (.tup ys) := fun {b ys} e => by
    rw [upd_ne (fun z => by rw [z, f1] at e; cases e), upd_ne (fun z => by have := h.sd.at_; rw [z, this] at e; cases e)]
    exact e
  have us : ∀ {b : Addr} {x : Std}, IsStd K H b x → IsStd K (upd (upd H d (DS d (putS xs (behindS M s q) r8 (.ref t)))) f (.lst (tabR bs.length fas ++ [.ref r8]))) b x := fun e => (e.updD h.sd.at_).updL f17
  refine ⟨⟨(h.sm.put h.d0).put h.f0, ?_, fun y x e => us (h.ly2 y x e), hd7.updL f17, ?_, ?_, by rw [ek]; exact b1, fun x hx => ?_, fun k hk hl => ?_, by have := h.nl; omega, by rw [el, List.length_append, h.cnt]; simp; omega, h.d0, h.f0, h.lf⟩, by rw [ek]; exact b2, fun k q' hk hc => by rw [ek]; exact hc.add hk hr⟩
  · rw [upd_ne h.lf, upd_ne (fun z => by have := h.sd.at_; rw [← z, h.ly1] at this; cases this)]
    exact h.ly1
  · intro p hp
    rw [putS_new hr] at hp
    rcases List.mem_append.mp hp with hp | hp
    · have hk : p.1 ∈ xs.map (·.1) := List.mem_map.mpr ⟨p, hp, rfl⟩
      rw [keep _ hk, ek]
      refine (h.wy p hp).imp id fun ⟨t', sa', ta', s', q', h1, h2, h3, h4, h5, h6⟩ => ⟨t', sa', ta', s', q', h1, up h2, us h3, up h4, List.mem_append_left _ h5, by rw [keep _ h5]; exact h6⟩
    · rw [List.mem_singleton.mp hp, ek]
      exact .inr ⟨t, sa, ta, s, q, rfl, up ht, us hsa, up hta, List.mem_append_left _ hsk, by rw [putR_same, keep _ hsk]⟩
  · exact stds_add f17 (fun y x e => (f2 y x e).updD h.sd.at_) (h8.updD h.sd.at_)
  · rw [ek, keep _ (h.lk x hx).1]
    exact ⟨List.mem_append_left _ (h.lk x hx).1, (h.lk x hx).2⟩
  · rw [ek] at hk
    rcases List.mem_append.mp hk with z | z
    · rw [keep _ z] at hl
      exact h.kl k z hl
    · rw [List.mem_singleton.mp z, putR_same, List.length_append, hsn] at hl
      simp at hl
end
abbrev kS (xs : SX) : List Std := xs.map (·.1)
theorem stds_keys {K : PySem.W.Frag} {H : Hp} {l : Addr} {xs : SX} (h : H l = some (.lst (xs.map fun p => V.ref p.2.1))) (hk : ∀ p ∈ xs, IsStd K H p.2.1 p.1) : IsStds K H l (kS xs) := by
  refine ⟨fun y => ((xs[y]?).map (·.2.1)).getD 0, ?_, fun y s hs => ?_⟩
  · rw [h]
    congr 2
    apply List.ext_getElem?
    intro y
    by_cases hy : y < xs.length
    · have hy' : y < (kS xs).length := by rw [List.length_map]; exact hy
      rw [show (tabR (kS xs).length fun y => ((xs[y]?).map (·.2.1)).getD 0)[y]? = some (V.ref (((xs[y]?).map (·.2.1)).getD 0)) from tab_get (f := fun y => V.ref (((xs[y]?).map (·.2.1)).getD 0)) hy']
      simp [hy]
    · rw [List.getElem?_eq_none (by rw [List.length_map]; omega), List.getElem?_eq_none (by rw [tab_len, List.length_map]; omega)]
  · rw [List.getElem?_map] at hs
    cases e : xs[y]? with
    | none => rw [e] at hs; cases hs
    | some p =>
      rw [e] at hs
      cases hs
      show IsStd K H ((Option.map (·.2.1) xs[y]?).getD 0) p.1
      rw [e]
      exact hk p (List.mem_of_getElem? e)
theorem steps_cat {K : PySem.W.Frag} {H : Hp} {p x : Addr} {ps : List (Int × Int)} {tps : Nat → Addr} {q : Int × Int} (h2 : ∀ y q, ps[y]? = some q → H (tps y) = some (.tup [.int q.1, .int q.2])) (hx : H x = some (.tup [.int q.1, .int q.2])) (hp : H p = none) : IsSteps K (upd H p (.lst (tabR ps.length tps ++ [V.ref x]))) p (ps ++ [q]) := by
  refine ⟨fun y => if y < ps.length then tps y else x, ?_, fun y q' hq => ?_⟩
  · rw [upd_same, List.length_append]
    congr 2
    apply List.ext_getElem?
    intro y
    by_cases hy : y < ps.length
    · rw [List.getElem?_append_left (by rw [tab_len]; exact hy), show (tabR ps.length tps)[y]? = some (.ref (tps y)) from tab_get hy]
      rw [show (tabR (ps.length + [q].length) fun y => if y < ps.length then tps y else x)[y]? = some (.ref (if y < ps.length then tps y else x)) from tab_get (f := fun y => V.ref (if y < ps.length then tps y else x)) (by simp; omega), if_pos hy]
    · by_cases hy2 : y = ps.length
      · rw [List.getElem?_append_right (by rw [tab_len]; omega), tab_len, hy2, Nat.sub_self]
        rw [show (tabR (ps.length + [q].length) fun y => if y < ps.length then tps y else x)[ps.length]? = some (.ref (if ps.length < ps.length then tps ps.length else x)) from tab_get (f := fun y => V.ref (if y < ps.length then tps y else x)) (by simp), if_neg (by omega)]
        rfl
      · rw [List.getElem?_eq_none (by rw [List.length_append, tab_len]; simp; omega), List.getElem?_eq_none (by rw [tab_len]; simp; omega)]
  · show (upd H p _) (if y < ps.length then tps y else x) = _
    by_cases hy : y < ps.length
    · rw [List.getElem?_append_left hy] at hq
      have := h2 y q' hq
      rw [if_pos hy, upd_ne (ne_of_none this hp)]; exact this
    · rw [List.getElem?_append_right (by omega)] at hq
      cases e : y - ps.length with
      | zero =>
        rw [e] at hq
        cases hq
        rw [if_neg hy, upd_ne (ne_of_none hx hp)]; exact hx
      | succ k => rw [e] at hq; cases hq
def sp_shown (K : PySem.W.Frag) (C : Addr) : Sp := fun vs H Q E => ∃ (a : Addr) (x y z : Int), vs = [.ref a] ∧ SqT K H a [.int x, .int y, .int z] ∧ Small3 x y z ∧
  (GoodT x y z → (∀ (r l : Addr) (H' : Hp) (ss : List Std), Same H H' → H l = none → SqT K H' r [.str "safe", .ref l] → IsStds K H' l ss → Safe ⟨x, y, z.toNat⟩ ss → ss.length ≤ 30000 → Q (.ref r) H') ∧
    (∀ (r l : Addr) (H' : Hp) (ps : List (Int × Int)), Same H H' → H l = none → SqT K H' r [.str "wrong", .ref l] → IsSteps K H' l ps → Wrong ⟨x, y, z.toNat⟩ ps → ps.length ≤ 30000 → Q (.ref r) H')) ∧ (¬ GoodT x y z → E (.ref C) none H)
theorem sc_shown : FnScope ["model", "first", "ways", "layer", "beyond", "stand", "step", "reached"] ["model"] (defScope s_shown) := ⟨rfl, rfl, rfl, by decide +kernel, rfl, by decide +kernel, by decide +kernel⟩
theorem ok_shown (F : Site K mg "shown" s_shown) (T : Txt K mg t) (D_first_stand : Def P w K mg base 3 "first_stand" ["model"] (sp_first_stand K t.BadModel)) (D_steps_from : Def P w K mg base 3 "steps_from" ["model", "stand"] (sp_steps_from K t.BadModel)) (D_is_wrong : Def P w K mg base 3 "is_wrong" ["model", "stand", "step"] (sp_is_wrong K t.BadModel))
    (D_next_stand : Def P w K mg base 3 "next_stand" ["model", "stand", "step"] (sp_next_stand K t.BadModel)) (D_row_to : Def P w K mg base 1 "row_to" ["ways", "stand"] (sp_row_to K)) : Def P w K mg base 4 "shown" ["model"] (sp_shown K t.BadModel) := by
  refine F.def sc_shown (fun _ _ _ _ _ _ us hl => match us, hl with | [_], _ => rfl) (fun vs H Q E h => ?_) (fun f cdv A outer s H vs Q E hr h => ?_)
  · obtain ⟨a, x, y, z, rfl, _⟩ := h
    rfl
  · obtain ⟨a, x, y, z, rfl, ha, hs, q1, q2⟩ := h
    refine ⟨_, pss_cons (ps_set (i := 1) sc_shown.nd rfl (Or.inl rfl) (pe_def (D_first_stand.mono (by decide)) hr (pass1 cx1_body) (pa_cons (pv 0) pa_nil)))
      (pss_cons (ps_set (i := 2) sc_shown.nd rfl (Or.inl rfl) (pe_sone K (hu16 hr) (pv 1) pe_non))
      (pss_cons (ps_set (i := 3) sc_shown.nd rfl (Or.inl rfl) (pe_lst (pa_cons (pv 1) pa_nil)))
      (pss_cons (PS.nox (ps_while PassesOwn.never (pt_truth (pv 3) (fun _ => rfl))
        (pss_cons (ps_set (i := 4) sc_shown.nd rfl (Or.inl rfl) (pe_lst pa_nil))
        (pss_cons (ps_for PassesOwn.never rfl (pi_listK K (pv 3)) (pg_name (i := 5) sc_shown.nd rfl (Or.inl rfl))
          (pss_one (ps_for PassesOwn.never rfl (pi_listK K (pe_def (D_steps_from.mono (by decide)) hr passN (pa_cons (pv 0) (pa_cons (pv 5) pa_nil)))) (pg_name (i := 6) sc_shown.nd rfl (Or.inl rfl))
            (pss_cons (ps_if (pt_val (pe_def (D_is_wrong.mono (by decide)) hr passN (pa_cons (pv 0) (pa_cons (pv 5) (pa_cons (pv 6) pa_nil)))))
              (pss_one (ps_ret (pe_tup (pa_cons pe_str (pa_cons (pe_op (op_catK K) (pe_def (D_row_to.mono (by decide)) hr passN (pa_cons (pv 2) (pa_cons (pv 5) pa_nil))) (pe_lst (pa_cons (pv 6) pa_nil))) pa_nil)))))
              (pss_nil))
            (pss_cons (ps_set (i := 7) sc_shown.nd rfl (Or.inl rfl) (pe_def (D_next_stand.mono (by decide)) hr passN (pa_cons (pv 0) (pa_cons (pv 5) (pa_cons (pv 6) pa_nil)))))
            (pss_one (ps_if (pt_cmpR (op_notInS K (hu16 hr)) (pv 7) (pv 2) (by rfl))
              (pss_cons (ps_sput K (hu16 hr) (pv 2) (pv 7) (pe_tup (pa_cons (pv 5) (pa_cons (pv 6) pa_nil))) (by rfl))
              (pss_one (ps_expr (pe_bmK K PySem.F.plainAttrs_list PySem.F.slot_list_append PySem.F.type_list_append mt_append (pv 4) (pa_cons (pv 7) pa_nil)))))
              (pss_nil))))))))
        (pss_one (ps_set (i := 3) sc_shown.nd rfl (Or.inl rfl) (pv 4)))))))
      (pss_one (ps_ret (pe_tup (pa_cons pe_str (pa_cons (pe_callTy call_listS (by rfl) T.n_list boot_list (pa_cons (pv 2) pa_nil)) pa_nil)))))))), ?_⟩
    have hsz : (1000001 : Nat) ≤ sizeLine := by decide
    refine ⟨_, rfl, a, x, y, z, rfl, ha, hs, fun g r0 H1 s1 h1 => ?_, fun g => q2 g⟩
    obtain ⟨qs, qw⟩ := q1 g
    have gM := good_of g
    generalize hM : (⟨x, y, z.toNat⟩ : Md) = M at *
    have hla : z.toNat = M.la := by rw [← hM]
    rw [hla] at h1
    intro d hd
    have s2 : Same H1 (upd H1 d (DS d [])) := (Same.refl _).new hd
    have nd : H d = none := s1.free hd
    refine ⟨_, rfl, r0, firstS M.la, rfl, upd_same, h1.same s2, ?_⟩
    have hd3 : SD K (upd (upd H1 d (DS d [])) d (DS d [(firstS M.la, r0, .non)])) d [(firstS M.la, r0, .non)] := ⟨upd_same, fun p hp => by rw [List.mem_singleton.mp hp]; exact (h1.same s2).updD upd_same⟩
    have h3 : IsStd K (upd (upd H1 d (DS d [])) d (DS d [(firstS M.la, r0, .non)])) r0 (firstS M.la) := (h1.same s2).updD upd_same
    have s3 : Same H (upd (upd H1 d (DS d [])) d (DS d [(firstS M.la, r0, .non)])) := (s1.trans s2).put nd
    generalize upd (upd H1 d (DS d [])) d (DS d [(firstS M.la, r0, .non)]) = H3 at *
    refine ⟨_, rfl, by show 1 ≤ sizeLine; decide, fun ly0 hly0 => ?_⟩
    have s4 : Same H3 (upd H3 ly0 (.lst [.ref r0])) := (Same.refl _).new hly0
    have hly4 : IsStds K (upd H3 ly0 (.lst [.ref r0])) ly0 [firstS M.la] := ⟨fun _ => r0, upd_same, fun y s hs => by
      cases y with
      | zero => cases hs; exact h3.same s4
      | succ y => cases hs⟩
    have hd4 := hd3.same s4
    have s04 := s3.trans s4
    generalize upd H3 ly0 (.lst [.ref r0]) = H4 at *
    refine ⟨(fun m σ H5 => ∃ (lyA : Addr) (ly : List Std) (xs : SX) (ρ : Rho) (n : Nat) (v4 v5 v6 v7 : Option V), σ = [some (.ref a), some (.ref r0), some (.ref d), some (.ref lyA), v4, v5, v6, v7] ∧ Same H H5 ∧ SD K H5 d xs ∧ WayV K H5 xs ρ ∧ IsStds K H5 lyA ly ∧ Bf M (kS xs) ρ n [] ∧
      (∀ s ∈ ly, s ∈ kS xs ∧ (ρ s).length = n) ∧ (∀ k ∈ kS xs, (ρ k).length = n → k ∈ ly) ∧ (ly ≠ [] → n + 1 ≤ xs.length) ∧ m = 2 * (30000 - xs.length) + (if ly = [] then 0 else 1)),
      ⟨_, ly0, [firstS M.la], [(firstS M.la, r0, .non)], fun _ => [], 0, none, none, none, none, rfl, s04, hd4, (fun p hp => .inl ⟨rfl, by rw [List.mem_singleton.mp hp]⟩), hly4, Bf.first, (fun s hs => ⟨hs, rfl⟩), (fun k hk _ => hk), (fun _ => Nat.le_refl _), rfl⟩, ?_⟩
    rintro m σ H5 ⟨lyA, ly, xs, ρ, n, v4, v5, v6, v7, rfl, s5, hd5, hw5, hly5, bf5, lk5, kl5, nl5, rfl⟩
    obtain ⟨las, l1, l2⟩ := hly5
    have hxlen : xs.length ≤ 25920 := by have := keys_len gM bf5.nd bf5.near; rwa [List.length_map] at this
    refine ⟨_, rfl, _, .inl ⟨_, SqL.of l1, rfl⟩, ?_⟩
    by_cases hle : ly = []
    · subst hle
      refine iteF ?_
      have sf := bf5.safe (fun k hk z => by cases kl5 k hk z)
      refine ⟨_, rfl, rfl, d, xs, rfl, hd5.at_, fun l hl => ?_⟩
      refine ⟨by show 2 ≤ sizeLine; decide, fun r hr => ?_⟩
      have s6 : Same H5 (upd H5 l (.lst (xs.map fun p => V.ref p.2.1))) := (Same.refl _).new hl
      have hk6 : IsStds K (upd H5 l (.lst (xs.map fun p => V.ref p.2.1))) l (kS xs) := stds_keys upd_same fun p hp => (hd5.keys p hp).same s6
      have s7 : Same (upd H5 l (.lst (xs.map fun p => V.ref p.2.1))) (upd (upd H5 l (.lst (xs.map fun p => V.ref p.2.1))) r (.tup [.str "safe", .ref l])) := (Same.refl _).new hr
      exact qs r l _ (kS xs) ((s5.trans s6).trans s7) (s5.free hl) (SqT.of upd_same) (hk6.same s7) sf (by rw [List.length_map]; omega)
    · have hne : (!(tabR ly.length las).isEmpty) = true := by
        have hl := tab_len (n := ly.length) (f := fun j => V.ref (las j))
        have hl' : (tabR ly.length las).length = ly.length := hl
        cases e : tabR ly.length las with
        | nil => rw [e] at hl'; exact absurd (List.length_eq_zero_iff.mp hl'.symm) hle
        | cons s l => rfl
      rw [hne]
      refine iteT ?_
      refine ⟨fun σ' H' => ∃ m', m' < 2 * (30000 - xs.length) + (if ly = [] then 0 else 1) ∧ (∃ (lyA : Addr) (ly : List Std) (xs : SX) (ρ : Rho) (n : Nat) (v4 v5 v6 v7 : Option V), σ' = [some (.ref a), some (.ref r0), some (.ref d), some (.ref lyA), v4, v5, v6, v7] ∧ Same H H' ∧ SD K H' d xs ∧ WayV K H' xs ρ ∧ IsStds K H' lyA ly ∧ Bf M (kS xs) ρ n [] ∧
        (∀ s ∈ ly, s ∈ kS xs ∧ (ρ s).length = n) ∧ (∀ k ∈ kS xs, (ρ k).length = n → k ∈ ly) ∧ (ly ≠ [] → n + 1 ≤ xs.length) ∧ m' = 2 * (30000 - xs.length) + (if ly = [] then 0 else 1)), fun σ' H' h => h, ?_⟩
      rw [if_neg hle]
      refine ⟨by show 0 ≤ sizeLine; decide, fun f hf => ?_⟩
      have s6 : Same H5 (upd H5 f (.lst [])) := (Same.refl _).new hf
      have sh6 : Sh K M H (upd H5 f (.lst [])) d lyA f ly las n xs.length xs ρ [] := ⟨s5.trans s6, s6 _ _ l1, fun y x e => (l2 y x e).same s6, hd5.same s6, hw5.same s6, ⟨fun _ => 0, upd_same, fun y s hs => by cases hs⟩, bf5, lk5, kl5, nl5 hle, rfl, nd, s5.free hf, fun z => by rw [z, hf] at l1; cases l1⟩
      generalize upd H5 f (.lst []) = H6 at *
      refine ⟨_, rfl, lyA, rfl, ⟨_, SqL.of sh6.ly1⟩, for_list (K := K) (a := lyA) (xs := tabR ly.length las) (fun i σ H7 => ∃ (xs' : SX) (ρ' : Rho) (bs : List Std) (v5 v6 v7 : Option V), σ = [some (.ref a), some (.ref r0), some (.ref d), some (.ref lyA), some (.ref f), v5, v6, v7] ∧ Sh K M H H7 d lyA f ly las n xs.length xs' ρ' bs ∧ ∀ (j : Nat) (s : Std), j < i → ly[j]? = some s → ∀ q ∈ stepsOf M s, Cl M (kS xs') ρ' s q)
        ⟨xs, ρ, [], v5, v6, v7, rfl, sh6, fun j s hj => absurd hj (Nat.not_lt_zero _)⟩ (fun i σ H7 _ ⟨_, _, _, _, _, _, _, sh7, _⟩ => SqL.of sh7.ly1) ?_ ?_⟩
      · rintro i v σ H7 hi ⟨xs', ρ', bs, v5, v6, v7, rfl, sh7, cl7⟩
        obtain ⟨hil, rfl⟩ := tab_of hi
        have e : ly[i]? = some ly[i] := by simp [hil]
        generalize hss : ly[i] = s at e
        have hsly : s ∈ ly := List.mem_of_getElem? e
        have hsk := (sh7.lk s hsly)
        have gS : GoodS M s := (sh7.bf.near s hsk.1).good
        have l1' := gS.se
        have l2' := gS.to
        refine ⟨_, rfl, _, rfl, a, las i, x, y, z, rfl, sh7.sm.tup ha, hs, fun _ => ⟨s, sh7.ly2 i s e, by rw [hM]; exact gS, fun r9 H9 s9 n9 h9 => ?_⟩, fun g' => absurd g g'⟩
        rw [hM] at h9
        obtain ⟨tps, j1, j2⟩ := h9
        have rd : r9 ≠ d := fun zz => by have := sh7.sd.at_; rw [zz, this] at n9; cases n9
        have rf : r9 ≠ f := fun zz => by obtain ⟨_, g1, _⟩ := sh7.by_; rw [zz, g1] at n9; cases n9
        have sh9 := sh7.same s9
        refine ⟨r9, rfl, ⟨_, SqL.of j1⟩, for_list (K := K) (a := r9) (xs := tabR (stepsOf M s).length tps) (fun j σ H10 => ∃ (xs' : SX) (ρ' : Rho) (bs : List Std) (v6 v7 : Option V), σ = [some (.ref a), some (.ref r0), some (.ref d), some (.ref lyA), some (.ref f), some (.ref (las i)), v6, v7] ∧ Sh K M H H10 d lyA f ly las n xs.length xs' ρ' bs ∧ Keep2 d f H9 H10 ∧ (∀ (j : Nat) (s : Std), j < i → ly[j]? = some s → ∀ q ∈ stepsOf M s, Cl M (kS xs') ρ' s q) ∧ ∀ (y : Nat) (q : Int × Int), y < j → (stepsOf M s)[y]? = some q → Cl M (kS xs') ρ' s q)
          ⟨xs', ρ', bs, v6, v7, rfl, sh9, Keep2.refl, cl7, fun y q hy => absurd hy (Nat.not_lt_zero _)⟩ (fun j σ H10 _ ⟨_, _, _, _, _, _, _, k10, _⟩ => SqL.of (k10 _ _ rd rf j1)) ?_ ?_⟩
        · rintro j v σ H10 hj ⟨xs2, ρ2, bs2, v6, v7, rfl, sh10, k10, clo, cli⟩
          obtain ⟨hjl, rfl⟩ := tab_of hj
          have e2 : (stepsOf M s)[j]? = some (stepsOf M s)[j] := by simp [hjl]
          generalize hqq : (stepsOf M s)[j] = qq at e2
          have hqm := List.mem_of_getElem? e2
          obtain ⟨ua, va, eq, hua, hva, _⟩ := steps_mem hqm
          subst eq
          have hq9 := j2 j _ e2
          have td : tps j ≠ d := fun zz => by have := sh9.sd.at_; rw [zz, this] at hq9; cases hq9
          have tf : tps j ≠ f := fun zz => by obtain ⟨_, g1, _⟩ := sh9.by_; rw [zz, g1] at hq9; cases hq9
          have hq := k10 _ _ td tf hq9
          have hsk2 := sh10.lk s hsly
          have hx10 : xs2.length ≤ 25920 := by have := keys_len gM sh10.bf.nd sh10.bf.near; rwa [List.length_map] at this
          have hnl := sh10.nl
          refine ⟨_, rfl, _, rfl, _, rfl, a, las i, tps j, x, y, z, rfl, sh10.sm.tup ha, hs, fun _ => ⟨s, (ua : Int), (va : Int), sh10.ly2 i s e, SqT.of hq, by omega, by omega, ?_⟩, fun g' => absurd g g'⟩
          refine ⟨_, rfl, ?_⟩
          cases hw : wrongB s ((ua : Int), (va : Int)) with
          | true =>
            refine iteT ?_
            have wr := sh10.bf.wrong hsk2.1 hsk2.2 hqm hw
            refine ⟨_, rfl, _, rfl, d, las i, xs2, ρ2, s, rfl, sh10.sd, sh10.wy, sh10.ly2 i s e, hsk2.1, by omega, fun r11 H11 s11 n11 h11 => ?_⟩
            obtain ⟨tp2, g1, g2⟩ := h11
            refine ⟨_, rfl, by show 1 ≤ sizeLine; decide, fun b12 hb12 => ?_⟩
            have s12 : Same H11 (upd H11 b12 (.lst [.ref (tps j)])) := (Same.refl _).new hb12
            have hq12 := s12 _ _ (s11 _ _ hq)
            have g1' := s12 _ _ g1
            have hb' : (upd H11 b12 (.lst [.ref (tps j)])) b12 = some (.lst [.ref (tps j)]) := upd_same
            generalize upd H11 b12 (.lst [.ref (tps j)]) = H12 at *
            refine ⟨r11, b12, _, _, rfl, rfl, SqL.of g1', SqL.of hb', by rw [tab_len]; show (ρ2 s).length + 1 ≤ sizeLine; omega, fun p hp => ?_⟩
            have s13 : Same H12 (upd H12 p (.lst (tabR (ρ2 s).length tp2 ++ [.ref (tps j)]))) := (Same.refl _).new hp
            have hst : IsSteps K (upd H12 p (.lst (tabR (ρ2 s).length tp2 ++ [.ref (tps j)]))) p (ρ2 s ++ [((ua : Int), (va : Int))]) := steps_cat (fun y q hq => s12 _ _ (g2 y q hq)) hq12 hp
            generalize upd H12 p (.lst (tabR (ρ2 s).length tp2 ++ [.ref (tps j)])) = H13 at *
            refine ⟨by show 2 ≤ sizeLine; decide, fun r hr => ?_⟩
            have s14 : Same H13 (upd H13 r (.tup [.str "wrong", .ref p])) := (Same.refl _).new hr
            have s010 := sh10.sm
            exact qw r p _ _ ((((s010.trans s11).trans s12).trans s13).trans s14) (((s010.trans s11).trans s12).free hp) (SqT.of upd_same) (hst.same s14) wr (by rw [List.length_append]; simp; omega)
          | false =>
            refine iteF ?_
            refine ⟨_, rfl, _, rfl, _, rfl, a, las i, tps j, x, y, z, rfl, sh10.sm.tup ha, hs, fun _ => ⟨s, (ua : Int), (va : Int), sh10.ly2 i s e, by rw [hM]; exact gS, SqT.of hq, fun r8 H11 s11 h8 => ?_⟩, fun g' => absurd g g'⟩
            rw [hM] at h8
            have sh11 := sh10.same s11
            have k11 := k10.same s11
            refine ⟨_, rfl, _, rfl, d, r8, xs2, _, rfl, rfl, sh11.sd, h8, ?_⟩
            refine ⟨_, rfl, ?_⟩
            by_cases hm : behindS M s ((ua : Int), (va : Int)) ∈ kS xs2
            · rw [decide_eq_true hm]
              refine iteF ⟨xs2, ρ2, bs2, _, _, rfl, sh11, k11, clo, fun y q hy hyq => ?_⟩
              by_cases hyj : y = j
              · subst hyj
                rw [e2] at hyq
                cases hyq
                exact sh10.bf.seen hsk2.2 hw hm
              · exact cli y q (by omega) hyq
            · rw [decide_eq_false hm]
              refine iteT ?_
              refine ⟨_, rfl, _, rfl, by show 2 ≤ sizeLine; decide, fun t ht => ?_⟩
              have s12 : Same H11 (upd H11 t (.tup [.ref (las i), .ref (tps j)])) := (Same.refl _).new ht
              have sh12 := sh11.same s12
              have k12 := k11.same s12
              have h8' := h8.same s12
              have ht' : (upd H11 t (.tup [.ref (las i), .ref (tps j)])) t = some (.tup [.ref (las i), .ref (tps j)]) := upd_same
              have hq12 := s12 _ _ (s11 _ _ hq)
              generalize upd H11 t (.tup [.ref (las i), .ref (tps j)]) = H12 at *
              refine ⟨_, rfl, _, rfl, d, r8, xs2, _, rfl, rfl, sh12.sd, h8', by omega, ?_⟩
              obtain ⟨fas, f1, f2⟩ := sh12.by_
              have nfd : f ≠ d := fun zz => by have := sh12.sd.at_; rw [← zz, f1] at this; cases this
              have f1' : (upd H12 d (DS d (putS xs2 (behindS M s ((ua : Int), (va : Int))) r8 (.ref t)))) f = some (.lst (tabR bs2.length fas)) := by rw [upd_ne nfd]; exact f1
              have hcnt := sh12.cnt
              refine ⟨_, rfl, .inl ⟨rfl, _, SqL.of f1'⟩, _, rfl, f, _, _, rfl, rfl, f1', by rw [tab_len]; omega, ?_⟩
              obtain ⟨shA, clA, clB⟩ := sh12.add gM hsly hqm hw hm ht' (sh12.ly2 i s e) hq12 h8' f1 f2
              refine ⟨_, _, _, _, _, rfl, shA, k12.put2, fun j' s' hj' hs' q hq => clB s' q (sh12.lk s' (List.mem_of_getElem? hs')).1 (clo j' s' hj' hs' q hq), fun y q hy hyq => ?_⟩
              by_cases hyj : y = j
              · subst hyj
                rw [e2] at hyq
                cases hyq
                exact clA
              · exact clB s q hsk2.1 (cli y q (by omega) hyq)
        · rintro σ H10 ⟨xs2, ρ2, bs2, v6, v7, rfl, sh10, k10, clo, cli⟩
          rw [tab_len] at cli
          refine ⟨xs2, ρ2, bs2, _, _, _, rfl, sh10, fun j s' hj hs' q hq => ?_⟩
          by_cases hji : j = i
          · subst hji
            rw [e] at hs'
            cases hs'
            obtain ⟨y, hy⟩ := List.getElem?_of_mem hq
            exact cli y q (List.getElem?_eq_some_iff.mp hy).1 hy
          · exact clo j s' (by omega) hs' q hq
      · rintro σ H7 ⟨xs', ρ', bs, v5, v6, v7, rfl, sh7, cl7⟩
        rw [tab_len] at cl7
        have hx7 : xs'.length ≤ 25920 := by have := keys_len gM sh7.bf.nd sh7.bf.near; rwa [List.length_map] at this
        have hcnt := sh7.cnt
        have hnl := sh7.nl
        refine ⟨_, rfl, _, ?_, f, bs, xs', ρ', n + 1, _, _, _, _, rfl, sh7.sm, sh7.sd, sh7.wy, sh7.by_, sh7.bf.next fun k hk hl q hq => ?_, sh7.bf.byk, sh7.bf.up, fun hb => ?_, rfl⟩
        · by_cases hb : bs = []
          · rw [if_pos hb]; omega
          · rw [if_neg hb]
            have : bs.length ≠ 0 := fun z => hb (List.length_eq_zero_iff.mp z)
            omega
        · obtain ⟨j, hj⟩ := List.getElem?_of_mem (sh7.kl k hk hl)
          exact cl7 j k (List.getElem?_eq_some_iff.mp hj).1 hj q hq
        · have : bs.length ≠ 0 := fun z => hb (List.length_eq_zero_iff.mp z)
          have := nl5 hle
          omega
end
end K24
namespace K24
open PySem L2 PyProof.Rows
section
variable {P : Program} {w : World} {K : PySem.W.Frag} {mg : Str → Option Value} {base : Heap} {t : Ad}
/-! fences and rows: other models -/
def timesM (M : Md) (t : Int) : Md := ⟨M.m * t, M.pa, M.la⟩
theorem fitE_mul {n m t : Int} {o : Option Int} (h : fitE n (m * t) o = true) : fitE n m o = true := by
  cases o with
  | none => cases h
  | some e =>
    unfold fitE at h ⊢
    rw [decide_eq_true_eq] at h ⊢
    exact Int.emod_eq_zero_of_dvd (Int.dvd_trans (Int.dvd_mul_right m t) (Int.dvd_of_emod_eq_zero h))
theorem may_times {M : Md} {t : Int} {s : Std} {q : Int × Int} (h : mayB (timesM M t) s q = true) : mayB M s q = true := by
  unfold mayB at h ⊢
  simp only [Bool.and_eq_true, decide_eq_true_eq] at h ⊢
  obtain ⟨⟨⟨⟨⟨h1, h2⟩, h3⟩, h4⟩, h5⟩, h6⟩ := h
  refine ⟨⟨⟨⟨⟨h1, h2⟩, h3⟩, h4⟩, ?_⟩, ?_⟩
  · unfold tkB fitAt at h5 ⊢
    rw [Bool.or_eq_true] at h5 ⊢
    exact h5.imp id fitE_mul
  · unfold hrB at h6 ⊢
    rw [Bool.or_eq_true, Bool.and_eq_true] at h6 ⊢
    exact h6.imp id fun ⟨x, y⟩ => ⟨x, fitE_mul y⟩
theorem Safe.fence_times {M : Md} {ss : List Std} (h : Safe M ss) (t : Int) : fenceB (timesM M t) ss = true := by
  unfold fenceB
  have e : (dedupS ss).length = ss.length := (dedup_len ss).mpr h.nd
  rw [decide_eq_true e, decide_eq_true (show firstS (timesM M t).la ∈ dedupS ss from dedup_mem.mpr h.fst)]
  show (ss.all fun s => keepsB (timesM M t) s (dedupS ss)) = true
  rw [List.all_eq_true]
  intro s hs
  have hk := h.keeps s hs
  unfold keepsB at hk ⊢
  rw [List.all_eq_true] at hk ⊢
  intro q hq
  have := hk q (may_mem.mp (may_times (may_mem.mpr hq)))
  rw [Bool.and_eq_true, decide_eq_true_eq] at this ⊢
  exact ⟨this.1, dedup_mem.mpr this.2⟩
theorem Safe.fence {M : Md} {ss : List Std} (h : Safe M ss) : fenceB M ss = true := by
  have := h.fence_times 1
  have e : timesM M 1 = M := by cases M; unfold timesM; simp
  rwa [e] at this
theorem Safe.step {M : Md} {ss : List Std} (h : Safe M ss) {s : Std} {q : Int × Int} (hs : s ∈ ss) (hq : q ∈ stepsOf M s) : wrongB s q = false ∧ behindS M s q ∈ ss := by
  have hk := h.keeps s hs
  unfold keepsB at hk
  rw [List.all_eq_true] at hk
  have := hk q hq
  rw [Bool.and_eq_true, decide_eq_true_eq] at this
  exact ⟨by simpa using this.1, this.2⟩
theorem Safe.go {M : Md} {ss : List Std} (h : Safe M ss) : ∀ (qs : List (Int × Int)) (s x : Std), s ∈ ss → goF M s qs = some x → x ∈ ss
  | [], s, x, hs, hg => by cases hg; exact hs
  | q :: r, s, x, hs, hg => by
    unfold goF at hg
    by_cases hp : mayB M s q = true ∧ wrongB s q = false
    · rw [if_pos hp] at hg
      exact Safe.go h r _ x (h.step hs (may_mem.mp hp.1)).2 hg
    · rw [if_neg hp] at hg; cases hg
/-- a row that is right but for its last step -/
def RowW (M : Md) (ps : List (Int × Int)) : Prop := ∃ qs s q, ps = qs ++ [q] ∧ goF M (firstS M.la) qs = some s ∧ q ∈ stepsOf M s ∧ wrongB s q = true
theorem Wrong.len {M : Md} {ps ps' : List (Int × Int)} (h : Wrong M ps) (w : RowW M ps') : ps.length ≤ ps'.length := by
  obtain ⟨qs, s, q, e, h1, h2, h3⟩ := w
  refine Classical.byContradiction fun hn => ?_
  have := h.least qs s (by rw [e, List.length_append] at hn; simp at hn; omega) h1 q h2
  rw [h3] at this
  cases this
/-- one tick less -/
def lessM (M : Md) : Md := ⟨M.m, M.pa, M.la - 1⟩
def cutS (s : Std) : Std := ⟨s.ah, s.rs, s.se.dropLast, s.to.dropLast⟩
theorem cut_first (n : Nat) : cutS (firstS n) = firstS (n - 1) := by unfold cutS firstS; simp
theorem cut_at {l : List (Option Int)} {n k : Nat} (hl : l.length = n) (hk : k < n - 1) : l.dropLast[k]? = l[k]? := by
  rw [List.getElem?_dropLast, if_pos (by omega)]
theorem cut_may {M : Md} {s : Std} {q : Int × Int} (gS : GoodS M s) (h : mayB (lessM M) (cutS s) q = true) : mayB M s q = true := by
  have l1 := gS.se
  have l2 := gS.to
  unfold mayB at h ⊢
  simp only [Bool.and_eq_true, decide_eq_true_eq] at h ⊢
  obtain ⟨⟨⟨⟨⟨h1, h2⟩, h3⟩, h4⟩, h5⟩, h6⟩ := h
  have h2 : q.1 ≤ ((M.la - 1 : Nat) : Int) := h2
  have h4 : q.2 ≤ ((M.la - 1 : Nat) : Int) := h4
  refine ⟨⟨⟨⟨⟨h1, by omega⟩, h3⟩, by omega⟩, ?_⟩, ?_⟩
  · unfold tkB fitAt at h5 ⊢
    rw [Bool.or_eq_true] at h5 ⊢
    rcases h5 with h5 | h5
    · exact .inl h5
    · by_cases z : q.1.toNat = 0
      · exact .inl (by rw [z]; rfl)
      · right
        have h5 : fitE 0 M.m ((s.se.dropLast[q.1.toNat - 1]?).getD none) = true := h5
        rwa [cut_at l1 (by omega)] at h5
  · unfold hrB at h6 ⊢
    rw [Bool.or_eq_true] at h6 ⊢
    rcases h6 with h6 | h6
    · exact .inl h6
    · by_cases z : q.2.toNat = 0
      · exact .inl (by rw [z]; rfl)
      · right
        have h6 : (decide (s.rs = 0) && fitE (s.ah + 1) M.m ((s.to.dropLast[q.2.toNat - 1]?).getD none)) = true := h6
        rwa [cut_at l2 (by omega)] at h6
theorem cut_wrong {M : Md} {s : Std} {q : Int × Int} (gS : GoodS M s) (h : mayB (lessM M) (cutS s) q = true) : wrongB (cutS s) q = wrongB s q := by
  have l1 := gS.se
  have l2 := gS.to
  unfold mayB at h
  simp only [Bool.and_eq_true, decide_eq_true_eq] at h
  obtain ⟨⟨⟨⟨⟨h1, h2⟩, h3⟩, h4⟩, _⟩, _⟩ := h
  have h2 : q.1 ≤ ((M.la - 1 : Nat) : Int) := h2
  have h4 : q.2 ≤ ((M.la - 1 : Nat) : Int) := h4
  unfold wrongB
  congr 1
  · unfold wrongT
    by_cases z : 0 < q.1
    · show (decide (0 < q.1) && !decide ((s.se.dropLast[(q.1 - 1).toNat]?).getD none = some 0)) = _
      rw [cut_at l1 (by omega)]
    · rw [decide_eq_false z, Bool.false_and, Bool.false_and]
  · unfold wrongH
    by_cases z : 0 < q.2
    · show (decide (0 < q.2) && !decide ((s.to.dropLast[(q.2 - 1).toNat]?).getD none = some (s.ah + 1))) = _
      rw [cut_at l2 (by omega)]
    · rw [decide_eq_false z, Bool.false_and, Bool.false_and]
theorem cons_cut {l : List (Option Int)} {x : Option Int} {f : Option Int → Option Int} (h : 2 ≤ l.length) : (x :: l.dropLast.map f).dropLast = x :: l.dropLast.dropLast.map f := by
  have hne : l.dropLast.map f ≠ [] := fun z => by
    have := congrArg List.length z
    rw [List.length_map, List.length_dropLast] at this
    simp at this
    omega
  rw [List.dropLast_cons_of_ne_nil hne]
  simp only [List.map_dropLast]
theorem cut_behind {M : Md} {s : Std} {q : Int × Int} (gS : GoodS M s) (h2 : 2 ≤ M.la) : cutS (behindS M s q) = behindS (lessM M) (cutS s) q := by
  have l1 := gS.se
  have l2 := gS.to
  unfold cutS behindS
  congr 1
  · exact cons_cut (by omega)
  · exact cons_cut (by omega)
theorem cut_go {M : Md} (g : GoodMd M) (h2 : 2 ≤ M.la) : ∀ (qs : List (Int × Int)) (s x' : Std), GoodS M s → goF (lessM M) (cutS s) qs = some x' → ∃ x, goF M s qs = some x ∧ x' = cutS x ∧ GoodS M x
  | [], s, x', gS, h => by cases h; exact ⟨s, rfl, rfl, gS⟩
  | q :: r, s, x', gS, h => by
    unfold goF at h
    by_cases hp : mayB (lessM M) (cutS s) q = true ∧ wrongB (cutS s) q = false
    · rw [if_pos hp, ← cut_behind gS h2] at h
      obtain ⟨x, h1, h2', h3⟩ := cut_go g h2 r _ x' (goodS_behind g gS) h
      refine ⟨x, ?_, h2', h3⟩
      show (if mayB M s q = true ∧ wrongB s q = false then goF M (behindS M s q) r else none) = _
      rw [if_pos ⟨cut_may gS hp.1, by rw [← cut_wrong gS hp.1]; exact hp.2⟩]
      exact h1
    · rw [if_neg hp] at h; cases h
theorem RowW.more {M : Md} (g : GoodMd M) (h2 : 2 ≤ M.la) {ps : List (Int × Int)} (h : RowW (lessM M) ps) : RowW M ps := by
  obtain ⟨qs, s', q, e, h1, h3, h4⟩ := h
  have h1 : goF (lessM M) (firstS (M.la - 1)) qs = some s' := h1
  rw [← cut_first] at h1
  obtain ⟨s, k1, rfl, gS⟩ := cut_go g h2 qs _ s' goodS_first h1
  have hm := may_mem.mpr h3
  exact ⟨qs, s, q, e, k1, may_mem.mp (cut_may gS hm), by rw [← cut_wrong gS hm]; exact h4⟩
end
end K24
namespace K24
open PySem L2 PyProof.Rows
section
variable {P : Program} {w : World} {K : PySem.W.Frag} {mg : Str → Option Value} {base : Heap} {t : Ad}
/-! rows of steps walked -/
def walkF (M : Md) : Std → List (Int × Int) → Option (List Std)
  | _, [] => some []
  | s, q :: r => if mayB M s q = true then (if wrongB s q = true then (if r = [] then some [s] else none) else (walkF M (behindS M s q) r).map (s :: ·)) else none
def IsRes (K : PySem.W.Frag) (H H' : Hp) (v : V) : Option (List Std) → Prop
  | none => v = .non
  | some ss => ∃ r, v = .ref r ∧ H r = none ∧ IsStds K H' r ss
theorem drop_at {α : Type} {l : List α} {i : Nat} {x : α} (h : l[i]? = some x) : l.drop i = x :: l.drop (i + 1) := by
  obtain ⟨hi, rfl⟩ := List.getElem?_eq_some_iff.mp h
  exact List.drop_eq_getElem_cons hi
theorem map_app {acc : List Std} {s : Std} {o : Option (List Std)} : (o.map (s :: ·)).map (acc ++ ·) = o.map ((acc ++ [s]) ++ ·) := by
  cases o with
  | none => rfl
  | some l => simp
theorem mem_any (ps : List (Int × Int)) (q : Int × Int) : ((List.range ps.length).any fun j => decide ((match ps[j]? with | some p => [some p.1, some p.2] | none => []) = [some q.1, some q.2])) = decide (q ∈ ps) := by
  rw [Bool.eq_iff_iff]
  simp only [List.any_eq_true, List.mem_range, decide_eq_true_eq]
  constructor
  · rintro ⟨j, hj, h⟩
    have e : ps[j]? = some ps[j] := by simp [hj]
    rw [e] at h
    simp only [List.cons.injEq, Option.some.injEq, and_true] at h
    have : ps[j] = q := Prod.ext h.1 h.2
    rw [← this]
    exact List.getElem_mem hj
  · intro h
    obtain ⟨j, hj, rfl⟩ := List.getElem_of_mem h
    exact ⟨j, hj, by simp [hj]⟩
def sp_walk_of (K : PySem.W.Frag) (C : Addr) : Sp := fun vs H Q E => ∃ (a l : Addr) (x y z : Int), vs = [.ref a, .ref l] ∧ SqT K H a [.int x, .int y, .int z] ∧ Small3 x y z ∧
  (GoodT x y z → ∃ ps, IsSteps K H l ps ∧ ps.length ≤ 100000 ∧ ∀ (v : V) (H' : Hp), Same H H' → IsRes K H H' v (walkF ⟨x, y, z.toNat⟩ (firstS z.toNat) ps) → Q v H') ∧ (¬ GoodT x y z → E (.ref C) none H)
theorem sc_walk_of : FnScope ["model", "steps", "stand", "stands", "place", "step"] ["model", "steps"] (defScope s_walk_of) := ⟨rfl, rfl, rfl, by decide +kernel, rfl, by decide +kernel, by decide +kernel⟩
theorem ok_walk_of (F : Site K mg "walk_of" s_walk_of) (T : Txt K mg t) (D_first_stand : Def P w K mg base 3 "first_stand" ["model"] (sp_first_stand K t.BadModel)) (D_steps_from : Def P w K mg base 3 "steps_from" ["model", "stand"] (sp_steps_from K t.BadModel)) (D_is_wrong : Def P w K mg base 3 "is_wrong" ["model", "stand", "step"] (sp_is_wrong K t.BadModel))
    (D_next_stand : Def P w K mg base 3 "next_stand" ["model", "stand", "step"] (sp_next_stand K t.BadModel)) : Def P w K mg base 4 "walk_of" ["model", "steps"] (sp_walk_of K t.BadModel) := by
  refine F.def sc_walk_of (fun _ _ _ _ _ _ us hl => match us, hl with | [_, _], _ => rfl) (fun vs H Q E h => ?_) (fun f cdv A outer s H vs Q E hr h => ?_)
  · obtain ⟨a, l, x, y, z, rfl, _⟩ := h
    rfl
  · obtain ⟨a, l, x, y, z, rfl, ha, hs, q1, q2⟩ := h
    refine ⟨_, pss_cons (ps_set (i := 2) sc_walk_of.nd rfl (Or.inl rfl) (pe_def (D_first_stand.mono (by decide)) hr (pass1 cx1_body) (pa_cons (pv 0) pa_nil)))
      (pss_cons (ps_set (i := 3) sc_walk_of.nd rfl (Or.inl rfl) (pe_lst pa_nil))
      (pss_cons (PS.nox (ps_for PassesOwn.never rfl (pi_enumerateK K (by rfl) T.n_enumerate (pa_cons (pv 1) pa_nil)) (pg_twoK K (i := 4) (j := 5) rfl sc_walk_of.nd rfl rfl (Or.inl rfl) (Or.inl rfl))
        (pss_cons (ps_if (pt_cmpR (op_notInP K (hu16 hr)) (pv 5) (pe_def (D_steps_from.mono (by decide)) hr passN (pa_cons (pv 0) (pa_cons (pv 2) pa_nil))) (by rfl))
          (pss_one (ps_ret pe_non))
          (pss_nil))
        (pss_cons (ps_expr (pe_bmK K PySem.F.plainAttrs_list PySem.F.slot_list_append PySem.F.type_list_append mt_append (pv 3) (pa_cons (pv 2) pa_nil)))
        (pss_cons (ps_if (pt_val (pe_def (D_is_wrong.mono (by decide)) hr passN (pa_cons (pv 0) (pa_cons (pv 2) (pa_cons (pv 5) pa_nil)))))
          (pss_one (ps_ret (pe_ifExp (pt_cmpR op_eq (pv 4) (pe_op op_sub (pe_callB (call_lenK K) (by rfl) T.n_len boot_len (pa_cons (pv 1) pa_nil)) pe_int) (nomark _)) (pv 3) pe_non)))
          (pss_nil))
        (pss_one (ps_set (i := 2) sc_walk_of.nd rfl (Or.inl rfl) (pe_def (D_next_stand.mono (by decide)) hr passN (pa_cons (pv 0) (pa_cons (pv 2) (pa_cons (pv 5) pa_nil)))))))))))
      (pss_one (ps_ret (pv 3))))), ?_⟩
    have hsz : (1000001 : Nat) ≤ sizeLine := by decide
    refine ⟨_, rfl, a, x, y, z, rfl, ha, hs, fun g sa H1 s1 h1 => ?_, fun g => q2 g⟩
    obtain ⟨ps, hps, hpl, q⟩ := q1 g
    have gM := good_of g
    have gF : GoodS ⟨x, y, z.toNat⟩ (firstS z.toNat) := goodS_first (M := ⟨x, y, z.toNat⟩)
    generalize hM : (⟨x, y, z.toNat⟩ : Md) = M at *
    generalize hR : walkF M (firstS z.toNat) ps = R at *
    refine ⟨by show 0 ≤ sizeLine; decide, fun L hL => ?_⟩
    have s2 : Same H1 (upd H1 L (.lst [])) := (Same.refl _).new hL
    have s02 := s1.trans s2
    have nL : H L = none := s1.free hL
    obtain ⟨tps, g1, g2⟩ := id hps
    refine ⟨_, rfl, l, _, rfl, s02 _ _ g1, for_enum (K := K) (a := l) (xs := tabR ps.length tps) (fun i σ H2 => ∃ (sa : Addr) (s : Std) (acc : List Std) (v4 v5 : Option V), σ = [some (.ref a), some (.ref l), some (.ref sa), some (.ref L), v4, v5] ∧ Same H H2 ∧ IsStd K H2 sa s ∧ GoodS M s ∧ IsStds K H2 L acc ∧ acc.length = i ∧ R = (walkF M s (ps.drop i)).map (acc ++ ·))
      ⟨sa, _, [], none, none, rfl, s02, h1.same s2, gF, ⟨fun _ => 0, upd_same, fun y s hq => by cases hq⟩, rfl, by rw [List.drop_zero, hR]; cases R <;> rfl⟩ (fun i σ H2 _ ⟨_, _, _, _, _, _, s2, _⟩ => SqL.of (s2 _ _ g1)) ?_ ?_⟩
    · rintro i v p σ H2 hi ⟨sa, s, acc, v4, v5, rfl, s2, hst, gst, hacc, hlen, hr'⟩ hp
      obtain ⟨hil, rfl⟩ := tab_of hi
      have e : ps[i]? = some ps[i] := by simp [hil]
      generalize ps[i] = qq at e
      refine take_two (SqT.of upd_same) ?_
      have s3 : Same H2 (upd H2 p (.tup [.int (i : Nat), .ref (tps i)])) := (Same.refl _).new hp
      have s03 := s2.trans s3
      have hst := hst.same s3
      have hacc := hacc.same s3
      generalize upd H2 p (.tup [.int (i : Nat), .ref (tps i)]) = H3 at *
      obtain ⟨u, v⟩ := qq
      rw [drop_at e, walkF] at hr'
      have hq3 := s03 _ _ (g2 i _ e)
      refine ⟨_, rfl, _, rfl, _, rfl, a, sa, x, y, z, rfl, s03.tup ha, hs, fun _ => ⟨s, hst, by rw [hM]; exact gst, fun r4 H4 s4 n4 h4 => ?_⟩, fun g' => absurd g g'⟩
      rw [hM] at h4
      obtain ⟨tps4, k1, k2⟩ := h4
      refine ⟨tps i, r4, [some u, some v], (stepsOf M s).length, tps4, fun j => (match (stepsOf M s)[j]? with | some p => [some p.1, some p.2] | none => []), rfl, rfl, SqT.of (s4 _ _ hq3), SqL.of k1, fun j hj => ?_, _, rfl, ?_⟩
      · have ej : (stepsOf M s)[j]? = some (stepsOf M s)[j] := by simp [hj]
        have := k2 j _ ej
        dsimp only
        rw [ej]
        exact SqT.of this
      rw [show (if true = true then !((List.range (stepsOf M s).length).any fun j => decide ((match (stepsOf M s)[j]? with | some p => [some p.1, some p.2] | none => []) = [some u, some v])) else (List.range (stepsOf M s).length).any fun j => decide ((match (stepsOf M s)[j]? with | some p => [some p.1, some p.2] | none => []) = [some u, some v])) = !mayB M s (u, v) by
        rw [if_pos rfl, mem_any (stepsOf M s) (u, v)]
        congr 1
        rw [Bool.eq_iff_iff, may_mem, decide_eq_true_eq]]
      by_cases hm : mayB M s (u, v) = true
      · rw [hm]
        rw [if_pos hm] at hr'
        refine iteF ?_
        obtain ⟨ua, va, eq, hua, hva, _⟩ := steps_mem (may_mem.mp hm)
        have eu : u = (ua : Int) := congrArg Prod.fst eq
        have ev : v = (va : Int) := congrArg Prod.snd eq
        have s04 := s03.trans s4
        obtain ⟨sas, j1, j2⟩ := hacc.same s4
        have hst4 := hst.same s4
        refine ⟨_, rfl, .inl ⟨rfl, _, SqL.of j1⟩, _, rfl, L, _, _, rfl, rfl, j1, by rw [tab_len]; omega, ?_⟩
        have hacc5 := stds_add j1 j2 hst4
        have hst5 := hst4.updL (o := .lst (tabR acc.length sas ++ [V.ref sa])) j1
        have s05 : Same H (upd H4 L (.lst (tabR acc.length sas ++ [V.ref sa]))) := s04.put nL
        generalize upd H4 L (.lst (tabR acc.length sas ++ [V.ref sa])) = H5 at *
        have hq5 := s05 _ _ (g2 i _ e)
        refine ⟨_, rfl, _, rfl, _, rfl, a, sa, tps i, x, y, z, rfl, s05.tup ha, hs, fun _ => ⟨s, u, v, hst5, SqT.of hq5, by rw [gst.se, eu]; omega, by rw [gst.to, ev]; omega, ?_⟩, fun g' => absurd g g'⟩
        refine ⟨_, rfl, ?_⟩
        by_cases hw : wrongB s (u, v) = true
        · rw [hw]
          rw [if_pos hw] at hr'
          refine iteT ?_
          refine ⟨_, rfl, _, rfl, l, _, rfl, .inl (SqL.of (s05 _ _ g1)), _, _, rfl, rfl, rfl, _, rfl, ?_⟩
          rw [tab_len]
          by_cases hlast : i + 1 = ps.length
          · rw [if_pos (by rw [hlast]; exact List.drop_length)] at hr'
            refine iteY (by congr 1; omega) ?_
            exact ⟨_, rfl, q _ _ s05 (by rw [hr']; exact ⟨L, rfl, nL, hacc5⟩)⟩
          · rw [if_neg (fun z => by rw [List.drop_eq_nil_iff] at z; omega)] at hr'
            refine iteN (fun z => hlast (by have := V.int.inj z; omega)) ?_
            exact q _ _ s05 (by rw [hr']; rfl)
        · rw [Bool.not_eq_true] at hw
          rw [hw]
          rw [hw, if_neg (by decide), map_app] at hr'
          refine iteF ?_
          refine ⟨_, rfl, _, rfl, _, rfl, a, sa, tps i, x, y, z, rfl, s05.tup ha, hs, fun _ => ⟨s, u, v, hst5, by rw [hM]; exact gst, SqT.of hq5, fun r6 H6 s6 h6 => ?_⟩, fun g' => absurd g g'⟩
          rw [hM] at h6
          exact ⟨r6, _, acc ++ [s], _, _, rfl, s05.trans s6, h6, goodS_behind gM gst, hacc5.same s6, by rw [List.length_append, hlen]; rfl, hr'⟩
      · rw [if_neg hm] at hr'
        rw [Bool.not_eq_true] at hm
        rw [hm]
        refine iteT ?_
        exact q _ _ (s03.trans s4) (by rw [hr']; rfl)
    · rintro σ H2 ⟨sa, s, acc, v4, v5, rfl, s2, hst, gst, hacc, hlen, hr'⟩
      rw [tab_len, List.drop_length, walkF] at hr'
      refine ⟨_, rfl, q _ _ s2 ?_⟩
      rw [hr']
      exact ⟨L, rfl, nL, by show IsStds K H2 L (acc ++ []); rw [List.append_nil]; exact hacc⟩
end
end K24
namespace K24
open PySem L2 PyProof.Rows
section
variable {P : Program} {w : World} {K : PySem.W.Frag} {mg : Str → Option Value} {base : Heap} {t : Ad}
/-! _law_kinds, _law_asked, _law_refused -/
def kindL : List V := [.bl false, .bl false, .bl false, .bl false, .bl true, .bl false, .bl false, .bl false, .bl false, .bl false, .bl false, .bl false, .bl false, .bl false, .bl false]
def fourL (i : Nat) : List V := if i ≤ 4 then [] else [.int 4]
theorem kind_at : ∀ j : Nat, j < 15 → atI kindL (j : Int) = some (V.bl (decide (j = 4))) := by decide
def sp__law_kinds (t : Ad) : Addr → Sp := fun a vs H Q _ => vs = [.ref a] ∧ H a = some (.ext (ExcAt a t.BadModel)) ∧ ∀ p H', Same H H' → H' p = some (.lst [.int 4]) → Q (.ref p) H'
theorem sc__law_kinds : FnScope ["e", "found"] ["e"] (defScope s__law_kinds) := ⟨rfl, rfl, rfl, by decide +kernel, rfl, by decide +kernel, by decide +kernel⟩
theorem ok__law_kinds (F : Site K mg "_law_kinds" s__law_kinds) (T : Txt K mg t) : DefH P w K mg base 1 "_law_kinds" ["e"] (sp__law_kinds t) := by
  refine F.defH sc__law_kinds (fun _ _ _ _ _ _ us hl => match us, hl with | [_], _ => rfl) (fun a vs H Q E h => ?_) (fun f cdv A outer s H vs Q E a hh hr h => ?_)
  · obtain ⟨rfl, _⟩ := h
    rfl
  · obtain ⟨rfl, ha, q⟩ := h
    refine ⟨_, pss_cons (ps_set (i := 1) sc__law_kinds.nd rfl (Or.inr rfl) (pe_lst (pa_cons (pe_isi K T.n_isinstance (pa_cons (pv 0) (pa_cons (pe_glob (v := .ref t.BadSign) (by rfl) T.mBadSign rfl) pa_nil))) (pa_cons (pe_isi K T.n_isinstance (pa_cons (pv 0) (pa_cons (pe_glob (v := .ref t.BadCell) (by rfl) T.mBadCell rfl) pa_nil))) (pa_cons (pe_isi K T.n_isinstance (pa_cons (pv 0) (pa_cons (pe_glob (v := .ref t.BadMeasure) (by rfl) T.mBadMeasure rfl) pa_nil))) (pa_cons (pe_isi K T.n_isinstance (pa_cons (pv 0) (pa_cons (pe_glob (v := .ref t.BadFate) (by rfl) T.mBadFate rfl) pa_nil))) pa_nil))))))
      (pss_cons (ps_set (i := 1) sc__law_kinds.nd rfl (Or.inr rfl) (pe_op (op_catK K) (pv 1) (pe_lst (pa_cons (pe_isi K T.n_isinstance (pa_cons (pv 0) (pa_cons (pe_glob (v := .ref t.BadModel) (by rfl) T.mBadModel rfl) pa_nil))) (pa_cons (pe_isi K T.n_isinstance (pa_cons (pv 0) (pa_cons (pe_glob (v := .ref t.NoLink) (by rfl) T.mNoLink rfl) pa_nil))) (pa_cons (pe_isi K T.n_isinstance (pa_cons (pv 0) (pa_cons (pe_glob (v := .ref t.BadPiece) (by rfl) T.mBadPiece rfl) pa_nil))) (pa_cons (pe_isi K T.n_isinstance (pa_cons (pv 0) (pa_cons (pe_glob (v := .ref t.BadLetter) (by rfl) T.mBadLetter rfl) pa_nil))) pa_nil)))))))
      (pss_cons (ps_set (i := 1) sc__law_kinds.nd rfl (Or.inr rfl) (pe_op (op_catK K) (pv 1) (pe_lst (pa_cons (pe_isi K T.n_isinstance (pa_cons (pv 0) (pa_cons (pe_glob (v := .ref t.BadNews) (by rfl) T.mBadNews rfl) pa_nil))) (pa_cons (pe_isi K T.n_isinstance (pa_cons (pv 0) (pa_cons (pe_glob (v := .ref t.BadHouse) (by rfl) T.mBadHouse rfl) pa_nil))) (pa_cons (pe_isi K T.n_isinstance (pa_cons (pv 0) (pa_cons (pe_glob (v := .ref t.BadName) (by rfl) T.mBadName rfl) pa_nil))) (pa_cons (pe_isi K T.n_isinstance (pa_cons (pv 0) (pa_cons (pe_glob (v := .ref t.NoStream) (by rfl) T.mNoStream rfl) pa_nil))) pa_nil)))))))
      (pss_cons (ps_set (i := 1) sc__law_kinds.nd rfl (Or.inr rfl) (pe_op (op_catK K) (pv 1) (pe_lst (pa_cons (pe_isi K T.n_isinstance (pa_cons (pv 0) (pa_cons (pe_glob (v := .ref t.NoAsk) (by rfl) T.mNoAsk rfl) pa_nil))) (pa_cons (pe_isi K T.n_isinstance (pa_cons (pv 0) (pa_cons (pe_glob (v := .ref t.BadNet) (by rfl) T.mBadNet rfl) pa_nil))) (pa_cons (pe_isi K T.n_isinstance (pa_cons (pv 0) (pa_cons (pe_glob (v := .ref t.BadText) (by rfl) T.mBadText rfl) pa_nil))) pa_nil))))))
      (pss_cons (ps_if (pt_not (pt_val (pe_isi K T.n_isinstance (pa_cons (pv 0) (pa_cons (pe_bltn (v := .ty "ValueError") (by rfl) T.n_ValueError boot_ValueError rfl) pa_nil)))))
        (pss_one (ps_ret (pe_lst pa_nil)))
        (pss_nil))
      (pss_one (ps_ret (pe_lcH (ha := a) hh (Nc := ["k", "found"]) (ix := [none, some 1]) (cscope (defScope s__law_kinds) ["e", "found"] rfl rfl (by decide +kernel)) (pi_range1H (by rfl) T.n_range (pa_cons pe_int pa_nil)) (fun C fp s H => ⟨(pg_name (i := 0) (show (["k", "found"] : List Str).Nodup by decide +kernel) rfl (Or.inl rfl)), (pts_one (pt_val (pe_ix (ix_listK K) (pv 1) (pv 0) (fun _ _ => rfl)))), (pv 0)⟩)))))))), ?_⟩
    have hsz : (2000 : Nat) ≤ sizeLine := by decide
    refine ⟨_, rfl, _, _, _, _, false, rfl, rfl, .exc ha T.eBadModel, T.oneBadModel_BadSign, ?_⟩
    refine ⟨_, rfl, _, _, _, _, false, rfl, rfl, .exc ha T.eBadModel, T.oneBadModel_BadCell, ?_⟩
    refine ⟨_, rfl, _, _, _, _, false, rfl, rfl, .exc ha T.eBadModel, T.oneBadModel_BadMeasure, ?_⟩
    refine ⟨_, rfl, _, _, _, _, false, rfl, rfl, .exc ha T.eBadModel, T.oneBadModel_BadFate, ?_⟩
    refine ⟨by show 4 ≤ sizeLine; decide, fun p1 hp1 => ?_⟩
    have s1 := (Same.refl H).new (o := .lst [.bl false, .bl false, .bl false, .bl false]) hp1
    have e1 : (upd H p1 (.lst [.bl false, .bl false, .bl false, .bl false])) p1 = some (.lst [.bl false, .bl false, .bl false, .bl false]) := upd_same
    generalize upd H p1 (.lst [.bl false, .bl false, .bl false, .bl false]) = H1 at *
    have ha1 := s1 _ _ ha
    refine ⟨_, rfl, ?_⟩
    refine ⟨_, rfl, _, _, _, _, true, rfl, rfl, .exc ha1 T.eBadModel, T.oneBadModel_BadModel, ?_⟩
    refine ⟨_, rfl, _, _, _, _, false, rfl, rfl, .exc ha1 T.eBadModel, T.oneBadModel_NoLink, ?_⟩
    refine ⟨_, rfl, _, _, _, _, false, rfl, rfl, .exc ha1 T.eBadModel, T.oneBadModel_BadPiece, ?_⟩
    refine ⟨_, rfl, _, _, _, _, false, rfl, rfl, .exc ha1 T.eBadModel, T.oneBadModel_BadLetter, ?_⟩
    refine ⟨by show 4 ≤ sizeLine; decide, fun p2 hp2 => ?_⟩
    refine ⟨p1, p2, _, _, rfl, rfl, SqL.of (by rw [upd_ne (ne_of_none e1 hp2)]; exact e1), SqL.of upd_same, by show 8 ≤ sizeLine; decide, fun p3 hp3 => ?_⟩
    have s3 := ((Same.refl H1).new (o := .lst [.bl true, .bl false, .bl false, .bl false]) hp2).new (o := .lst ([.bl false, .bl false, .bl false, .bl false] ++ [.bl true, .bl false, .bl false, .bl false])) hp3
    have e3 : (upd (upd H1 p2 (.lst [.bl true, .bl false, .bl false, .bl false])) p3 (.lst ([.bl false, .bl false, .bl false, .bl false] ++ [.bl true, .bl false, .bl false, .bl false]))) p3 = some (.lst ([.bl false, .bl false, .bl false, .bl false] ++ [.bl true, .bl false, .bl false, .bl false])) := upd_same
    generalize upd (upd H1 p2 (.lst [.bl true, .bl false, .bl false, .bl false])) p3 (.lst ([.bl false, .bl false, .bl false, .bl false] ++ [.bl true, .bl false, .bl false, .bl false])) = H3 at *
    have ha3 := s3 _ _ ha1
    refine ⟨_, rfl, ?_⟩
    refine ⟨_, rfl, _, _, _, _, false, rfl, rfl, .exc ha3 T.eBadModel, T.oneBadModel_BadNews, ?_⟩
    refine ⟨_, rfl, _, _, _, _, false, rfl, rfl, .exc ha3 T.eBadModel, T.oneBadModel_BadHouse, ?_⟩
    refine ⟨_, rfl, _, _, _, _, false, rfl, rfl, .exc ha3 T.eBadModel, T.oneBadModel_BadName, ?_⟩
    refine ⟨_, rfl, _, _, _, _, false, rfl, rfl, .exc ha3 T.eBadModel, T.oneBadModel_NoStream, ?_⟩
    refine ⟨by show 4 ≤ sizeLine; decide, fun p4 hp4 => ?_⟩
    refine ⟨p3, p4, _, _, rfl, rfl, SqL.of (by rw [upd_ne (ne_of_none e3 hp4)]; exact e3), SqL.of upd_same, by show 12 ≤ sizeLine; decide, fun p5 hp5 => ?_⟩
    have s5 := ((Same.refl H3).new (o := .lst [.bl false, .bl false, .bl false, .bl false]) hp4).new (o := .lst (([.bl false, .bl false, .bl false, .bl false] ++ [.bl true, .bl false, .bl false, .bl false]) ++ [.bl false, .bl false, .bl false, .bl false])) hp5
    have e5 : (upd (upd H3 p4 (.lst [.bl false, .bl false, .bl false, .bl false])) p5 (.lst (([.bl false, .bl false, .bl false, .bl false] ++ [.bl true, .bl false, .bl false, .bl false]) ++ [.bl false, .bl false, .bl false, .bl false]))) p5 = some (.lst (([.bl false, .bl false, .bl false, .bl false] ++ [.bl true, .bl false, .bl false, .bl false]) ++ [.bl false, .bl false, .bl false, .bl false])) := upd_same
    generalize upd (upd H3 p4 (.lst [.bl false, .bl false, .bl false, .bl false])) p5 (.lst (([.bl false, .bl false, .bl false, .bl false] ++ [.bl true, .bl false, .bl false, .bl false]) ++ [.bl false, .bl false, .bl false, .bl false])) = H5 at *
    have ha5 := s5 _ _ ha3
    refine ⟨_, rfl, ?_⟩
    refine ⟨_, rfl, _, _, _, _, false, rfl, rfl, .exc ha5 T.eBadModel, T.oneBadModel_NoAsk, ?_⟩
    refine ⟨_, rfl, _, _, _, _, false, rfl, rfl, .exc ha5 T.eBadModel, T.oneBadModel_BadNet, ?_⟩
    refine ⟨_, rfl, _, _, _, _, false, rfl, rfl, .exc ha5 T.eBadModel, T.oneBadModel_BadText, ?_⟩
    refine ⟨by show 3 ≤ sizeLine; decide, fun p6 hp6 => ?_⟩
    refine ⟨p5, p6, _, _, rfl, rfl, SqL.of (by rw [upd_ne (ne_of_none e5 hp6)]; exact e5), SqL.of upd_same, by show 15 ≤ sizeLine; decide, fun p7 hp7 => ?_⟩
    have s7 := ((Same.refl H5).new (o := .lst [.bl false, .bl false, .bl false]) hp6).new (o := .lst kindL) hp7
    have e7 : (upd (upd H5 p6 (.lst [.bl false, .bl false, .bl false])) p7 (.lst kindL)) p7 = some (.lst kindL) := upd_same
    change _
    have fin : ∀ H7, H7 = upd (upd H5 p6 (.lst [.bl false, .bl false, .bl false])) p7 (.lst kindL) → H7 = upd (upd H5 p6 (.lst [.bl false, .bl false, .bl false])) p7 (.lst kindL) := fun _ h => h
    generalize hH7 : upd (upd H5 p6 (.lst [.bl false, .bl false, .bl false])) p7 (.lst ((([.bl false, .bl false, .bl false, .bl false] ++ [.bl true, .bl false, .bl false, .bl false]) ++ [.bl false, .bl false, .bl false, .bl false]) ++ [.bl false, .bl false, .bl false])) = H7
    have hH7' : upd (upd H5 p6 (.lst [.bl false, .bl false, .bl false])) p7 (.lst kindL) = H7 := hH7
    rw [hH7'] at s7 e7
    have ha7 := s7 _ _ ha5
    have s07 := ((s1.trans s3).trans s5).trans s7
    refine ⟨_, rfl, _, _, _, _, true, rfl, rfl, .exc ha7 T.eBadModel, T.oneBadModel_ValueError, true, rfl, iteF ?_⟩
    refine ⟨15, rfl, by decide, by decide, fun D hD => ?_⟩
    refine lc_rangeH (ha := a) (lo := 0) (n := 15) (fun i σ H' => (∃ v : Option V, σ = [v, some (.ref p7)]) ∧ Same H7 H' ∧ H' D = some (.lst (fourL i))) ⟨⟨none, rfl⟩, (Same.refl _).new hD, upd_same⟩ ?_ (fun σ H' ⟨_, s8, _⟩ => ⟨_, s8 _ _ ha7⟩) ?_
    · rintro i σ H' N hN hi ⟨⟨v, rfl⟩, s8, h8⟩
      rw [show (0 : Int) + (i : Nat) = (i : Int) by omega]
      refine turn_if ?_
      refine ⟨_, rfl, _, rfl, p7, _, _, _, rfl, rfl, SqL.of (s8 _ _ e7), kind_at i hi, _, rfl, ?_⟩
      by_cases h4 : i = 4
      · subst h4
        refine iteY rfl ?_
        exact ⟨_, rfl, _, h8, by show 0 < sizeLine; decide, hN _ _ ⟨⟨_, rfl⟩, s8.put hD, upd_same⟩⟩
      · refine iteN h4 ?_
        refine hN _ _ ⟨⟨_, rfl⟩, s8, ?_⟩
        rw [h8]
        unfold fourL
        by_cases h5 : i ≤ 4
        · rw [if_pos h5, if_pos (by omega)]
        · rw [if_neg h5, if_neg (by omega)]
    · rintro σ H' ⟨⟨v, rfl⟩, s8, h8⟩
      exact q D H' (s07.trans s8) h8
end
end K24
namespace K24
open PySem L2 PyProof.Rows
section
variable {P : Program} {w : World} {K : PySem.W.Frag} {mg : Str → Option Value} {base : Heap} {t : Ad}
/-! _law_asked, _law_refused -/
def Asked (K : PySem.W.Frag) (ok : Addr → Prop) (H : Hp) (M : Md) (n : Int) (v : V) : Prop :=
  (n = 0 ∧ ∃ r, v = .ref r ∧ IsStd K H r (firstS M.la)) ∨ (n = 1 ∧ ∃ r, v = .ref r ∧ ok r ∧ IsSteps K H r (stepsOf M (firstS M.la))) ∨ (n = 2 ∧ v = .bl false) ∨ (n = 3 ∧ ∃ r, v = .ref r ∧ IsStd K H r (behindS M (firstS M.la) (0, 0))) ∨ (n = 4 ∧ v = .bl false) ∨ (n = 5 ∧ ∃ r, v = .ref r ∧ ok r ∧ IsStds K H r [firstS M.la])
def sp__law_asked (K : PySem.W.Frag) (C : Addr) : Sp := fun vs H Q E => ∃ (n : Int) (a b : Addr) (x y z : Int) (s : Std), vs = [.int n, .ref a, .ref b] ∧ SqT K H a [.int x, .int y, .int z] ∧ Small3 x y z ∧ IsStd K H b s ∧
  ((¬ GoodT x y z ∧ ∀ H', Same H H' → E (.ref C) none H') ∨ (GoodT x y z ∧ s = firstS z.toNat ∧ 0 ≤ n ∧ n ≤ 5 ∧ ∀ v H', Same H H' → Asked K (fun r => H r = none) H' ⟨x, y, z.toNat⟩ n v → Q v H'))
theorem fence_one (M : Md) (g : GoodMd M) : fenceB M [firstS M.la] = false := by
  unfold fenceB
  rw [Bool.and_eq_false_iff]
  right
  rw [List.all_cons, List.all_nil, Bool.and_true]
  unfold keepsB
  rw [List.all_eq_false]
  obtain ⟨t, ht⟩ := steps_zero M (firstS M.la)
  refine ⟨(0, 0), by rw [ht]; exact List.mem_cons_self, ?_⟩
  have : ¬ behindS M (firstS M.la) (0, 0) ∈ dedupS [firstS M.la] := fun z => by
    have z := List.mem_singleton.mp (dedup_mem.mp z)
    have z2 := congrArg (fun s => s.to.head?) z
    have l0 := g.l0
    have e : (firstS M.la).to.head? = some none := by
      show (List.replicate M.la (none : Option Int)).head? = some none
      cases hla : M.la with
      | zero => omega
      | succ k => rfl
    rw [e] at z2
    cases z2
  rw [decide_eq_false this, Bool.and_false]
  decide
theorem walk_one (M : Md) : walkF M (firstS M.la) [(0, 0)] = some [firstS M.la] := by
  obtain ⟨t, ht⟩ := steps_zero M (firstS M.la)
  have hm : mayB M (firstS M.la) (0, 0) = true := may_mem.mpr (by rw [ht]; exact List.mem_cons_self)
  unfold walkF
  rw [if_pos hm, if_neg (by rw [wrong_zero]; decide)]
  rfl
theorem sc__law_asked : FnScope ["which", "model", "stand"] ["which", "model", "stand"] (defScope s__law_asked) := ⟨rfl, rfl, rfl, by decide +kernel, rfl, by decide +kernel, by decide +kernel⟩
theorem ok__law_asked (F : Site K mg "_law_asked" s__law_asked) (T : Txt K mg t) (D_first_stand : Def P w K mg base 3 "first_stand" ["model"] (sp_first_stand K t.BadModel)) (D_steps_from : Def P w K mg base 3 "steps_from" ["model", "stand"] (sp_steps_from K t.BadModel)) (D_is_wrong : Def P w K mg base 3 "is_wrong" ["model", "stand", "step"] (sp_is_wrong K t.BadModel))
    (D_next_stand : Def P w K mg base 3 "next_stand" ["model", "stand", "step"] (sp_next_stand K t.BadModel)) (D_fence_stands : Def P w K mg base 5 "fence_stands" ["model", "stands"] (sp_fence_stands K t.BadModel)) (D_walk_of : Def P w K mg base 4 "walk_of" ["model", "steps"] (sp_walk_of K t.BadModel)) (D_shown : Def P w K mg base 4 "shown" ["model"] (sp_shown K t.BadModel)) : Def P w K mg base 6 "_law_asked" ["which", "model", "stand"] (sp__law_asked K t.BadModel) := by
  refine F.def sc__law_asked (fun _ _ _ _ _ _ us hl => match us, hl with | [_, _, _], _ => rfl) (fun vs H Q E h => ?_) (fun f cdv A outer s H vs Q E hr h => ?_)
  · obtain ⟨n, a, b, x, y, z, s, rfl, _⟩ := h
    rfl
  · obtain ⟨n, a, b, x, y, z, s, rfl, ha, hsm, hb, hq⟩ := h
    refine ⟨_, pss_cons (ps_if (pt_cmpR op_eq (pv 0) pe_int (nomark _))
        (pss_one (ps_ret (pe_def (D_first_stand.mono (by decide)) hr (pass1 cx1_body) (pa_cons (pv 1) pa_nil))))
        (pss_nil))
      (pss_cons (ps_if (pt_cmpR op_eq (pv 0) pe_int (nomark _))
        (pss_one (ps_ret (pe_def (D_steps_from.mono (by decide)) hr (pass1 cx1_body) (pa_cons (pv 1) (pa_cons (pv 2) pa_nil)))))
        (pss_nil))
      (pss_cons (ps_if (pt_cmpR op_eq (pv 0) pe_int (nomark _))
        (pss_one (ps_ret (pe_def (D_is_wrong.mono (by decide)) hr (pass1 cx1_body) (pa_cons (pv 1) (pa_cons (pv 2) (pa_cons (pe_tup (pa_cons pe_int (pa_cons pe_int pa_nil))) pa_nil))))))
        (pss_nil))
      (pss_cons (ps_if (pt_cmpR op_eq (pv 0) pe_int (nomark _))
        (pss_one (ps_ret (pe_def (D_next_stand.mono (by decide)) hr (pass1 cx1_body) (pa_cons (pv 1) (pa_cons (pv 2) (pa_cons (pe_tup (pa_cons pe_int (pa_cons pe_int pa_nil))) pa_nil))))))
        (pss_nil))
      (pss_cons (ps_if (pt_cmpR op_eq (pv 0) pe_int (nomark _))
        (pss_one (ps_ret (pe_def (D_fence_stands.mono (by decide)) hr (pass1 cx1_body) (pa_cons (pv 1) (pa_cons (pe_lst (pa_cons (pv 2) pa_nil)) pa_nil)))))
        (pss_nil))
      (pss_cons (ps_if (pt_cmpR op_eq (pv 0) pe_int (nomark _))
        (pss_one (ps_ret (pe_def (D_walk_of.mono (by decide)) hr (pass1 cx1_body) (pa_cons (pv 1) (pa_cons (pe_lst (pa_cons (pe_tup (pa_cons pe_int (pa_cons pe_int pa_nil))) pa_nil)) pa_nil)))))
        (pss_nil))
      (pss_one (ps_ret (pe_def (D_shown.mono (by decide)) hr (pass1 cx1_body) (pa_cons (pv 1) pa_nil))))))))), ?_⟩
    have zz : ∀ {H1 : Hp}, Same H H1 → ∀ {g : ¬ GoodT x y z}, E (.ref t.BadModel) none H1 := fun {H1} s1 {g} => by
      rcases hq with ⟨_, e⟩ | ⟨g', _⟩
      · exact e _ s1
      · exact absurd g' g
    have good : GoodT x y z → s = firstS z.toNat ∧ 0 ≤ n ∧ n ≤ 5 ∧ ∀ v H', Same H H' → Asked K (fun r => H r = none) H' ⟨x, y, z.toNat⟩ n v → Q v H' := fun g => by
      rcases hq with ⟨g', _⟩ | ⟨_, h⟩
      · exact absurd g g'
      · exact h
    refine ⟨_, rfl, rfl, _, rfl, ?_⟩
    by_cases w0 : n = 0
    · refine iteY (by rw [w0]) ?_
      exact ⟨_, rfl, a, x, y, z, rfl, ha, hsm, fun g r H1 s1 h1 => (good g).2.2.2 _ _ s1 (.inl ⟨w0, r, rfl, h1⟩), fun g => zz (Same.refl _) (g := g)⟩
    refine iteN (fun e => w0 (V.int.inj e)) ?_
    refine ⟨_, rfl, rfl, _, rfl, ?_⟩
    by_cases w1 : n = 1
    · refine iteY (by rw [w1]) ?_
      refine ⟨_, rfl, _, rfl, a, b, x, y, z, rfl, ha, hsm, fun g => ?_, fun g => zz (Same.refl _) (g := g)⟩
      obtain ⟨rfl, _, _, q⟩ := good g
      exact ⟨_, hb, goodS_first (M := ⟨x, y, z.toNat⟩), fun r H1 s1 n1 h1 => q _ _ s1 (.inr (.inl ⟨w1, r, rfl, n1, h1⟩))⟩
    refine iteN (fun e => w1 (V.int.inj e)) ?_
    refine ⟨_, rfl, rfl, _, rfl, ?_⟩
    by_cases w2 : n = 2
    · refine iteY (by rw [w2]) ?_
      refine ⟨_, rfl, _, rfl, by show 2 ≤ sizeLine; decide, fun p hp => ?_⟩
      have s1 : Same H (upd H p (.tup [.int 0, .int 0])) := (Same.refl _).new hp
      refine ⟨a, b, p, x, y, z, rfl, s1.tup ha, hsm, fun g => ?_, fun g => zz s1 (g := g)⟩
      obtain ⟨rfl, _, _, q⟩ := good g
      exact ⟨_, 0, 0, hb.same s1, SqT.of upd_same, by omega, by omega, q _ _ s1 (.inr (.inr (.inl ⟨w2, rfl⟩)))⟩
    refine iteN (fun e => w2 (V.int.inj e)) ?_
    refine ⟨_, rfl, rfl, _, rfl, ?_⟩
    by_cases w3 : n = 3
    · refine iteY (by rw [w3]) ?_
      refine ⟨_, rfl, _, rfl, by show 2 ≤ sizeLine; decide, fun p hp => ?_⟩
      have s1 : Same H (upd H p (.tup [.int 0, .int 0])) := (Same.refl _).new hp
      refine ⟨a, b, p, x, y, z, rfl, s1.tup ha, hsm, fun g => ?_, fun g => zz s1 (g := g)⟩
      obtain ⟨rfl, _, _, q⟩ := good g
      exact ⟨_, 0, 0, hb.same s1, goodS_first (M := ⟨x, y, z.toNat⟩), SqT.of upd_same, fun r H2 s2 h2 => q _ _ (s1.trans s2) (.inr (.inr (.inr (.inl ⟨w3, r, rfl, h2⟩))))⟩
    refine iteN (fun e => w3 (V.int.inj e)) ?_
    refine ⟨_, rfl, rfl, _, rfl, ?_⟩
    by_cases w4 : n = 4
    · refine iteY (by rw [w4]) ?_
      refine ⟨_, rfl, _, rfl, by show 1 ≤ sizeLine; decide, fun p hp => ?_⟩
      have s1 : Same H (upd H p (.lst [.ref b])) := (Same.refl _).new hp
      refine ⟨a, p, x, y, z, rfl, s1.tup ha, hsm, fun g => ?_, fun g => zz s1 (g := g)⟩
      obtain ⟨rfl, _, _, q⟩ := good g
      refine ⟨[firstS z.toNat], ⟨fun _ => b, upd_same, fun y s hs => ?_⟩, fun s hs => ?_, by show 1 ≤ 1000000; decide, fun H2 s2 => ?_⟩
      · cases y with
        | zero => cases hs; exact hb.same s1
        | succ y => cases hs
      · rw [List.mem_singleton.mp hs]; exact goodS_first (M := ⟨x, y, z.toNat⟩)
      · rw [fence_one ⟨x, y, z.toNat⟩ (good_of g)]
        exact q _ _ (s1.trans s2) (.inr (.inr (.inr (.inr (.inl ⟨w4, rfl⟩)))))
    refine iteN (fun e => w4 (V.int.inj e)) ?_
    refine ⟨_, rfl, rfl, _, rfl, ?_⟩
    by_cases w5 : n = 5
    · refine iteY (by rw [w5]) ?_
      refine ⟨_, rfl, by show 2 ≤ sizeLine; decide, fun p hp => ?_⟩
      refine ⟨by show 1 ≤ sizeLine; decide, fun l hl => ?_⟩
      have s1 : Same H (upd H p (.tup [.int 0, .int 0])) := (Same.refl _).new hp
      have s2 : Same H (upd (upd H p (.tup [.int 0, .int 0])) l (.lst [.ref p])) := s1.new hl
      refine ⟨a, l, x, y, z, rfl, s2.tup ha, hsm, fun g => ?_, fun g => zz s2 (g := g)⟩
      obtain ⟨rfl, _, _, q⟩ := good g
      refine ⟨[(0, 0)], ⟨fun _ => p, upd_same, fun y q hq => ?_⟩, by decide, fun v H3 s3 h3 => ?_⟩
      · cases y with
        | zero => cases hq; rw [upd_ne (fun e => by rw [← e, upd_same] at hl; cases hl)]; exact upd_same
        | succ y => cases hq
      · rw [walk_one ⟨x, y, z.toNat⟩] at h3
        obtain ⟨r, rfl, nr, hr⟩ := h3
        exact q _ _ (s2.trans s3) (.inr (.inr (.inr (.inr (.inr ⟨w5, r, rfl, s2.free nr, hr⟩)))))
    refine iteN (fun e => w5 (V.int.inj e)) ?_
    refine ⟨_, rfl, a, x, y, z, rfl, ha, hsm, fun g => ?_, fun g => zz (Same.refl _) (g := g)⟩
    obtain ⟨_, h0, h5, _⟩ := good g
    omega
def sp__law_refused (K : PySem.W.Frag) : Sp := fun vs H Q _ => ∃ (n : Int) (a b : Addr) (x y z : Int) (s : Std), vs = [.int n, .ref a, .ref b] ∧ SqT K H a [.int x, .int y, .int z] ∧ Small3 x y z ∧ IsStd K H b s ∧ ¬ GoodT x y z ∧ ∀ H', Same H H' → Q (.bl true) H'
theorem sc__law_refused : FnScope ["which", "model", "stand", "found", "e"] ["which", "model", "stand"] (defScope s__law_refused) := ⟨rfl, rfl, rfl, by decide +kernel, rfl, by decide +kernel, by decide +kernel⟩
theorem ok__law_refused (F : Site K mg "_law_refused" s__law_refused) (T : Txt K mg t) (D__law_asked : Def P w K mg base 6 "_law_asked" ["which", "model", "stand"] (sp__law_asked K t.BadModel)) (D__law_kinds : DefH P w K mg base 1 "_law_kinds" ["e"] (sp__law_kinds t)) : Def P w K mg base 7 "_law_refused" ["which", "model", "stand"] (sp__law_refused K) := by
  refine F.def sc__law_refused (fun _ _ _ _ _ _ us hl => match us, hl with | [_, _, _], _ => rfl) (fun vs H Q E h => ?_) (fun f cdv A outer s H vs Q E hr h => ?_)
  · obtain ⟨n, a, b, x, y, z, s, rfl, _⟩ := h
    rfl
  · obtain ⟨n, a, b, x, y, z, s, rfl, ha, hsm, hb, hn, q⟩ := h
    refine ⟨_, pss_cons (ps_set (i := 3) sc__law_refused.nd rfl (Or.inl rfl) pe_non)
      (pss_cons (ps_tryH (E := fun c _ H' => c = .ref t.BadModel ∧ Same H H') (i := 4) rfl rfl sc__law_refused.nd rfl rfl rfl T.mPostError T.catchPostError
        (fun pins => pss_one (ps_expr (pe_def (D__law_asked.mono (by decide)) hr passTry (pa_cons (pv 0) (pa_cons (pv 1) (pa_cons (pv 2) pa_nil))))))
        (fun a => pss_one (ps_set (i := 3) sc__law_refused.nd rfl (Or.inl rfl) (pe_defH (ha := a) D__law_kinds rfl (hr.toH (by decide) _) passN (pa_cons (pv 4) pa_nil)))))
      (pss_one (ps_ret (pe_cmpR (op_eqLK K (hu16 hr)) (pv 3) (pe_lst (pa_cons pe_int pa_nil)) (nomark _))))), ?_⟩
    refine ⟨?_, ?_⟩
    · exact ⟨_, rfl, _, rfl, _, rfl, n, a, b, x, y, z, s, rfl, ha, hsm, hb, .inl ⟨hn, fun H' s1 => ⟨rfl, s1⟩⟩⟩
    · rintro σ' e Cx' H' hl' ⟨hc, s1⟩ hne
      cases hc
      obtain ⟨v0, v1, v2, v3, v4, rfl⟩ : ∃ v0 v1 v2 v3 v4, σ' = [v0, v1, v2, v3, v4] := by
        match σ', hl' with
        | [v0, v1, v2, v3, v4], _ => exact ⟨v0, v1, v2, v3, v4, rfl⟩
      refine ⟨T.subBadModel_PostError, ?_⟩
      have he : (upd H' e (.ext (ExcAt e t.BadModel))) e = some (.ext (ExcAt e t.BadModel)) := upd_same
      have sA : Same H (upd H' e (.ext (ExcAt e t.BadModel))) := s1.new hne
      generalize upd H' e (.ext (ExcAt e t.BadModel)) = H2 at *
      refine ⟨_, rfl, rfl, he, fun p H3 s3 h3 => ?_⟩
      refine ⟨_, rfl, by show 1 ≤ sizeLine; decide, fun p4 hp4 => ?_⟩
      have s4 := (Same.refl H3).new (o := .lst [.int 4]) hp4
      refine ⟨p, p4, _, _, rfl, rfl, SqL.of (s4 _ _ h3), SqL.of upd_same, .inl ⟨rfl, ?_, ?_⟩⟩
      · intro j u v h1 h2
        rw [h1] at h2
        cases h2
        cases j with
        | zero => cases h1; exact .int 4
        | succ j => cases h1
      · exact q _ ((sA.trans s3).trans s4)
end
end K24
namespace K24
open PySem L2 PyProof.Rows
section
variable {P : Program} {w : World} {K : PySem.W.Frag} {mg : Str → Option Value} {base : Heap} {t : Ad}
/-! _law_off, _law_edge, _law_edge_good -/
def Lg (p : Addr) (H H' : Hp) : Prop := (∀ b o, b ≠ p → H b = some o → H' b = some o) ∧ ∃ r m k : Int, H' p = some (.lst [.int r, .int m, .int k])
theorem Lg.next {p : Addr} {H H' : Hp} {r m k : Int} (h : Lg p H H') : Lg p H (upd H' p (.lst [.int r, .int m, .int k])) := ⟨fun b o n e => by rw [upd_ne n]; exact h.1 b o n e, _, _, _, upd_same⟩
theorem Lg.new {p a : Addr} {H H' : Hp} {o : HO} (h : Lg p H H') (ha : H' a = none) : Lg p H (upd H' a o) ∧ (upd H' a o) a = some o ∧ a ≠ p := by
  obtain ⟨h1, r, m, k, h2⟩ := h
  have ne : a ≠ p := fun z => by rw [z, h2] at ha; cases ha
  exact ⟨⟨fun b u n e => by rw [upd_ne (fun z => by rw [← z, h1 b u n e] at ha; cases ha)]; exact h1 b u n e, r, m, k, by rw [upd_ne (Ne.symm ne)]; exact h2⟩, upd_same, ne⟩
theorem Lg.keep {p a : Addr} {H' : Hp} {o o' : HO} (h : H' a = some o) (n : a ≠ p) : (upd H' p o') a = some o := by rw [upd_ne n]; exact h
theorem keep_new {a b : Addr} {H' : Hp} {o o' : HO} (h : H' a = some o) (hb : H' b = none) : (upd H' b o') a = some o := by rw [upd_ne (fun z => by rw [z, hb] at h; cases h)]; exact h
theorem pick3 {x y z d : Int} (h0 : 0 ≤ d) (h1 : d < 3) : ∃ v, atI [V.int x, V.int y, V.int z] d = some (.int v) ∧ (d = 0 ∧ v = x ∨ d = 1 ∧ v = y ∨ d = 2 ∧ v = z) := by
  have h : d = 0 ∨ d = 1 ∨ d = 2 := by omega
  rcases h with rfl | rfl | rfl
  · exact ⟨x, rfl, .inl ⟨rfl, rfl⟩⟩
  · exact ⟨y, rfl, .inr (.inl ⟨rfl, rfl⟩)⟩
  · exact ⟨z, rfl, .inr (.inr ⟨rfl, rfl⟩)⟩
theorem pick5 {a b c e f d : Int} (h0 : 0 ≤ d) (h1 : d < 5) : ∃ v, atI [V.int a, V.int b, V.int c, V.int e, V.int f] d = some (.int v) ∧ (v = a ∨ v = b ∨ v = c ∨ v = e ∨ v = f) := by
  have h : d = 0 ∨ d = 1 ∨ d = 2 ∨ d = 3 ∨ d = 4 := by omega
  rcases h with rfl | rfl | rfl | rfl | rfl
  · exact ⟨a, rfl, .inl rfl⟩
  · exact ⟨b, rfl, .inr (.inl rfl)⟩
  · exact ⟨c, rfl, .inr (.inr (.inl rfl))⟩
  · exact ⟨e, rfl, .inr (.inr (.inr (.inl rfl)))⟩
  · exact ⟨f, rfl, .inr (.inr (.inr (.inr rfl)))⟩
theorem set3 {x y z v d : Int} (h0 : 0 ≤ d) (h1 : d < 3) : ∃ (i : Nat) (x' y' z' : Int), ixN [V.int x, V.int y, V.int z].length d = some i ∧ [V.int x, V.int y, V.int z].set i (.int v) = [.int x', .int y', .int z'] ∧ (d = 0 ∧ x' = v ∧ y' = y ∧ z' = z ∨ d = 1 ∧ x' = x ∧ y' = v ∧ z' = z ∨ d = 2 ∧ x' = x ∧ y' = y ∧ z' = v) := by
  have h : d = 0 ∨ d = 1 ∨ d = 2 := by omega
  rcases h with rfl | rfl | rfl
  · exact ⟨0, v, y, z, rfl, rfl, .inl ⟨rfl, rfl, rfl, rfl⟩⟩
  · exact ⟨1, x, v, z, rfl, rfl, .inr (.inl ⟨rfl, rfl, rfl, rfl⟩)⟩
  · exact ⟨2, x, y, v, rfl, rfl, .inr (.inr ⟨rfl, rfl, rfl, rfl⟩)⟩
theorem small_of {x : Int} (h : -2000000000000000000000000000000000 ≤ x) (h' : x ≤ 2000000000000000000000000000000000) : x.natAbs < 2 ^ 1000 := Nat.lt_of_le_of_lt (show x.natAbs ≤ 2000000000000000000000000000000000 by omega) (by decide)
def sp__law_off (K : PySem.W.Frag) : Sp := fun vs H Q _ => ∃ p : Addr, vs = [.ref p] ∧ Lg p H H ∧ ∀ (a : Addr) (H' : Hp) (x y z : Int), Lg p H H' → SqT K H' a [.int x, .int y, .int z] → Small3 x y z → ¬ GoodT x y z → Q (.ref a) H'
theorem sc__law_off : FnScope ["left", "model", "at", "low", "high", "far"] ["left"] (defScope s__law_off) := ⟨rfl, rfl, rfl, by decide +kernel, rfl, by decide +kernel, by decide +kernel⟩
set_option maxHeartbeats 1000000 in
theorem ok__law_off (F : Site K mg "_law_off" s__law_off) (T : Txt K mg t) (D__law_next : Def P w K mg base 1 "_law_next" ["left", "base"] sp__law_next) : Def P w K mg base 2 "_law_off" ["left"] (sp__law_off K) := by
  refine F.def sc__law_off (fun _ _ _ _ _ _ us hl => match us, hl with | [_], _ => rfl) (fun vs H Q E h => ?_) (fun f cdv A outer s H vs Q E hr h => ?_)
  · obtain ⟨p, rfl, _⟩ := h
    rfl
  · obtain ⟨p, rfl, hp, q⟩ := h
    refine ⟨_, pss_cons (ps_set (i := 1) sc__law_off.nd rfl (Or.inl rfl) (pe_lst (pa_cons (pe_op op_add pe_int (pe_def (D__law_next.mono (by decide)) hr passN (pa_cons (pv 0) (pa_cons pe_int pa_nil)))) (pa_cons (pe_def (D__law_next.mono (by decide)) hr passN (pa_cons (pv 0) (pa_cons pe_int pa_nil))) (pa_cons (pe_op op_add pe_int (pe_def (D__law_next.mono (by decide)) hr passN (pa_cons (pv 0) (pa_cons pe_int pa_nil)))) pa_nil)))))
      (pss_cons (ps_set (i := 2) sc__law_off.nd rfl (Or.inl rfl) (pe_def (D__law_next.mono (by decide)) hr passN (pa_cons (pv 0) (pa_cons pe_int pa_nil))))
      (pss_cons (ps_set (i := 3) sc__law_off.nd rfl (Or.inl rfl) (pe_ix (ix_listK K) (pe_lst (pa_cons pe_int (pa_cons pe_int (pa_cons pe_int pa_nil)))) (pv 2) (fun _ _ => rfl)))
      (pss_cons (ps_set (i := 4) sc__law_off.nd rfl (Or.inl rfl) (pe_ix (ix_listK K) (pe_lst (pa_cons pe_int (pa_cons pe_int (pa_cons pe_int pa_nil)))) (pv 2) (fun _ _ => rfl)))
      (pss_cons (ps_set (i := 5) sc__law_off.nd rfl (Or.inl rfl) (pe_op op_add pe_int (pe_def (D__law_next.mono (by decide)) hr passN (pa_cons (pv 0) (pa_cons pe_int pa_nil)))))
      (pss_cons (ps_asg (pe_ix (ix_listK K) (pe_lst (pa_cons (pe_op op_sub (pv 3) pe_int) (pa_cons (pe_op op_add (pv 4) pe_int) (pa_cons (pe_op op_sub (pv 3) (pv 5)) (pa_cons (pe_op op_add (pv 4) (pv 5)) (pa_cons (pe_op op_add (pv 4) (pe_op op_mul (pv 5) (pe_op op_pow pe_int pe_int))) pa_nil)))))) (pe_def (D__law_next.mono (by decide)) hr passN (pa_cons (pv 0) (pa_cons pe_int pa_nil))) (fun _ _ => rfl)) (pg_sub (pv 1) (pv 2) set_list))
      (pss_one (ps_ret (pe_callTy (call_tupleK K) (by rfl) T.n_tuple boot_tuple (pa_cons (pv 1) pa_nil))))))))), ?_⟩
    refine ⟨_, rfl, p, 9, rfl, by decide, by decide, hp.2, fun d1 r1 m1 k1 d10 d11 => ?_⟩
    have hp := hp.next (r := r1) (m := m1) (k := k1)
    generalize upd H p (.lst [.int r1, .int m1, .int k1]) = H1 at *
    refine ⟨_, _, rfl, rfl, _, rfl, p, 9, rfl, by decide, by decide, hp.2, fun d2 r2 m2 k2 d20 d21 => ?_⟩
    have hp := hp.next (r := r2) (m := m2) (k := k2)
    generalize upd H1 p (.lst [.int r2, .int m2, .int k2]) = H2 at *
    refine ⟨_, rfl, p, 3, rfl, by decide, by decide, hp.2, fun d3 r3 m3 k3 d30 d31 => ?_⟩
    have hp := hp.next (r := r3) (m := m3) (k := k3)
    generalize upd H2 p (.lst [.int r3, .int m3, .int k3]) = H3 at *
    refine ⟨_, _, rfl, rfl, by show 3 ≤ sizeLine; decide, fun l hl => ?_⟩
    have hlH : ¬ (H l ≠ none ∧ l ≠ p) := fun ⟨z1, z2⟩ => by
      cases e : H l with
      | none => exact z1 e
      | some o => rw [hp.1 l o z2 e] at hl; cases hl
    obtain ⟨hp, el, nl⟩ := hp.new (o := .lst [.int (1 + d1), .int d2, .int (1 + d3)]) hl
    generalize upd H3 l (.lst [.int (1 + d1), .int d2, .int (1 + d3)]) = H4 at *
    refine ⟨_, rfl, p, 3, rfl, by decide, by decide, hp.2, fun d4 r4 m4 k4 d40 d41 => ?_⟩
    have hp := hp.next (r := r4) (m := m4) (k := k4)
    replace el := Lg.keep (o' := .lst [.int r4, .int m4, .int k4]) el nl
    generalize upd H4 p (.lst [.int r4, .int m4, .int k4]) = H5 at *
    obtain ⟨lo, hlo, lo'⟩ := pick3 (x := 1) (y := 0) (z := 1) d40 d41
    obtain ⟨hi, hhi, hi'⟩ := pick3 (x := 9) (y := 8) (z := 3) d40 d41
    refine ⟨by show 3 ≤ sizeLine; decide, fun a1 ha1 => ?_⟩
    replace el := keep_new (o' := .lst [.int 1, .int 0, .int 1]) el ha1
    obtain ⟨hp, e1, _⟩ := hp.new (o := .lst [.int 1, .int 0, .int 1]) ha1
    generalize upd H5 a1 (.lst [.int 1, .int 0, .int 1]) = H6 at *
    refine ⟨_, rfl, a1, _, _, _, rfl, rfl, SqL.of e1, hlo, by show 3 ≤ sizeLine; decide, fun a2 ha2 => ?_⟩
    replace el := keep_new (o' := .lst [.int 9, .int 8, .int 3]) el ha2
    obtain ⟨hp, e2, _⟩ := hp.new (o := .lst [.int 9, .int 8, .int 3]) ha2
    generalize upd H6 a2 (.lst [.int 9, .int 8, .int 3]) = H7 at *
    refine ⟨_, rfl, a2, _, _, _, rfl, rfl, SqL.of e2, hhi, _, rfl, p, 1000, rfl, by decide, by decide, hp.2, fun d5 r5 m5 k5 d50 d51 => ?_⟩
    have hp := hp.next (r := r5) (m := m5) (k := k5)
    replace el := Lg.keep (o' := .lst [.int r5, .int m5, .int k5]) el nl
    generalize upd H7 p (.lst [.int r5, .int m5, .int k5]) = H8 at *
    have p30 : (10 : Int) ^ (30 : Int).toNat = 1000000000000000000000000000000 := by decide
    refine ⟨_, _, rfl, rfl, _, rfl, _, _, rfl, rfl, _, rfl, _, _, rfl, rfl, _, rfl, _, rfl, _, _, rfl, rfl, _, rfl, _, rfl, _, _, rfl, rfl, _, rfl, _, rfl, _, _, rfl, rfl, ⟨by decide, by decide, by decide⟩, _, _, rfl, rfl, .inl ⟨by omega, by omega⟩, _, _, rfl, rfl, by show 5 ≤ sizeLine; decide, fun a3 ha3 => ?_⟩
    replace el := keep_new (o' := .lst [.int (lo - 1), .int (hi + 1), .int (lo - (1 + d5)), .int (hi + (1 + d5)), .int (hi + (1 + d5) * 10 ^ (30 : Int).toNat)]) el ha3
    obtain ⟨hp, e3, n3⟩ := hp.new (o := .lst [.int (lo - 1), .int (hi + 1), .int (lo - (1 + d5)), .int (hi + (1 + d5)), .int (hi + (1 + d5) * 10 ^ (30 : Int).toNat)]) ha3
    dsimp only
    generalize upd H8 a3 (.lst [.int (lo - 1), .int (hi + 1), .int (lo - (1 + d5)), .int (hi + (1 + d5)), .int (hi + (1 + d5) * 10 ^ (30 : Int).toNat)]) = H9 at *
    refine ⟨_, rfl, p, 5, rfl, by decide, by decide, hp.2, fun d6 r6 m6 k6 d60 d61 => ?_⟩
    have hp := hp.next (r := r6) (m := m6) (k := k6)
    replace el := Lg.keep (o' := .lst [.int r6, .int m6, .int k6]) el nl
    replace e3 := Lg.keep (o' := .lst [.int r6, .int m6, .int k6]) e3 n3
    generalize upd H9 p (.lst [.int r6, .int m6, .int k6]) = H10 at *
    obtain ⟨v, hv, v'⟩ := pick5 (a := lo - 1) (b := hi + 1) (c := lo - (1 + d5)) (e := hi + (1 + d5)) (f := hi + (1 + d5) * 10 ^ (30 : Int).toNat) d60 d61
    obtain ⟨i, x, y, z, hi1, hi2, hi3⟩ := set3 (x := 1 + d1) (y := d2) (z := 1 + d3) (v := v) d40 d41
    refine ⟨a3, _, _, _, rfl, rfl, SqL.of e3, hv, _, rfl, _, rfl, l, _, _, i, rfl, rfl, el, hi1, ?_⟩
    rw [hi2]
    have nlp : ∀ o', (upd H10 l o') p = H10 p := fun o' => upd_ne (Ne.symm nl)
    have hl0 : ∀ b o, b ≠ p → H b = some o → b ≠ l := fun b o n e z => hlH ⟨(by rw [← z, e]; exact (fun y => by cases y)), nl⟩
    have hq : Lg p H (upd H10 l (.lst [.int x, .int y, .int z])) := ⟨fun b o n e => by rw [upd_ne (hl0 b o n e)]; exact hp.1 b o n e, by obtain ⟨r, m, k, g⟩ := hp.2; exact ⟨r, m, k, by rw [nlp]; exact g⟩⟩
    refine ⟨_, rfl, l, _, rfl, .inl ⟨SqL.of upd_same, fun a ha => ?_⟩⟩
    rw [p30] at v'
    refine q a _ x y z (hq.new ha).1 (SqT.of upd_same) ?_ ?_
    · refine ⟨small_of ?_ ?_, small_of ?_ ?_, small_of ?_ ?_⟩ <;> (rcases hi3 with ⟨_, h1, h2, h3⟩ | ⟨_, h1, h2, h3⟩ | ⟨_, h1, h2, h3⟩ <;> rcases lo' with ⟨_, g1⟩ | ⟨_, g1⟩ | ⟨_, g1⟩ <;> rcases hi' with ⟨_, g2⟩ | ⟨_, g2⟩ | ⟨_, g2⟩ <;> rcases v' with w | w | w | w | w <;> omega)
    · intro g
      unfold GoodT at g
      rcases hi3 with ⟨_, h1, h2, h3⟩ | ⟨_, h1, h2, h3⟩ | ⟨_, h1, h2, h3⟩ <;> rcases lo' with ⟨_, g1⟩ | ⟨_, g1⟩ | ⟨_, g1⟩ <;> rcases hi' with ⟨_, g2⟩ | ⟨_, g2⟩ | ⟨_, g2⟩ <;> rcases v' with w | w | w | w | w <;> omega
theorem pick2 {x y d : Int} (h0 : 0 ≤ d) (h1 : d < 2) : ∃ v, atI [V.int x, V.int y] d = some (.int v) ∧ (v = x ∨ v = y) := by
  have h : d = 0 ∨ d = 1 := by omega
  rcases h with rfl | rfl
  · exact ⟨x, rfl, .inl rfl⟩
  · exact ⟨y, rfl, .inr rfl⟩
def sp__law_edge (K : PySem.W.Frag) : Sp := fun vs H Q _ => ∃ p : Addr, vs = [.ref p] ∧ Lg p H H ∧ ∀ (a : Addr) (H' : Hp) (M : Md), Lg p H H' → IsMd K H' a M → GoodMd M → Q (.ref a) H'
theorem sc__law_edge : FnScope ["left"] ["left"] (defScope s__law_edge) := ⟨rfl, rfl, rfl, by decide +kernel, rfl, by decide +kernel, by decide +kernel⟩
theorem ok__law_edge (F : Site K mg "_law_edge" s__law_edge) (T : Txt K mg t) (D__law_next : Def P w K mg base 1 "_law_next" ["left", "base"] sp__law_next) : Def P w K mg base 2 "_law_edge" ["left"] (sp__law_edge K) := by
  refine F.def sc__law_edge (fun _ _ _ _ _ _ us hl => match us, hl with | [_], _ => rfl) (fun vs H Q E h => ?_) (fun f cdv A outer s H vs Q E hr h => ?_)
  · obtain ⟨p, rfl, _⟩ := h
    rfl
  · obtain ⟨p, rfl, hp, q⟩ := h
    refine ⟨_, pss_one (ps_ret (pe_tup (pa_cons (pe_ix (ix_listK K) (pe_lst (pa_cons pe_int (pa_cons pe_int pa_nil))) (pe_def (D__law_next.mono (by decide)) hr passN (pa_cons (pv 0) (pa_cons pe_int pa_nil))) (fun _ _ => rfl)) (pa_cons (pe_ix (ix_listK K) (pe_lst (pa_cons pe_int (pa_cons pe_int pa_nil))) (pe_def (D__law_next.mono (by decide)) hr passN (pa_cons (pv 0) (pa_cons pe_int pa_nil))) (fun _ _ => rfl)) (pa_cons (pe_ix (ix_listK K) (pe_lst (pa_cons pe_int (pa_cons pe_int pa_nil))) (pe_def (D__law_next.mono (by decide)) hr passN (pa_cons (pv 0) (pa_cons pe_int pa_nil))) (fun _ _ => rfl)) pa_nil))))), ?_⟩
    refine ⟨by show 2 ≤ sizeLine; decide, fun a1 ha1 => ?_⟩
    obtain ⟨hp, e1, n1⟩ := hp.new (o := .lst [.int 1, .int 9]) ha1
    generalize upd H a1 (.lst [.int 1, .int 9]) = H1 at *
    refine ⟨_, rfl, p, 2, rfl, by decide, by decide, hp.2, fun d1 r1 m1 k1 d10 d11 => ?_⟩
    have hp := hp.next (r := r1) (m := m1) (k := k1)
    replace e1 := Lg.keep (o' := .lst [.int r1, .int m1, .int k1]) e1 n1
    generalize upd H1 p (.lst [.int r1, .int m1, .int k1]) = H2 at *
    obtain ⟨x, hx, x'⟩ := pick2 (x := 1) (y := 9) d10 d11
    refine ⟨a1, _, _, _, rfl, rfl, SqL.of e1, hx, by show 2 ≤ sizeLine; decide, fun a2 ha2 => ?_⟩
    obtain ⟨hp, e2, n2⟩ := hp.new (o := .lst [.int 0, .int 8]) ha2
    generalize upd H2 a2 (.lst [.int 0, .int 8]) = H3 at *
    refine ⟨_, rfl, p, 2, rfl, by decide, by decide, hp.2, fun d2 r2 m2 k2 d20 d21 => ?_⟩
    have hp := hp.next (r := r2) (m := m2) (k := k2)
    replace e2 := Lg.keep (o' := .lst [.int r2, .int m2, .int k2]) e2 n2
    generalize upd H3 p (.lst [.int r2, .int m2, .int k2]) = H4 at *
    obtain ⟨y, hy, y'⟩ := pick2 (x := 0) (y := 8) d20 d21
    refine ⟨a2, _, _, _, rfl, rfl, SqL.of e2, hy, by show 2 ≤ sizeLine; decide, fun a3 ha3 => ?_⟩
    obtain ⟨hp, e3, n3⟩ := hp.new (o := .lst [.int 1, .int 3]) ha3
    generalize upd H4 a3 (.lst [.int 1, .int 3]) = H5 at *
    refine ⟨_, rfl, p, 2, rfl, by decide, by decide, hp.2, fun d3 r3 m3 k3 d30 d31 => ?_⟩
    have hp := hp.next (r := r3) (m := m3) (k := k3)
    replace e3 := Lg.keep (o' := .lst [.int r3, .int m3, .int k3]) e3 n3
    generalize upd H5 p (.lst [.int r3, .int m3, .int k3]) = H6 at *
    obtain ⟨z, hz, z'⟩ := pick2 (x := 1) (y := 3) d30 d31
    refine ⟨a3, _, _, _, rfl, rfl, SqL.of e3, hz, by show 3 ≤ sizeLine; decide, fun a ha => ?_⟩
    obtain ⟨n, rfl⟩ : ∃ n : Nat, z = (n : Int) := ⟨z.toNat, by omega⟩
    exact q a _ ⟨x, y, n⟩ (hp.new ha).1 (SqT.of upd_same) ⟨by show 1 ≤ x; omega, by show x ≤ 9; omega, by show 0 ≤ y; omega, by show y ≤ 8; omega, by show 1 ≤ n; omega, by show n ≤ 3; omega⟩
end
end K24
namespace K24
open PySem L2 PyProof.Rows
section
variable {P : Program} {w : World} {K : PySem.W.Frag} {mg : Str → Option Value} {base : Heap} {t : Ad}
/-! _law_edge_good -/
theorem zero_step (M : Md) (s : Std) : ((0 : Int), (0 : Int)) ∈ stepsOf M s := by
  unfold stepsOf
  exact List.mem_flatMap.mpr ⟨0, List.mem_filter.mpr ⟨List.mem_range.mpr (Nat.succ_pos _), rfl⟩, List.mem_map.mpr ⟨0, List.mem_filter.mpr ⟨List.mem_range.mpr (Nat.succ_pos _), rfl⟩, rfl⟩⟩
theorem behind_ne (M : Md) : ¬ behindS M (firstS M.la) (0, 0) = firstS M.la := fun h => by
  have h2 : (firstS M.la).to[0]? = some (some 0) := by rw [← h]; rfl
  exact rep_at h2
section
variable {ok ok' : Addr → Prop} {H H' : Hp} {M : Md} {n : Int} {v : V} {D : Addr}
theorem Asked.same (h : Asked K ok H M n v) (s : Same H H') (f : ∀ r, ok r → ok' r) : Asked K ok' H' M n v := by
  rcases h with ⟨z, r, rfl, h⟩ | ⟨z, r, rfl, o, h⟩ | h | ⟨z, r, rfl, h⟩ | h | ⟨z, r, rfl, o, h⟩
  · exact .inl ⟨z, r, rfl, h.same s⟩
  · obtain ⟨tps, h1, h2⟩ := h
    exact .inr (.inl ⟨z, r, rfl, f r o, tps, s _ _ h1, fun y q hy => s _ _ (h2 y q hy)⟩)
  · exact .inr (.inr (.inl h))
  · exact .inr (.inr (.inr (.inl ⟨z, r, rfl, h.same s⟩)))
  · exact .inr (.inr (.inr (.inr (.inl h))))
  · exact .inr (.inr (.inr (.inr (.inr ⟨z, r, rfl, f r o, h.same s⟩))))
theorem Asked.put {ys : List V} {o : HO} (h : Asked K (fun r => r ≠ D) H M n v) (hD : H D = some (.lst ys)) : Asked K (fun r => r ≠ D) (upd H D o) M n v := by
  rcases h with ⟨z, r, rfl, h⟩ | ⟨z, r, rfl, nd, h⟩ | h | ⟨z, r, rfl, h⟩ | h | ⟨z, r, rfl, nd, h⟩
  · exact .inl ⟨z, r, rfl, h.updL hD⟩
  · obtain ⟨tps, h1, h2⟩ := h
    exact .inr (.inl ⟨z, r, rfl, nd, tps, by rw [upd_ne nd]; exact h1, fun y q hy => by rw [upd_ne (fun w => by have := h2 y q hy; rw [w, hD] at this; cases this)]; exact h2 y q hy⟩)
  · exact .inr (.inr (.inl h))
  · exact .inr (.inr (.inr (.inl ⟨z, r, rfl, h.updL hD⟩)))
  · exact .inr (.inr (.inr (.inr (.inl h))))
  · obtain ⟨sas, h1, h2⟩ := h
    exact .inr (.inr (.inr (.inr (.inr ⟨z, r, rfl, nd, sas, by rw [upd_ne nd]; exact h1, fun y s hs => (h2 y s hs).updL hD⟩))))
theorem Asked.at0 (h : Asked K ok H M 0 v) : ∃ r, v = .ref r ∧ IsStd K H r (firstS M.la) := by
  rcases h with ⟨_, h⟩ | ⟨z, _⟩ | ⟨z, _⟩ | ⟨z, _⟩ | ⟨z, _⟩ | ⟨z, _⟩
  · exact h
  all_goals exact absurd z (by decide)
theorem Asked.at1 (h : Asked K ok H M 1 v) : ∃ r, v = .ref r ∧ IsSteps K H r (stepsOf M (firstS M.la)) := by
  rcases h with ⟨z, _⟩ | ⟨_, r, e, _, h⟩ | ⟨z, _⟩ | ⟨z, _⟩ | ⟨z, _⟩ | ⟨z, _⟩
  case inr.inl => exact ⟨r, e, h⟩
  all_goals exact absurd z (by decide)
theorem Asked.at2 (h : Asked K ok H M 2 v) : v = .bl false := by
  rcases h with ⟨z, _⟩ | ⟨z, _⟩ | ⟨_, h⟩ | ⟨z, _⟩ | ⟨z, _⟩ | ⟨z, _⟩
  case inr.inr.inl => exact h
  all_goals exact absurd z (by decide)
theorem Asked.at3 (h : Asked K ok H M 3 v) : ∃ r, v = .ref r ∧ IsStd K H r (behindS M (firstS M.la) (0, 0)) := by
  rcases h with ⟨z, _⟩ | ⟨z, _⟩ | ⟨z, _⟩ | ⟨_, h⟩ | ⟨z, _⟩ | ⟨z, _⟩
  case inr.inr.inr.inl => exact h
  all_goals exact absurd z (by decide)
theorem Asked.at4 (h : Asked K ok H M 4 v) : v = .bl false := by
  rcases h with ⟨z, _⟩ | ⟨z, _⟩ | ⟨z, _⟩ | ⟨z, _⟩ | ⟨_, h⟩ | ⟨z, _⟩
  case inr.inr.inr.inr.inl => exact h
  all_goals exact absurd z (by decide)
theorem Asked.at5 (h : Asked K ok H M 5 v) : ∃ r, v = .ref r ∧ IsStds K H r [firstS M.la] := by
  rcases h with ⟨z, _⟩ | ⟨z, _⟩ | ⟨z, _⟩ | ⟨z, _⟩ | ⟨z, _⟩ | ⟨_, r, e, _, h⟩
  case inr.inr.inr.inr.inr => exact ⟨r, e, h⟩
  all_goals exact absurd z (by decide)
end
def sp__law_edge_good (K : PySem.W.Frag) : Sp := fun vs H Q _ => ∃ (a : Addr) (M : Md), vs = [.ref a] ∧ IsMd K H a M ∧ GoodMd M ∧ ∀ H', Same H H' → Q (.bl true) H'
theorem sc__law_edge_good : FnScope ["model", "first", "found"] ["model"] (defScope s__law_edge_good) := ⟨rfl, rfl, rfl, by decide +kernel, rfl, by decide +kernel, by decide +kernel⟩
set_option maxHeartbeats 1000000 in
theorem ok__law_edge_good (F : Site K mg "_law_edge_good" s__law_edge_good) (T : Txt K mg t) (D__law_first : Def P w K mg base 1 "_law_first" ["model"] (sp__law_first K)) (D__law_asked : Def P w K mg base 6 "_law_asked" ["which", "model", "stand"] (sp__law_asked K t.BadModel)) : Def P w K mg base 7 "_law_edge_good" ["model"] (sp__law_edge_good K) := by
  refine F.def sc__law_edge_good (fun _ _ _ _ _ _ us hl => match us, hl with | [_], _ => rfl) (fun vs H Q E h => ?_) (fun f cdv A outer s H vs Q E hr h => ?_)
  · obtain ⟨a, M, rfl, _⟩ := h
    rfl
  · obtain ⟨a, M, rfl, hM, gM, q⟩ := h
    refine ⟨_, pss_cons (ps_set (i := 1) sc__law_edge_good.nd rfl (Or.inr rfl) (pe_def (D__law_first.mono (by decide)) hr passN (pa_cons (pv 0) pa_nil)))
      (pss_cons (ps_setLC (i := 2) sc__law_edge_good.nd rfl (Or.inl rfl) rfl (Nc := ["which", "model", "first"]) (ix := [none, some 0, some 1]) (cscope (defScope s__law_edge_good) ["model", "first", "found"] rfl rfl (by decide +kernel)) (pi_range1 (by rfl) T.n_range (pa_cons pe_int pa_nil)) (fun C fp s H => ⟨(pg_name (i := 0) (show (["which", "model", "first"] : List Str).Nodup by decide +kernel) rfl (Or.inl rfl)), pts_nil, (pe_def (D__law_asked.mono (by decide)) hr passN (pa_cons (pv 0) (pa_cons (pv 1) (pa_cons (pv 2) pa_nil))))⟩))
      (pss_cons (ps_if (PW.pt (pw_or (pt_cmpR (op_neStd K (hu16 hr)) (pe_ix (ix_listK K) (pv 2) pe_int (fun _ _ => rfl)) (pv 1) (nomark _)) (pw_or (pt_cmpR (op_notInP K (hu16 hr)) (pe_tup (pa_cons pe_int (pa_cons pe_int pa_nil))) (pe_ix (ix_listK K) (pv 2) pe_int (fun _ _ => rfl)) (by rfl)) (pw_or (pt_cmpR op_notB (pe_ix (ix_listK K) (pv 2) pe_int (fun _ _ => rfl)) pe_bl (nomark _)) (pw_or1 (pt_cmpR op_notB (pe_ix (ix_listK K) (pv 2) pe_int (fun _ _ => rfl)) pe_bl (nomark _)))))))
        (pss_one (ps_ret pe_bl))
        (pss_nil))
      (pss_one (ps_ret (pe_and (pe_cmpR (op_neStd K (hu16 hr)) (pe_ix (ix_listK K) (pv 2) pe_int (fun _ _ => rfl)) (pv 1) (nomark _)) (pe_one (pe_cmpR (op_eqGK K (hu16 hr)) (pe_ix (ix_listK K) (pv 2) pe_int (fun _ _ => rfl)) (pe_lst (pa_cons (pv 1) pa_nil)) (nomark _)))))))), ?_⟩
    have hsz : (2000 : Nat) ≤ sizeLine := by decide
    have gT : GoodT M.m M.pa (M.la : Int) := ⟨⟨gM.m0, gM.m1⟩, ⟨gM.p0, gM.p1⟩, by have := gM.l0; omega, by have := gM.l1; omega⟩
    have sm : Small3 M.m M.pa (M.la : Int) := by
      obtain ⟨⟨a1, a2⟩, ⟨a3, a4⟩, a5, a6⟩ := gT
      exact ⟨small_of (by omega) (by omega), small_of (by omega) (by omega), small_of (by omega) (by omega)⟩
    refine ⟨_, rfl, a, M, rfl, hM, gM, fun r H1 s1 hf => ?_⟩
    have hM1 : IsMd K H1 a M := s1.tup hM
    refine ⟨6, rfl, by decide, by decide, fun D hD => ?_⟩
    refine lc_range (lo := 0) (n := 6) (fun i σ H' => (∃ v, σ = [v, some (.ref a), some (.ref r)]) ∧ Same H1 H' ∧ ∃ vs : List V, H' D = some (.lst vs) ∧ vs.length = i ∧ ∀ (j : Nat) (v : V), vs[j]? = some v → Asked K (fun r => r ≠ D) H' M (j : Int) v)
      ⟨⟨none, rfl⟩, (Same.refl _).new hD, [], upd_same, rfl, fun j v h => by cases h⟩ ?_ ?_
    · rintro i σ H' N hN hi ⟨⟨v, rfl⟩, s2, vs, w1, w2, w3⟩
      rw [show (0 : Int) + (i : Nat) = (i : Int) by omega]
      refine turn_do ?_
      refine ⟨_, rfl, _, rfl, _, rfl, (i : Int), a, r, M.m, M.pa, (M.la : Int), firstS M.la, rfl, s2.tup hM1, sm, hf.same s2, .inr ⟨gT, rfl, by omega, by omega, fun v H2 s3 hv => ?_⟩⟩
      have w1' := s3 _ _ w1
      have hv : Asked K (fun r => r ≠ D) H2 M (i : Int) v := Asked.same (H := H2) hv (Same.refl _) fun r hr z => by rw [z, w1] at hr; cases hr
      refine ⟨_, w1', by omega, hN _ _ ⟨⟨_, rfl⟩, (s2.trans s3).put hD, vs ++ [v], upd_same, by rw [List.length_append, w2]; rfl, fun j u hj => ?_⟩⟩
      by_cases z : j < vs.length
      · rw [List.getElem?_append_left z] at hj
        exact ((w3 j u hj).same s3 fun _ h => h).put w1'
      · have hl := (List.getElem?_eq_some_iff.mp hj).1
        rw [List.length_append] at hl
        have e : j = vs.length := by simp at hl; omega
        rw [e, List.getElem?_append_right (Nat.le_refl _), Nat.sub_self] at hj
        cases hj
        rw [e, w2]; exact hv.put w1'
    rintro σ H2 ⟨⟨v, rfl⟩, s2, vs, w1, w2, w3⟩
    obtain ⟨v0, v1, v2, v3, v4, v5, rfl⟩ : ∃ v0 v1 v2 v3 v4 v5, vs = [v0, v1, v2, v3, v4, v5] := by
      match vs, w2 with
      | [v0, v1, v2, v3, v4, v5], _ => exact ⟨v0, v1, v2, v3, v4, v5, rfl⟩
    obtain ⟨r0, rfl, h0⟩ := (w3 0 v0 rfl).at0
    obtain ⟨r1, rfl, h1⟩ := (w3 1 v1 rfl).at1
    obtain rfl := (w3 2 v2 rfl).at2
    obtain ⟨r3, rfl, h3⟩ := (w3 3 v3 rfl).at3
    obtain rfl := (w3 4 v4 rfl).at4
    obtain ⟨r5, rfl, h5⟩ := (w3 5 v5 rfl).at5
    clear w3
    have hf2 := hf.same s2
    have hD2 := SqL.of (K := K) w1
    refine ⟨_, rfl, D, _, _, _, rfl, rfl, hD2, rfl, _, rfl, r0, r, _, _, rfl, rfl, h0, hf2, ?_⟩
    rw [show (if (true = true) then !decide (firstS M.la = firstS M.la) else decide (firstS M.la = firstS M.la)) = false by simp]
    refine ⟨_, rfl, iteF ?_⟩
    refine ⟨by show 2 ≤ sizeLine; decide, fun t0 ht0 => ?_⟩
    have S3 : Same H2 (upd H2 t0 (.tup [.int 0, .int 0])) := (Same.refl _).new ht0
    have E3 : (upd H2 t0 (.tup [.int 0, .int 0])) t0 = some (.tup [.int 0, .int 0]) := upd_same
    generalize upd H2 t0 (.tup [.int 0, .int 0]) = H3 at *
    have w1' := S3 _ _ w1
    have hD3 := SqL.of (K := K) w1'
    obtain ⟨tps, g1, g2⟩ := h1
    obtain ⟨j0, hj0⟩ := List.mem_iff_getElem?.mp (zero_step M (firstS M.la))
    have hj0l : j0 < (stepsOf M (firstS M.la)).length := (List.getElem?_eq_some_iff.mp hj0).1
    refine ⟨_, rfl, D, _, _, _, rfl, rfl, hD3, rfl, t0, r1, [some 0, some 0], (stepsOf M (firstS M.la)).length, tps, fun j => [some ((stepsOf M (firstS M.la)).getD j (0, 0)).1, some ((stepsOf M (firstS M.la)).getD j (0, 0)).2], rfl, rfl, SqT.of E3, SqL.of (S3 _ _ g1), fun j hj => ?_, ?_⟩
    · have e : (stepsOf M (firstS M.la))[j]? = some ((stepsOf M (firstS M.la)).getD j (0, 0)) := by rw [List.getD_eq_getElem?_getD, List.getElem?_eq_getElem hj]; rfl
      exact SqT.of (S3 _ _ (g2 j _ e))
    rw [show (List.range (stepsOf M (firstS M.la)).length).any (fun j => decide ([some ((stepsOf M (firstS M.la)).getD j (0, 0)).1, some ((stepsOf M (firstS M.la)).getD j (0, 0)).2] = [some (0 : Int), some 0])) = true from List.any_eq_true.mpr ⟨j0, List.mem_range.mpr hj0l, by rw [List.getD_eq_getElem?_getD, hj0]; rfl⟩]
    refine ⟨_, rfl, iteF ?_⟩
    refine ⟨_, rfl, D, _, _, _, rfl, rfl, hD3, rfl, false, false, rfl, rfl, _, rfl, iteF ?_⟩
    refine ⟨_, rfl, D, _, _, _, rfl, rfl, hD3, rfl, false, false, rfl, rfl, _, rfl, iteF ?_⟩
    refine ⟨_, rfl, D, _, _, _, rfl, rfl, hD3, rfl, _, rfl, r3, r, _, _, rfl, rfl, h3.same S3, hf2.same S3, ?_⟩
    rw [show (if (true = true) then !decide (behindS M (firstS M.la) (0, 0) = firstS M.la) else decide (behindS M (firstS M.la) (0, 0) = firstS M.la)) = true by simp [behind_ne M]]
    refine ⟨_, rfl, iteT ?_⟩
    refine ⟨_, rfl, D, _, _, _, rfl, rfl, hD3, rfl, _, rfl, by show 1 ≤ sizeLine; decide, fun l hl => ?_⟩
    have S4 : Same H3 (upd H3 l (.lst [.ref r])) := (Same.refl _).new hl
    obtain ⟨sas, k1, k2⟩ := h5
    refine ⟨r5, l, _, _, rfl, rfl, SqL.of (S4 _ _ (S3 _ _ k1)), SqL.of upd_same, .inl ⟨rfl, fun j u v hu hv => ?_, ?_⟩⟩
    · match j, hu, hv with
      | 0, hu, hv =>
        cases hu; cases hv
        exact like_std (((k2 0 _ rfl).same S3).same S4) ((hf2.same S3).same S4)
      | j + 1, hu, hv => cases hv
    · exact q _ (s1.trans (s2.trans (S3.trans S4)))
end
end K24
namespace K24
open PySem L2 PyProof.Rows
section
variable {P : Program} {w : World} {K : PySem.W.Frag} {mg : Str → Option Value} {base : Heap} {t : Ad}
/-! law -/
theorem not_safe {ss : List Std} (h : Safe ⟨1, 0, 1⟩ ss) : False := by
  have k0 := h.keeps _ h.fst
  unfold keepsB at k0
  rw [List.all_eq_true] at k0
  have k1 := k0 (0, 0) (by decide)
  simp only [Bool.and_eq_true, decide_eq_true_eq] at k1
  have k2 := h.keeps _ k1.2
  unfold keepsB at k2
  rw [List.all_eq_true] at k2
  have k3 := k2 (0, 1) (by decide)
  simp only [Bool.and_eq_true] at k3
  exact absurd k3.1 (by decide)
theorem sqt_lg {K : PySem.W.Frag} {H' H'' : Hp} {p a : Addr} {xs : List V} (h2 : ∃ r m k : Int, H' p = some (.lst [.int r, .int m, .int k])) (fr : ∀ b o, b ≠ p → H' b = some o → H'' b = some o) (h : SqT K H' a xs) : SqT K H'' a xs := by
  obtain ⟨r, m, k, hp⟩ := h2
  rcases h with (h | ⟨u, h⟩) | h
  · exact .inl (.inl (fr _ _ (fun z => by rw [z, hp] at h; cases h) h))
  · exact .inl (.inr ⟨u, fr _ _ (fun z => by rw [z, hp] at h; cases h) h⟩)
  · exact .inr h
theorem sc_law : FnScope ["script", "cell", "left", "model", "stand", "which"] ["script"] (defScope s_law) := ⟨rfl, rfl, rfl, by decide +kernel, rfl, by decide +kernel, by decide +kernel⟩
set_option maxHeartbeats 2000000 in
theorem law_fn {f : Addr} {fd : FuncData} (T : Txt K mg t) (F : Fun K "law" "law" s_law f fd) (D__law_left : Def P w K mg base 1 "_law_left" ["cell"] sp__law_left) (D__law_next : Def P w K mg base 1 "_law_next" ["left", "base"] sp__law_next) (D__law_off : Def P w K mg base 2 "_law_off" ["left"] (sp__law_off K)) (D__law_first : Def P w K mg base 1 "_law_first" ["model"] (sp__law_first K)) (D__law_refused : Def P w K mg base 7 "_law_refused" ["which", "model", "stand"] (sp__law_refused K)) (D__law_edge : Def P w K mg base 2 "_law_edge" ["left"] (sp__law_edge K)) (D__law_edge_good : Def P w K mg base 7 "_law_edge_good" ["model"] (sp__law_edge_good K)) (D_shown : Def P w K mg base 4 "shown" ["model"] (sp_shown K t.BadModel)) : FnOk P w K mg base (CX1 P w) 9 f fd ["script"] (spLaw K) := by
  refine F.ok1 sc_law (fun vs H Q E h => ?_) (fun f cdv A outer s H vs Q E hr h => ?_)
  · obtain ⟨a, ns, rfl, _⟩ := h
    rfl
  · obtain ⟨sc, ns, rfl, hS, hlen, q⟩ := h
    refine ⟨_, pss_cons (PS.nox (ps_for PassesOwn.never rfl (pi_listK K (pe_op (op_catK K) (pe_slice (sl_listK K) (pv 0) po_none (po_some pe_int)) (pe_lst (pa_cons pe_int pa_nil)))) (pg_name (i := 1) sc_law.nd rfl (Or.inl rfl))
        (pss_cons (ps_set (i := 2) sc_law.nd rfl (Or.inl rfl) (pe_def (D__law_left.mono (by decide)) hr passN (pa_cons (pv 1) pa_nil)))
        (pss_cons (ps_set (i := 3) sc_law.nd rfl (Or.inl rfl) (pe_def (D__law_off.mono (by decide)) hr passN (pa_cons (pv 2) pa_nil)))
        (pss_cons (ps_set (i := 4) sc_law.nd rfl (Or.inl rfl) (pe_def (D__law_first.mono (by decide)) hr passN (pa_cons (pe_tup (pa_cons pe_int (pa_cons pe_int (pa_cons (pe_op op_add pe_int (pe_def (D__law_next.mono (by decide)) hr passN (pa_cons (pv 2) (pa_cons pe_int pa_nil)))) pa_nil)))) pa_nil)))
        (pss_cons (ps_for PassesOwn.never rfl (pi_range1 (by rfl) T.n_range (pa_cons pe_int pa_nil)) (pg_name (i := 5) sc_law.nd rfl (Or.inl rfl))
          (pss_one (ps_if (pt_not (pt_val (pe_def (D__law_refused.mono (by decide)) hr passN (pa_cons (pv 5) (pa_cons (pv 3) (pa_cons (pv 4) pa_nil))))))
            (pss_one (ps_ret pe_bl))
            (pss_nil))))
        (pss_one (ps_if (pt_not (pt_val (pe_def (D__law_edge_good.mono (by decide)) hr passN (pa_cons (pe_def (D__law_edge.mono (by decide)) hr passN (pa_cons (pv 2) pa_nil)) pa_nil))))
          (pss_one (ps_ret pe_bl))
          (pss_nil)))))))))
      (pss_one (ps_ret (pe_and (pe_cmpR op_eq (pe_ix (ix_tupK K) (pe_def (D_shown.mono (by decide)) hr (pass1 cx1_body) (pa_cons (pe_tup (pa_cons pe_int (pa_cons pe_int (pa_cons pe_int pa_nil)))) pa_nil)) pe_int (fun _ _ => rfl)) pe_str (nomark _)) (pe_one (pe_cmpR op_in_seq (pe_ix (ix_tupK K) (pe_def (D_shown.mono (by decide)) hr (pass1 cx1_body) (pa_cons (pe_tup (pa_cons pe_int (pa_cons pe_int (pa_cons pe_int pa_nil)))) pa_nil)) pe_int (fun _ _ => rfl)) (pe_lst (pa_cons pe_str (pa_cons pe_str pa_nil))) (by rfl)))))), ?_⟩
    have hsz : (2000 : Nat) ≤ sizeLine := by decide
    refine ⟨_, rfl, _, rfl, sc, _, rfl, hS, fun p1 hp1 => ?_⟩
    obtain ⟨as, eas, _, las⟩ := cut_ints ns none (some 30)
    rw [eas]
    have t1 := (Same.refl H).new (o := .lst (as.map V.int)) hp1
    have e1 : (upd H p1 (.lst (as.map V.int))) p1 = some (.lst (as.map V.int)) := upd_same
    generalize upd H p1 (.lst (as.map V.int)) = H1 at *
    refine ⟨by show 1 ≤ sizeLine; decide, fun p2 hp2 => ?_⟩
    have t2 := (Same.refl H1).new (o := .lst [.int 0]) hp2
    have e2 : (upd H1 p2 (.lst [.int 0])) p2 = some (.lst [.int 0]) := upd_same
    generalize upd H1 p2 (.lst [.int 0]) = H2 at *
    refine ⟨p1, p2, _, _, rfl, rfl, SqL.of (t2 _ _ e1), SqL.of e2, by rw [List.length_map]; show as.length + 1 ≤ sizeLine; omega, fun p3 hp3 => ?_⟩
    have e3 : (upd H2 p3 (.lst (as.map V.int ++ [.int 0]))) p3 = some (.lst ((as ++ [0]).map V.int)) := by rw [upd_same, List.map_append]; rfl
    generalize upd H2 p3 (.lst (as.map V.int ++ [.int 0])) = H3 at *
    refine ⟨p3, rfl, ⟨_, SqL.of e3⟩, for_list (K := K) (a := p3) (xs := (as ++ [0]).map V.int) (fun i σ H' => ∃ v1 v2 v3 v4 v5 : Option V, σ = [some (.ref sc), v1, v2, v3, v4, v5] ∧ H' p3 = some (.lst ((as ++ [0]).map V.int))) ⟨none, none, none, none, none, rfl, e3⟩ (fun i σ H' _ ⟨_, _, _, _, _, _, e⟩ => SqL.of e) ?_ ?_⟩
    · rintro i v σ H4 hi ⟨v1, v2, v3, v4, v5, rfl, e4⟩
      obtain ⟨c, _, rfl⟩ := item_of hi
      refine ⟨_, rfl, c, rfl, fun p r m hp => ?_⟩
      have e5 := keep_new (o' := .lst [.int r, .int m, .int 0]) e4 hp
      have np3 : p3 ≠ p := ne_of_none e4 hp
      have L5 : Lg p (upd H4 p (.lst [.int r, .int m, .int 0])) (upd H4 p (.lst [.int r, .int m, .int 0])) := ⟨fun _ _ _ e => e, _, _, _, upd_same⟩
      generalize upd H4 p (.lst [.int r, .int m, .int 0]) = H5 at *
      refine ⟨_, rfl, p, rfl, L5, fun ma H6 x y z L6 hma hsm hng => ?_⟩
      have e6 := L6.1 _ _ np3 e5
      refine ⟨_, rfl, p, 3, rfl, by decide, by decide, L6.2, fun d r' m' k' d0 d1 => ?_⟩
      have L7 := L6.next (r := r') (m := m') (k := k')
      have fr7 : ∀ b o, b ≠ p → H6 b = some o → (upd H6 p (.lst [.int r', .int m', .int k'])) b = some o := fun b o n e => by rw [upd_ne n]; exact e
      have hma7 := sqt_lg L6.2 fr7 hma
      have e7 := fr7 _ _ np3 e6
      generalize upd H6 p (.lst [.int r', .int m', .int k']) = H7 at *
      obtain ⟨n, hn⟩ : ∃ n : Nat, 1 + d = (n : Int) := ⟨(1 + d).toNat, by omega⟩
      refine ⟨_, _, rfl, rfl, by show 3 ≤ sizeLine; decide, fun mb hmb => ?_⟩
      dsimp only
      rw [hn]
      obtain ⟨L8, eb, _⟩ := L7.new (o := .tup [.int 1, .int 0, .int (n : Int)]) hmb
      have s8 : Same H7 (upd H7 mb (.tup [.int 1, .int 0, .int (n : Int)])) := (Same.refl _).new hmb
      generalize upd H7 mb (.tup [.int 1, .int 0, .int (n : Int)]) = H8 at *
      refine ⟨mb, ⟨1, 0, n⟩, rfl, SqT.of eb, ⟨by show (1 : Int) ≤ 1; decide, by show (1 : Int) ≤ 9; decide, by show (0 : Int) ≤ 0; decide, by show (0 : Int) ≤ 8; decide, by show 1 ≤ n; omega, by show n ≤ 3; omega⟩, fun st H9 s9 hst => ?_⟩
      have s79 := s8.trans s9
      have hma9 := s79.tup hma7
      have e9 := s79 _ _ e7
      have L9 : Lg p H9 H9 := ⟨fun _ _ _ e => e, by obtain ⟨r1, m1, k1, g⟩ := L8.2; exact ⟨r1, m1, k1, s9 _ _ g⟩⟩
      refine ⟨7, rfl, by decide, by decide, ?_⟩
      refine for_range (lo := 0) (n := 7) (fun i σ H' => ∃ v5 : Option V, σ = [some (.ref sc), some (.int c), some (.ref p), some (.ref ma), some (.ref st), v5] ∧ Same H9 H') ⟨_, rfl, Same.refl _⟩ ?_ ?_
      · rintro i σ H10 hi ⟨v5, rfl, s10⟩
        exact ⟨_, rfl, _, rfl, _, rfl, _, ma, st, x, y, z, firstS n, rfl, s10.tup hma9, hsm, hst.same s10, hng, fun H11 s11 => ⟨_, rfl, iteF ⟨_, rfl, s10.trans s11⟩⟩⟩
      · rintro σ H10 ⟨v5, rfl, s10⟩
        have L10 : Lg p H10 H10 := ⟨fun _ _ _ e => e, by obtain ⟨r1, m1, k1, g⟩ := L9.2; exact ⟨r1, m1, k1, s10 _ _ g⟩⟩
        refine ⟨_, rfl, p, rfl, L10, fun me H11 M L11 hMe gM => ?_⟩
        refine ⟨me, M, rfl, hMe, gM, fun H12 s12 => ⟨_, rfl, iteF ?_⟩⟩
        exact ⟨_, _, _, _, _, rfl, s12 _ _ (L11.1 _ _ np3 (s10 _ _ e9))⟩
    rintro σ H4 ⟨v1, v2, v3, v4, v5, rfl, e4⟩
    refine ⟨by show 3 ≤ sizeLine; decide, fun m1 hm1 => ?_⟩
    refine ⟨m1, 1, 0, 1, rfl, SqT.of upd_same, ⟨small_of (by decide) (by decide), small_of (by decide) (by decide), small_of (by decide) (by decide)⟩, fun g => ⟨fun r l H' ss s' nl hr hss hsafe hl => (not_safe hsafe).elim, fun r l H5 ps s5 nl hr hps hw hl => ?_⟩, fun ng => absurd (show GoodT 1 0 1 from ⟨⟨by decide, by decide⟩, ⟨by decide, by decide⟩, by decide, by decide⟩) ng⟩
    refine ⟨r, _, _, _, rfl, rfl, hr, rfl, rfl, _, rfl, iteY rfl ?_⟩
    refine ⟨by show 3 ≤ sizeLine; decide, fun m2 hm2 => ?_⟩
    refine ⟨m2, 9, 8, 3, rfl, SqT.of upd_same, ⟨small_of (by decide) (by decide), small_of (by decide) (by decide), small_of (by decide) (by decide)⟩, fun g => ⟨fun r l H' ss s' nl hr hss hsafe hl => ?_, fun r l H5 ps s5 nl hr hps hw hl => ?_⟩, fun ng => absurd (show GoodT 9 8 3 from ⟨⟨by decide, by decide⟩, ⟨by decide, by decide⟩, by decide, by decide⟩) ng⟩
    · refine ⟨r, _, _, _, rfl, rfl, hr, rfl, by show 2 ≤ sizeLine; decide, fun l3 hl3 => ?_⟩
      exact ⟨l3, _, rfl, .inl (SqL.of upd_same), rfl, rfl, q _⟩
    · refine ⟨r, _, _, _, rfl, rfl, hr, rfl, by show 2 ≤ sizeLine; decide, fun l3 hl3 => ?_⟩
      exact ⟨l3, _, rfl, .inl (SqL.of upd_same), rfl, rfl, q _⟩
end
end K24
namespace K24
open PySem L2 PyProof.Rows
section
variable {P : Program} {w : World} {K : PySem.W.Frag} {mg : Str → Option Value} {base : Heap} {t : Ad}
theorem law_all {f : Addr} {fd : FuncData} (T : Txt K mg t) (F : Fun K "law" "law" s_law f fd) (S_look_bounds : Site K mg "look_bounds" s_look_bounds) (S_look_model : Site K mg "look_model" s_look_model) (S_first_stand : Site K mg "first_stand" s_first_stand) (S_ages_at : Site K mg "ages_at" s_ages_at) (S_steps_from : Site K mg "steps_from" s_steps_from) (S_is_wrong : Site K mg "is_wrong" s_is_wrong) (S_shifted : Site K mg "shifted" s_shifted) (S_next_stand : Site K mg "next_stand" s_next_stand) (S_row_to : Site K mg "row_to" s_row_to) (S_shown : Site K mg "shown" s_shown) (S_keeps_inside : Site K mg "keeps_inside" s_keeps_inside) (S_fence_stands : Site K mg "fence_stands" s_fence_stands) (S_walk_of : Site K mg "walk_of" s_walk_of) (S__law_left : Site K mg "_law_left" s__law_left) (S__law_next : Site K mg "_law_next" s__law_next) (S__law_kinds : Site K mg "_law_kinds" s__law_kinds) (S__law_first : Site K mg "_law_first" s__law_first) (S__law_asked : Site K mg "_law_asked" s__law_asked) (S__law_refused : Site K mg "_law_refused" s__law_refused) (S__law_off : Site K mg "_law_off" s__law_off) (S__law_edge : Site K mg "_law_edge" s__law_edge) (S__law_edge_good : Site K mg "_law_edge_good" s__law_edge_good) : FnOk P w K mg base (CX1 P w) 9 f fd ["script"] (spLaw K) := by
  have D_look_bounds := ok_look_bounds (P := P) (w := w) (base := base) S_look_bounds T
  have D_look_model := ok_look_model S_look_model T D_look_bounds
  have D_first_stand := ok_first_stand S_first_stand T D_look_model
  have D_ages_at := ok_ages_at (P := P) (w := w) (base := base) S_ages_at T
  have D_steps_from := ok_steps_from S_steps_from T D_look_model D_ages_at
  have D__law_left := ok__law_left (P := P) (w := w) (base := base) S__law_left T
  have D__law_next := ok__law_next (P := P) (w := w) (base := base) S__law_next
  have D_is_wrong := ok_is_wrong S_is_wrong T D_look_model
  have D_shifted := ok_shifted (P := P) (w := w) (base := base) S_shifted T
  have D_next_stand := ok_next_stand S_next_stand T D_look_model D_shifted
  have D__law_first := ok__law_first (P := P) (w := w) (base := base) S__law_first
  have D_keeps_inside := ok_keeps_inside S_keeps_inside T D_steps_from D_is_wrong D_next_stand
  have D_fence_stands := ok_fence_stands S_fence_stands T D_first_stand D_keeps_inside
  have D_row_to := ok_row_to (P := P) (w := w) (base := base) S_row_to T
  have D_shown := ok_shown S_shown T D_first_stand D_steps_from D_is_wrong D_next_stand D_row_to
  have D_walk_of := ok_walk_of S_walk_of T D_first_stand D_steps_from D_is_wrong D_next_stand
  have D__law_kinds := ok__law_kinds (P := P) (w := w) (base := base) S__law_kinds T
  have D__law_asked := ok__law_asked S__law_asked T D_first_stand D_steps_from D_is_wrong D_next_stand D_fence_stands D_walk_of D_shown
  have D__law_refused := ok__law_refused S__law_refused T D__law_asked D__law_kinds
  have D__law_off := ok__law_off S__law_off T D__law_next
  have D__law_edge := ok__law_edge S__law_edge T D__law_next
  have D__law_edge_good := ok__law_edge_good S__law_edge_good T D__law_first D__law_asked
  exact law_fn T F D__law_left D__law_next D__law_off D__law_first D__law_refused D__law_edge D__law_edge_good D_shown
end
end K24
namespace K24
open PySem L2 PyProof.Rows
theorem txt_mk {K : PySem.W.Frag} {h : Heap} {mg : Str → Option Value} {a_BadCell a_BadFate a_BadHouse a_BadLetter a_BadMeasure a_BadModel a_BadName a_BadNet a_BadNews a_BadPiece a_BadSign a_BadText a_NoAsk a_NoLink a_NoStream a_PostError : Addr} {tk_cMOST_LATE tk_cMOST_PAUSE tk_cMOST_ROUND : Tok} (KX : K.In h) (G : h.Ns mainGlobals mg)
    (h_mBadCell : PySem.W.nsIn K mainGlobals "BadCell" = some (some (.ref a_BadCell)))
    (h_mBadFate : PySem.W.nsIn K mainGlobals "BadFate" = some (some (.ref a_BadFate)))
    (h_mBadHouse : PySem.W.nsIn K mainGlobals "BadHouse" = some (some (.ref a_BadHouse)))
    (h_mBadLetter : PySem.W.nsIn K mainGlobals "BadLetter" = some (some (.ref a_BadLetter)))
    (h_mBadMeasure : PySem.W.nsIn K mainGlobals "BadMeasure" = some (some (.ref a_BadMeasure)))
    (h_mBadModel : PySem.W.nsIn K mainGlobals "BadModel" = some (some (.ref a_BadModel)))
    (h_mBadName : PySem.W.nsIn K mainGlobals "BadName" = some (some (.ref a_BadName)))
    (h_mBadNet : PySem.W.nsIn K mainGlobals "BadNet" = some (some (.ref a_BadNet)))
    (h_mBadNews : PySem.W.nsIn K mainGlobals "BadNews" = some (some (.ref a_BadNews)))
    (h_mBadPiece : PySem.W.nsIn K mainGlobals "BadPiece" = some (some (.ref a_BadPiece)))
    (h_mBadSign : PySem.W.nsIn K mainGlobals "BadSign" = some (some (.ref a_BadSign)))
    (h_mBadText : PySem.W.nsIn K mainGlobals "BadText" = some (some (.ref a_BadText)))
    (h_mNoAsk : PySem.W.nsIn K mainGlobals "NoAsk" = some (some (.ref a_NoAsk)))
    (h_mNoLink : PySem.W.nsIn K mainGlobals "NoLink" = some (some (.ref a_NoLink)))
    (h_mNoStream : PySem.W.nsIn K mainGlobals "NoStream" = some (some (.ref a_NoStream)))
    (h_mPostError : PySem.W.nsIn K mainGlobals "PostError" = some (some (.ref a_PostError)))
    (h_cMOST_LATE : PySem.W.nsIn K mainGlobals "MOST_LATE" = some (some (.int 3 tk_cMOST_LATE)))
    (h_cMOST_PAUSE : PySem.W.nsIn K mainGlobals "MOST_PAUSE" = some (some (.int 8 tk_cMOST_PAUSE)))
    (h_cMOST_ROUND : PySem.W.nsIn K mainGlobals "MOST_ROUND" = some (some (.int 9 tk_cMOST_ROUND)))
    (h_n_ValueError : PySem.W.nsIn K mainGlobals "ValueError" = some none)
    (h_n_all : PySem.W.nsIn K mainGlobals "all" = some none)
    (h_n_dict : PySem.W.nsIn K mainGlobals "dict" = some none)
    (h_n_enumerate : PySem.W.nsIn K mainGlobals "enumerate" = some none)
    (h_n_isinstance : PySem.W.nsIn K mainGlobals "isinstance" = some none)
    (h_n_len : PySem.W.nsIn K mainGlobals "len" = some none)
    (h_n_list : PySem.W.nsIn K mainGlobals "list" = some none)
    (h_n_max : PySem.W.nsIn K mainGlobals "max" = some none)
    (h_n_range : PySem.W.nsIn K mainGlobals "range" = some none)
    (h_n_reversed : PySem.W.nsIn K mainGlobals "reversed" = some none)
    (h_n_tuple : PySem.W.nsIn K mainGlobals "tuple" = some none)
    (h_xBadModel : PySem.W.excIn K a_BadModel [.type "ValueError", .type "Exception", .type "BaseException", .type "object"] "ValueError.__new__" = true)
    (h_eBadModel_ga : PySem.W.findIn K (.ref a_BadModel) "__getattribute__" = some (some (.builtin "BaseException.__getattribute__")))
    (h_eBadModel_nga : PySem.W.findIn K (.ref a_BadModel) "__getattr__" = some none)
    (h_eBadModel_at_ : PySem.W.findIn K (.ref a_BadModel) "__class__" = some (some (.builtin "object.__class__")))
    (h_eBadModel_cls : PySem.W.isClsIn K a_BadModel = true)
    (h_eBadModel_obj : PySem.W.mroIn K a_BadModel (.type "object") = some true)
    (h_eBadModel_base : PySem.W.subIn K (.ref a_BadModel) (.type "BaseException") = some true)
    (h_subBadModel_PostError : PySem.W.subIn K (.ref a_BadModel) (.ref a_PostError) = some true)
    (h_oneBadModel_BadCell : PySem.W.kitOne K (.ref a_BadModel) (.ref a_BadCell) = some false)
    (h_oneBadModel_BadFate : PySem.W.kitOne K (.ref a_BadModel) (.ref a_BadFate) = some false)
    (h_oneBadModel_BadHouse : PySem.W.kitOne K (.ref a_BadModel) (.ref a_BadHouse) = some false)
    (h_oneBadModel_BadLetter : PySem.W.kitOne K (.ref a_BadModel) (.ref a_BadLetter) = some false)
    (h_oneBadModel_BadMeasure : PySem.W.kitOne K (.ref a_BadModel) (.ref a_BadMeasure) = some false)
    (h_oneBadModel_BadModel : PySem.W.kitOne K (.ref a_BadModel) (.ref a_BadModel) = some true)
    (h_oneBadModel_BadName : PySem.W.kitOne K (.ref a_BadModel) (.ref a_BadName) = some false)
    (h_oneBadModel_BadNet : PySem.W.kitOne K (.ref a_BadModel) (.ref a_BadNet) = some false)
    (h_oneBadModel_BadNews : PySem.W.kitOne K (.ref a_BadModel) (.ref a_BadNews) = some false)
    (h_oneBadModel_BadPiece : PySem.W.kitOne K (.ref a_BadModel) (.ref a_BadPiece) = some false)
    (h_oneBadModel_BadSign : PySem.W.kitOne K (.ref a_BadModel) (.ref a_BadSign) = some false)
    (h_oneBadModel_BadText : PySem.W.kitOne K (.ref a_BadModel) (.ref a_BadText) = some false)
    (h_oneBadModel_NoAsk : PySem.W.kitOne K (.ref a_BadModel) (.ref a_NoAsk) = some false)
    (h_oneBadModel_NoLink : PySem.W.kitOne K (.ref a_BadModel) (.ref a_NoLink) = some false)
    (h_oneBadModel_NoStream : PySem.W.kitOne K (.ref a_BadModel) (.ref a_NoStream) = some false)
    (h_oneBadModel_ValueError : PySem.W.kitOne K (.ref a_BadModel) (.type "ValueError") = some true)
    (h_catchPostError_ty : PySem.W.typeIn K (.ref a_PostError) = some (.type "type"))
    (h_catchPostError_cls : PySem.W.isClsIn K a_PostError = true)
    (h_catchPostError_base : PySem.W.subIn K (.ref a_PostError) (.type "BaseException") = some true)
    : ∃ t, Txt K mg t := ⟨⟨a_BadCell, a_BadFate, a_BadHouse, a_BadLetter, a_BadMeasure, a_BadModel, a_BadName, a_BadNet, a_BadNews, a_BadPiece, a_BadSign, a_BadText, a_NoAsk, a_NoLink, a_NoStream, a_PostError⟩, ⟨⟨_, PySem.W.mg_of KX G h_cMOST_LATE⟩, ⟨_, PySem.W.mg_of KX G h_cMOST_PAUSE⟩, ⟨_, PySem.W.mg_of KX G h_cMOST_ROUND⟩, PySem.W.mg_none_of KX G h_n_ValueError, PySem.W.mg_none_of KX G h_n_all, PySem.W.mg_none_of KX G h_n_dict, PySem.W.mg_none_of KX G h_n_enumerate, PySem.W.mg_none_of KX G h_n_isinstance, PySem.W.mg_none_of KX G h_n_len, PySem.W.mg_none_of KX G h_n_list, PySem.W.mg_none_of KX G h_n_max, PySem.W.mg_none_of KX G h_n_range, PySem.W.mg_none_of KX G h_n_reversed, PySem.W.mg_none_of KX G h_n_tuple, PySem.W.mg_of KX G h_mBadCell, PySem.W.mg_of KX G h_mBadFate, PySem.W.mg_of KX G h_mBadHouse, PySem.W.mg_of KX G h_mBadLetter, PySem.W.mg_of KX G h_mBadMeasure, PySem.W.mg_of KX G h_mBadModel, PySem.W.mg_of KX G h_mBadName, PySem.W.mg_of KX G h_mBadNet, PySem.W.mg_of KX G h_mBadNews, PySem.W.mg_of KX G h_mBadPiece, PySem.W.mg_of KX G h_mBadSign, PySem.W.mg_of KX G h_mBadText, PySem.W.mg_of KX G h_mNoAsk, PySem.W.mg_of KX G h_mNoLink, PySem.W.mg_of KX G h_mNoStream, PySem.W.mg_of KX G h_mPostError, h_xBadModel, ⟨h_eBadModel_ga, h_eBadModel_nga, h_eBadModel_at_, h_eBadModel_cls, h_eBadModel_obj, h_eBadModel_base⟩, h_subBadModel_PostError, h_oneBadModel_BadCell, h_oneBadModel_BadFate, h_oneBadModel_BadHouse, h_oneBadModel_BadLetter, h_oneBadModel_BadMeasure, h_oneBadModel_BadModel, h_oneBadModel_BadName, h_oneBadModel_BadNet, h_oneBadModel_BadNews, h_oneBadModel_BadPiece, h_oneBadModel_BadSign, h_oneBadModel_BadText, h_oneBadModel_NoAsk, h_oneBadModel_NoLink, h_oneBadModel_NoStream, h_oneBadModel_ValueError, ⟨h_catchPostError_ty, h_catchPostError_cls, h_catchPostError_base⟩⟩⟩
end K24
open PySem PySem.W PyProof.Rows
/-! names of quick twins that are not to be laid beside the largest states of the top: with them the built file is too large -/
def PySem.W.Fast.tw14956633278267301512 : Nat := 0
def PySem.W.Fast.tw7569081794433925194 : Nat := 0
def PySem.W.Fast.tw10605498195880169262 : Nat := 0
def PySem.W.Fast.tw18298130462763583297 : Nat := 0
def PySem.W.Fast.tw11343810906361727955 : Nat := 0
def PySem.W.Fast.tw3139290433894444730 : Nat := 0
def PySem.W.Fast.tw3543474206815528338 : Nat := 0
def PySem.W.Fast.tw11301649286321204886 : Nat := 0
def PySem.W.Fast.tw8506669413909615243 : Nat := 0
def PySem.W.Fast.tw5124271132343552825 : Nat := 0
def PySem.W.Fast.tw2925788903024867820 : Nat := 0
def PySem.W.Fast.tw4625680656230594162 : Nat := 0
def PySem.W.Fast.tw17295273855939830046 : Nat := 0
def PySem.W.Fast.tw3398944330820040209 : Nat := 0
def PySem.W.Fast.tw5447248439886242228 : Nat := 0
def PySem.W.Fast.tw16631274437136954317 : Nat := 0
def PySem.W.Fast.tw1576804111119365252 : Nat := 0
def PySem.W.Fast.tw5230969189928267728 : Nat := 0
def PySem.W.Fast.tw9250517209176484650 : Nat := 0
def PySem.W.Fast.tw7843215787707294592 : Nat := 0
def PySem.W.Fast.tw12217599394075320174 : Nat := 0
def PySem.W.Fast.tw13853158594154381842 : Nat := 0
def PySem.W.Fast.tw18358261783843809193 : Nat := 0
def PySem.W.Fast.tw12018363505253480756 : Nat := 0
def PySem.W.Fast.tw5781391588710588465 : Nat := 0
def PySem.W.Fast.tw6951367606781189795 : Nat := 0
def PySem.W.Fast.tw6586089069914023336 : Nat := 0
def PySem.W.Fast.tw6939650653489266182 : Nat := 0
def PySem.W.Fast.tw6504360462463228794 : Nat := 0
def PySem.W.Fast.tw17571733394681776610 : Nat := 0
def PySem.W.Fast.tw15952924479033542988 : Nat := 0
def PySem.W.Fast.tw8708091623804690252 : Nat := 0
def PySem.W.Fast.tw2500633665903031974 : Nat := 0
def PySem.W.Fast.tw4392896680160408506 : Nat := 0
def PySem.W.Fast.tw8700039370075423390 : Nat := 0
def PySem.W.Fast.tw1053690257009664349 : Nat := 0
def PySem.W.Fast.tw7386190019481494696 : Nat := 0
def PySem.W.Fast.tw3055584985346253713 : Nat := 0
def PySem.W.Fast.tw12241943014952043733 : Nat := 0
def PySem.W.Fast.tw3049726301207724389 : Nat := 0
def PySem.W.Fast.tw4510743954051795702 : Nat := 0
def PySem.W.Fast.tw12633781521783230132 : Nat := 0
def PySem.W.Fast.tw11520230850411315253 : Nat := 0
def PySem.W.Fast.tw5755773533035320243 : Nat := 0
def PySem.W.Fast.tw1193736422366484023 : Nat := 0
def PySem.W.Fast.tw16896975143613543919 : Nat := 0
def PySem.W.Fast.tw10990260516230938880 : Nat := 0
def PySem.W.Fast.tw10838296790405590849 : Nat := 0
def PySem.W.Fast.tw15800045823903537098 : Nat := 0
def PySem.W.Fast.tw6944291460017854577 : Nat := 0
def PySem.W.Fast.tw12653360252208211159 : Nat := 0
def PySem.W.Fast.tw10179796523813354163 : Nat := 0
def PySem.W.Fast.tw9998971110975997342 : Nat := 0
def PySem.W.Fast.tw8321761560906625644 : Nat := 0
def PySem.W.Fast.tw9186490933333569740 : Nat := 0
def PySem.W.Fast.tw16763492781427732345 : Nat := 0
def PySem.W.Fast.tw9230164188164817691 : Nat := 0
def PySem.W.Fast.tw7539122690933668972 : Nat := 0
def PySem.W.Fast.tw5826248174419010154 : Nat := 0
def PySem.W.Fast.tw102719938568452942 : Nat := 0
def PySem.W.Fast.tw12328814546357073426 : Nat := 0
def PySem.W.Fast.tw5061695009474421493 : Nat := 0
def PySem.W.Fast.tw18041704232582772721 : Nat := 0
def PySem.W.Fast.tw8991565778085189806 : Nat := 0
def PySem.W.Fast.tw15641239183986781999 : Nat := 0
def PySem.W.Fast.tw9753203185040108670 : Nat := 0
def PySem.W.Fast.tw9632324750377798635 : Nat := 0
def PySem.W.Fast.tw2032466199714162374 : Nat := 0
def PySem.W.Fast.tw7401499326238187409 : Nat := 0
def PySem.W.Fast.tw4989387416175400999 : Nat := 0
def PySem.W.Fast.tw2729031579928807805 : Nat := 0
def PySem.W.Fast.tw14583643002534313379 : Nat := 0
def PySem.W.Fast.tw16216312504977210117 : Nat := 0
def PySem.W.Fast.tw16910173821932338869 : Nat := 0
def PySem.W.Fast.tw13466408773312047444 : Nat := 0
def PySem.W.Fast.tw7337312448745186101 : Nat := 0
def PySem.W.Fast.tw13296458753916202451 : Nat := 0
def PySem.W.Fast.tw8667107733310388163 : Nat := 0
def PySem.W.Fast.tw4432096146830302730 : Nat := 0
def PySem.W.Fast.tw737569013266269760 : Nat := 0
def PySem.W.Fast.tw10937879272150560018 : Nat := 0
def PySem.W.Fast.tw1056601882655788426 : Nat := 0
def PySem.W.Fast.tw17977137705848726797 : Nat := 0
def PySem.W.Fast.tw768134327672676966 : Nat := 0
def PySem.W.Fast.tw9993689577175575770 : Nat := 0
def PySem.W.Fast.tw6041122601418162711 : Nat := 0
def PySem.W.Fast.tw4511821774650111449 : Nat := 0
def PySem.W.Fast.tw8910459980739575580 : Nat := 0
def PySem.W.Fast.tw10641884971106082531 : Nat := 0
def PySem.W.Fast.tw14248267149185301346 : Nat := 0
def PySem.W.Fast.tw14770707090387072277 : Nat := 0
def PySem.W.Fast.tw15603059724155305008 : Nat := 0
def PySem.W.Fast.tw7773435757441293483 : Nat := 0
def PySem.W.Fast.tw16617131891623754399 : Nat := 0
def PySem.W.Fast.tw4257550850738780926 : Nat := 0
def PySem.W.Fast.tw7016580151308594569 : Nat := 0
def PySem.W.Fast.tw1093126485828900186 : Nat := 0
def PySem.W.Fast.tw4418979819586886856 : Nat := 0
def PySem.W.Fast.tw8666644774159334896 : Nat := 0
def PySem.W.Fast.tw17853262191463927333 : Nat := 0
def PySem.W.Fast.tw17286014554964896120 : Nat := 0
def PySem.W.Fast.tw16872211340401748545 : Nat := 0
def PySem.W.Fast.tw10213686611364276923 : Nat := 0
def PySem.W.Fast.tw281085508916227857 : Nat := 0
def PySem.W.Fast.tw2945972329584303850 : Nat := 0
def PySem.W.Fast.tw2298530156439513029 : Nat := 0
def PySem.W.Fast.tw15100655832265967894 : Nat := 0
def PySem.W.Fast.tw14009867430331576404 : Nat := 0
def PySem.W.Fast.tw1185818151104428061 : Nat := 0
def PySem.W.Fast.tw17816287062163588980 : Nat := 0
def PySem.W.Fast.tw17535230725902272973 : Nat := 0
def PySem.W.Fast.tw12613626011842134881 : Nat := 0
def PySem.W.Fast.tw2033883492838998947 : Nat := 0
def PySem.W.Fast.tw9726047287466316834 : Nat := 0
def PySem.W.Fast.tw18046655060212953808 : Nat := 0
def PySem.W.Fast.tw17955295042074664516 : Nat := 0
def PySem.W.Fast.tw16161644355885079983 : Nat := 0
def PySem.W.Fast.tw15117710374515808283 : Nat := 0
def PySem.W.Fast.tw9165269777101851019 : Nat := 0
def PySem.W.Fast.tw8106824490252696292 : Nat := 0
def PySem.W.Fast.tw7594212472842391292 : Nat := 0
def PySem.W.Fast.tw5562409842225560611 : Nat := 0
def PySem.W.Fast.tw3705825497291413941 : Nat := 0
def PySem.W.Fast.tw2386371097737310837 : Nat := 0
def PySem.W.Fast.tw18222102880047430082 : Nat := 0
def PySem.W.Fast.tw18010112873023973438 : Nat := 0
def PySem.W.Fast.tw17977510091686572564 : Nat := 0
def PySem.W.Fast.tw17281760771564651561 : Nat := 0
def PySem.W.Fast.tw1560675380415588796 : Nat := 0
def PySem.W.Fast.tw13256957719497214394 : Nat := 0
def PySem.W.Fast.tw1061425349798933762 : Nat := 0
def PySem.W.Fast.tw8869105848720146756 : Nat := 0
def PySem.W.Fast.tw7193240054159989475 : Nat := 0
def PySem.W.Fast.tw10838972831107273595 : Nat := 0
def PySem.W.Fast.tw1364459728672600261 : Nat := 0
def PySem.W.Fast.tw17607497165271794043 : Nat := 0
def PySem.W.Fast.tw12958623475198655305 : Nat := 0
def PySem.W.Fast.tw30991812860849333 : Nat := 0
def PySem.W.Fast.tw16195077376359523984 : Nat := 0
def PySem.W.Fast.tw236331299176526942 : Nat := 0
def PySem.W.Fast.tw10303100369517392023 : Nat := 0
def PySem.W.Fast.tw1915173498553852046 : Nat := 0
def PySem.W.Fast.tw1028775651099961106 : Nat := 0
def PySem.W.Fast.tw2398118327634733592 : Nat := 0
def PySem.W.Fast.tw9205476177266477959 : Nat := 0
def PySem.W.Fast.tw1818648051810624483 : Nat := 0
def PySem.W.Fast.tw12105887013712655635 : Nat := 0
def PySem.W.Fast.tw5074971387716446082 : Nat := 0
def PySem.W.Fast.tw2915297344257640479 : Nat := 0
def PySem.W.Fast.tw17083873067541507749 : Nat := 0
def PySem.W.Fast.tw4666157200167892015 : Nat := 0
def PySem.W.Fast.tw3088300437107590082 : Nat := 0
def PySem.W.Fast.tw16158431152845659171 : Nat := 0
def PySem.W.Fast.tw1464056488279887731 : Nat := 0
def PySem.W.Fast.tw15845988037178484691 : Nat := 0
def PySem.W.Fast.tw13704228212628904462 : Nat := 0
def PySem.W.Fast.tw10015867336772950277 : Nat := 0
def PySem.W.Fast.tw15206755377804809621 : Nat := 0
def PySem.W.Fast.tw2944171505629606447 : Nat := 0
def PySem.W.Fast.tw3848289550124840538 : Nat := 0
def PySem.W.Fast.tw16190205198489117851 : Nat := 0
def PySem.W.Fast.tw14625967464438242727 : Nat := 0
def PySem.W.Fast.tw1803154956558541507 : Nat := 0
def PySem.W.Fast.tw2718703559982748207 : Nat := 0
def PySem.W.Fast.tw12746045847651181423 : Nat := 0
def PySem.W.Fast.tw2387410197909313742 : Nat := 0
def PySem.W.Fast.tw11614351553677241089 : Nat := 0
def PySem.W.Fast.tw1853488499170931281 : Nat := 0
def PySem.W.Fast.tw2856412907854520775 : Nat := 0
def PySem.W.Fast.tw15263143475670870860 : Nat := 0
def PySem.W.Fast.tw8631428229455125551 : Nat := 0
def PySem.W.Fast.tw6547371054684819561 : Nat := 0
def PySem.W.Fast.tw8903101196701031634 : Nat := 0
def PySem.W.Fast.tw9908105271929199820 : Nat := 0
def PySem.W.Fast.tw2575306125253837611 : Nat := 0
def PySem.W.Fast.tw16787514817254154062 : Nat := 0
def PySem.W.Fast.tw4024066629822898986 : Nat := 0
def PySem.W.Fast.tw10319512958191623823 : Nat := 0
def PySem.W.Fast.tw710503219471400174 : Nat := 0
def PySem.W.Fast.tw16886392744038366986 : Nat := 0
def PySem.W.Fast.tw12288186137787630396 : Nat := 0
def PySem.W.Fast.tw975118126766028495 : Nat := 0
def PySem.W.Fast.tw6930532856607012118 : Nat := 0
def PySem.W.Fast.tw18223095261109622517 : Nat := 0
def PySem.W.Fast.tw6250592033359423280 : Nat := 0
def PySem.W.Fast.tw6041964394351617603 : Nat := 0
def PySem.W.Fast.tw17687720933148289589 : Nat := 0
def PySem.W.Fast.tw12693095416918324854 : Nat := 0
def PySem.W.Fast.tw15240209817184317762 : Nat := 0
def PySem.W.Fast.tw11105646313897054581 : Nat := 0
def PySem.W.Fast.tw17808249161754405408 : Nat := 0
def PySem.W.Fast.tw11972962073379967056 : Nat := 0
def PySem.W.Fast.tw15707025652192983138 : Nat := 0
def PySem.W.Fast.tw2126995916828716211 : Nat := 0
def PySem.W.Fast.tw3346835891639692688 : Nat := 0
def PySem.W.Fast.tw15371320431142692848 : Nat := 0
def PySem.W.Fast.tw15123174882905316305 : Nat := 0
def PySem.W.Fast.tw15215617670773421758 : Nat := 0
def PySem.W.Fast.tw9937133834728569054 : Nat := 0
def PySem.W.Fast.tw6185549471600728017 : Nat := 0
def PySem.W.Fast.tw12044180398224651039 : Nat := 0
def PySem.W.Fast.tw6490809039430126049 : Nat := 0
def PySem.W.Fast.tw4622727306239379887 : Nat := 0
def PySem.W.Fast.tw4326745491925693349 : Nat := 0
def PySem.W.Fast.tw1715837162714245990 : Nat := 0
def PySem.W.Fast.tw550521296430710008 : Nat := 0
def PySem.W.Fast.tw1952708473698066939 : Nat := 0
def PySem.W.Fast.tw15858224525900615179 : Nat := 0
def PySem.W.Fast.tw15051570377197175048 : Nat := 0
def PySem.W.Fast.tw7202176762422829329 : Nat := 0
def PySem.W.Fast.tw11731053025439353371 : Nat := 0
def PySem.W.Fast.tw11517649367433787588 : Nat := 0
def PySem.W.Fast.tw7225543775361852225 : Nat := 0
def PySem.W.Fast.tw15466834104084976449 : Nat := 0
def PySem.W.Fast.tw3694177246644458759 : Nat := 0
def PySem.W.Fast.tw17948894224868654340 : Nat := 0
def PySem.W.Fast.tw14041681494220794997 : Nat := 0
def PySem.W.Fast.tw12397470874810176673 : Nat := 0
def PySem.W.Fast.tw9098472971279861674 : Nat := 0
def PySem.W.Fast.tw5555827520559189037 : Nat := 0
def PySem.W.Fast.tw1563047645826166105 : Nat := 0
def PySem.W.Fast.tw10522774907462075518 : Nat := 0
def PySem.W.Fast.tw9403979100351195419 : Nat := 0
def PySem.W.Fast.tw15788081988254046965 : Nat := 0
def PySem.W.Fast.tw9138969043749220059 : Nat := 0
def PySem.W.Fast.tw9676703112886333254 : Nat := 0
def PySem.W.Fast.tw1913025355913206010 : Nat := 0
def PySem.W.Fast.tw18189917741806222613 : Nat := 0
def PySem.W.Fast.tw16150504516842093188 : Nat := 0
def PySem.W.Fast.tw3492197774912426845 : Nat := 0
def PySem.W.Fast.tw9054537254749108334 : Nat := 0
def PySem.W.Fast.tw5923693817594394781 : Nat := 0
def PySem.W.Fast.tw5520730303664972021 : Nat := 0
def PySem.W.Fast.tw5052578311829532845 : Nat := 0
def PySem.W.Fast.tw4959595935751302708 : Nat := 0
def PySem.W.Fast.tw4660760674694209520 : Nat := 0
def PySem.W.Fast.tw4337019467726017074 : Nat := 0
def PySem.W.Fast.tw2824077274008792707 : Nat := 0
def PySem.W.Fast.tw17668913921332887660 : Nat := 0
def PySem.W.Fast.tw16992066975863929411 : Nat := 0
def PySem.W.Fast.tw15560262517633153368 : Nat := 0
def PySem.W.Fast.tw14494013719209858189 : Nat := 0
def PySem.W.Fast.tw14333162047452159904 : Nat := 0
def PySem.W.Fast.tw13536706579040689332 : Nat := 0
def PySem.W.Fast.tw1352460764490183062 : Nat := 0
def PySem.W.Fast.tw11007234731542828123 : Nat := 0
def PySem.W.Fast.tw8376710603682768765 : Nat := 0
def PySem.W.Fast.tw14241862648512496551 : Nat := 0
def PySem.W.Fast.tw3336639518467064110 : Nat := 0
def PySem.W.Fast.tw4856378351996288420 : Nat := 0
def PySem.W.Fast.tw5573918284978543805 : Nat := 0
def PySem.W.Fast.tw11936614281075362208 : Nat := 0
def PySem.W.Fast.tw17177848579398961256 : Nat := 0
def PySem.W.Fast.tw16678399836834006650 : Nat := 0
def PySem.W.Fast.tw9444499248688372231 : Nat := 0
def PySem.W.Fast.tw9652656768678575076 : Nat := 0
def PySem.W.Fast.tw9430181871318369240 : Nat := 0
def PySem.W.Fast.tw9153114120486077113 : Nat := 0
def PySem.W.Fast.tw5018946680619513088 : Nat := 0
def PySem.W.Fast.tw4095661353858276745 : Nat := 0
def PySem.W.Fast.tw3900086280585769449 : Nat := 0
def PySem.W.Fast.tw3827091952855119091 : Nat := 0
def PySem.W.Fast.tw3684015586156370371 : Nat := 0
def PySem.W.Fast.tw3273653832011545306 : Nat := 0
def PySem.W.Fast.tw2738256234315239097 : Nat := 0
def PySem.W.Fast.tw2468470146224568780 : Nat := 0
def PySem.W.Fast.tw16529570856872582368 : Nat := 0
def PySem.W.Fast.tw14609282633734468834 : Nat := 0
def PySem.W.Fast.tw12767188928501341715 : Nat := 0
def PySem.W.Fast.tw12756319151902486173 : Nat := 0
def PySem.W.Fast.tw10159619285412364282 : Nat := 0
def PySem.W.Fast.tw9333992893347279650 : Nat := 0
def PySem.W.Fast.tw7322805115328638123 : Nat := 0
def PySem.W.Fast.tw7105762373665458862 : Nat := 0
def PySem.W.Fast.tw7099347993532372641 : Nat := 0
def PySem.W.Fast.tw5434448876676002211 : Nat := 0
def PySem.W.Fast.tw3493334928518098097 : Nat := 0
def PySem.W.Fast.tw2957969561524420197 : Nat := 0
def PySem.W.Fast.tw2858759349974874239 : Nat := 0
def PySem.W.Fast.tw1902548852337823482 : Nat := 0
def PySem.W.Fast.tw17965693745295818397 : Nat := 0
def PySem.W.Fast.tw15903554621770016793 : Nat := 0
def PySem.W.Fast.tw14228754435174061372 : Nat := 0
def PySem.W.Fast.tw1128457826328272065 : Nat := 0
def PySem.W.Fast.tw11059769046683580099 : Nat := 0
def PySem.W.Fast.tw11055715570328030452 : Nat := 0
def PySem.W.Fast.tw10645653881777426887 : Nat := 0
def PySem.W.Fast.tw1021948146051149622 : Nat := 0
set_option maxRecDepth 100000 in
set_option maxHeartbeats 0 in
theorem PySem.Challenge.cw_stormpost_k24_models_refused_holds : PySem.Challenge.rw_stormpost_k24_models_refused.Holds := by
  w_on; o_law; k_head; (case hw => w_witness2)
  k_fill
  refine L2.walk_ofS (l := PySem.Challenge.rw_stormpost_k24_models_refused) (k := 9) ⟨rfl, by decide, by decide⟩ rfl rfl (fun w h Y => PySem.W.kIn_of Y) ?F
  case F =>
    intro w mg fa h KX G hmg
    have S_look_bounds : L2.Site (L2.KOf KX) mg "look_bounds" K24.s_look_bounds := by
      dsimp only [L2.KOf]
      refine' L2.Site.mk' KX G ?a ?l ?c ?k
      (case a => k_is); (case l => k_is); (case c => k_is); (case k => k_is)
    have S_look_model : L2.Site (L2.KOf KX) mg "look_model" K24.s_look_model := by
      dsimp only [L2.KOf]
      refine' L2.Site.mk' KX G ?a ?l ?c ?k
      (case a => k_is); (case l => k_is); (case c => k_is); (case k => k_is)
    have S_first_stand : L2.Site (L2.KOf KX) mg "first_stand" K24.s_first_stand := by
      dsimp only [L2.KOf]
      refine' L2.Site.mk' KX G ?a ?l ?c ?k
      (case a => k_is); (case l => k_is); (case c => k_is); (case k => k_is)
    have S_ages_at : L2.Site (L2.KOf KX) mg "ages_at" K24.s_ages_at := by
      dsimp only [L2.KOf]
      refine' L2.Site.mk' KX G ?a ?l ?c ?k
      (case a => k_is); (case l => k_is); (case c => k_is); (case k => k_is)
    have S_steps_from : L2.Site (L2.KOf KX) mg "steps_from" K24.s_steps_from := by
      dsimp only [L2.KOf]
      refine' L2.Site.mk' KX G ?a ?l ?c ?k
      (case a => k_is); (case l => k_is); (case c => k_is); (case k => k_is)
    have S_is_wrong : L2.Site (L2.KOf KX) mg "is_wrong" K24.s_is_wrong := by
      dsimp only [L2.KOf]
      refine' L2.Site.mk' KX G ?a ?l ?c ?k
      (case a => k_is); (case l => k_is); (case c => k_is); (case k => k_is)
    have S_shifted : L2.Site (L2.KOf KX) mg "shifted" K24.s_shifted := by
      dsimp only [L2.KOf]
      refine' L2.Site.mk' KX G ?a ?l ?c ?k
      (case a => k_is); (case l => k_is); (case c => k_is); (case k => k_is)
    have S_next_stand : L2.Site (L2.KOf KX) mg "next_stand" K24.s_next_stand := by
      dsimp only [L2.KOf]
      refine' L2.Site.mk' KX G ?a ?l ?c ?k
      (case a => k_is); (case l => k_is); (case c => k_is); (case k => k_is)
    have S_row_to : L2.Site (L2.KOf KX) mg "row_to" K24.s_row_to := by
      dsimp only [L2.KOf]
      refine' L2.Site.mk' KX G ?a ?l ?c ?k
      (case a => k_is); (case l => k_is); (case c => k_is); (case k => k_is)
    have S_shown : L2.Site (L2.KOf KX) mg "shown" K24.s_shown := by
      dsimp only [L2.KOf]
      refine' L2.Site.mk' KX G ?a ?l ?c ?k
      (case a => k_is); (case l => k_is); (case c => k_is); (case k => k_is)
    have S_keeps_inside : L2.Site (L2.KOf KX) mg "keeps_inside" K24.s_keeps_inside := by
      dsimp only [L2.KOf]
      refine' L2.Site.mk' KX G ?a ?l ?c ?k
      (case a => k_is); (case l => k_is); (case c => k_is); (case k => k_is)
    have S_fence_stands : L2.Site (L2.KOf KX) mg "fence_stands" K24.s_fence_stands := by
      dsimp only [L2.KOf]
      refine' L2.Site.mk' KX G ?a ?l ?c ?k
      (case a => k_is); (case l => k_is); (case c => k_is); (case k => k_is)
    have S_walk_of : L2.Site (L2.KOf KX) mg "walk_of" K24.s_walk_of := by
      dsimp only [L2.KOf]
      refine' L2.Site.mk' KX G ?a ?l ?c ?k
      (case a => k_is); (case l => k_is); (case c => k_is); (case k => k_is)
    have S__law_left : L2.Site (L2.KOf KX) mg "_law_left" K24.s__law_left := by
      dsimp only [L2.KOf]
      refine' L2.Site.mk' KX G ?a ?l ?c ?k
      (case a => k_is); (case l => k_is); (case c => k_is); (case k => k_is)
    have S__law_next : L2.Site (L2.KOf KX) mg "_law_next" K24.s__law_next := by
      dsimp only [L2.KOf]
      refine' L2.Site.mk' KX G ?a ?l ?c ?k
      (case a => k_is); (case l => k_is); (case c => k_is); (case k => k_is)
    have S__law_kinds : L2.Site (L2.KOf KX) mg "_law_kinds" K24.s__law_kinds := by
      dsimp only [L2.KOf]
      refine' L2.Site.mk' KX G ?a ?l ?c ?k
      (case a => k_is); (case l => k_is); (case c => k_is); (case k => k_is)
    have S__law_first : L2.Site (L2.KOf KX) mg "_law_first" K24.s__law_first := by
      dsimp only [L2.KOf]
      refine' L2.Site.mk' KX G ?a ?l ?c ?k
      (case a => k_is); (case l => k_is); (case c => k_is); (case k => k_is)
    have S__law_asked : L2.Site (L2.KOf KX) mg "_law_asked" K24.s__law_asked := by
      dsimp only [L2.KOf]
      refine' L2.Site.mk' KX G ?a ?l ?c ?k
      (case a => k_is); (case l => k_is); (case c => k_is); (case k => k_is)
    have S__law_refused : L2.Site (L2.KOf KX) mg "_law_refused" K24.s__law_refused := by
      dsimp only [L2.KOf]
      refine' L2.Site.mk' KX G ?a ?l ?c ?k
      (case a => k_is); (case l => k_is); (case c => k_is); (case k => k_is)
    have S__law_off : L2.Site (L2.KOf KX) mg "_law_off" K24.s__law_off := by
      dsimp only [L2.KOf]
      refine' L2.Site.mk' KX G ?a ?l ?c ?k
      (case a => k_is); (case l => k_is); (case c => k_is); (case k => k_is)
    have S__law_edge : L2.Site (L2.KOf KX) mg "_law_edge" K24.s__law_edge := by
      dsimp only [L2.KOf]
      refine' L2.Site.mk' KX G ?a ?l ?c ?k
      (case a => k_is); (case l => k_is); (case c => k_is); (case k => k_is)
    have S__law_edge_good : L2.Site (L2.KOf KX) mg "_law_edge_good" K24.s__law_edge_good := by
      dsimp only [L2.KOf]
      refine' L2.Site.mk' KX G ?a ?l ?c ?k
      (case a => k_is); (case l => k_is); (case c => k_is); (case k => k_is)
    have S_law : L2.Site (L2.KOf KX) mg "law" K24.s_law := by
      dsimp only [L2.KOf]
      refine' L2.Site.mk' KX G ?a ?l ?c ?k
      (case a => k_is); (case l => k_is); (case c => k_is); (case k => k_is)
    have T : ∃ t, K24.Txt (L2.KOf KX) mg t := by
      dsimp only [L2.KOf]
      refine' K24.txt_mk KX G ?h_mBadCell ?h_mBadFate ?h_mBadHouse ?h_mBadLetter ?h_mBadMeasure ?h_mBadModel ?h_mBadName ?h_mBadNet ?h_mBadNews ?h_mBadPiece ?h_mBadSign ?h_mBadText ?h_mNoAsk ?h_mNoLink ?h_mNoStream ?h_mPostError ?h_cMOST_LATE ?h_cMOST_PAUSE ?h_cMOST_ROUND ?h_n_ValueError ?h_n_all ?h_n_dict ?h_n_enumerate ?h_n_isinstance ?h_n_len ?h_n_list ?h_n_max ?h_n_range ?h_n_reversed ?h_n_tuple ?h_xBadModel ?h_eBadModel_ga ?h_eBadModel_nga ?h_eBadModel_at_ ?h_eBadModel_cls ?h_eBadModel_obj ?h_eBadModel_base ?h_subBadModel_PostError ?h_oneBadModel_BadCell ?h_oneBadModel_BadFate ?h_oneBadModel_BadHouse ?h_oneBadModel_BadLetter ?h_oneBadModel_BadMeasure ?h_oneBadModel_BadModel ?h_oneBadModel_BadName ?h_oneBadModel_BadNet ?h_oneBadModel_BadNews ?h_oneBadModel_BadPiece ?h_oneBadModel_BadSign ?h_oneBadModel_BadText ?h_oneBadModel_NoAsk ?h_oneBadModel_NoLink ?h_oneBadModel_NoStream ?h_oneBadModel_ValueError ?h_catchPostError_ty ?h_catchPostError_cls ?h_catchPostError_base
      (case h_mBadCell => k_is)
      (case h_mBadFate => k_is)
      (case h_mBadHouse => k_is)
      (case h_mBadLetter => k_is)
      (case h_mBadMeasure => k_is)
      (case h_mBadModel => k_is)
      (case h_mBadName => k_is)
      (case h_mBadNet => k_is)
      (case h_mBadNews => k_is)
      (case h_mBadPiece => k_is)
      (case h_mBadSign => k_is)
      (case h_mBadText => k_is)
      (case h_mNoAsk => k_is)
      (case h_mNoLink => k_is)
      (case h_mNoStream => k_is)
      (case h_mPostError => k_is)
      (case h_cMOST_LATE => k_is)
      (case h_cMOST_PAUSE => k_is)
      (case h_cMOST_ROUND => k_is)
      (case h_n_ValueError => k_is)
      (case h_n_all => k_is)
      (case h_n_dict => k_is)
      (case h_n_enumerate => k_is)
      (case h_n_isinstance => k_is)
      (case h_n_len => k_is)
      (case h_n_list => k_is)
      (case h_n_max => k_is)
      (case h_n_range => k_is)
      (case h_n_reversed => k_is)
      (case h_n_tuple => k_is)
      (case h_xBadModel => k_exc)
      (case h_eBadModel_ga => k_is)
      (case h_eBadModel_nga => k_is)
      (case h_eBadModel_at_ => k_is)
      (case h_eBadModel_cls => k_is)
      (case h_eBadModel_obj => k_is)
      (case h_eBadModel_base => k_is)
      (case h_subBadModel_PostError => k_is)
      (case h_oneBadModel_BadCell => kit_is)
      (case h_oneBadModel_BadFate => kit_is)
      (case h_oneBadModel_BadHouse => kit_is)
      (case h_oneBadModel_BadLetter => kit_is)
      (case h_oneBadModel_BadMeasure => kit_is)
      (case h_oneBadModel_BadModel => kit_is)
      (case h_oneBadModel_BadName => kit_is)
      (case h_oneBadModel_BadNet => kit_is)
      (case h_oneBadModel_BadNews => kit_is)
      (case h_oneBadModel_BadPiece => kit_is)
      (case h_oneBadModel_BadSign => kit_is)
      (case h_oneBadModel_BadText => kit_is)
      (case h_oneBadModel_NoAsk => kit_is)
      (case h_oneBadModel_NoLink => kit_is)
      (case h_oneBadModel_NoStream => kit_is)
      (case h_oneBadModel_ValueError => kit_is)
      (case h_catchPostError_ty => k_is)
      (case h_catchPostError_cls => k_is)
      (case h_catchPostError_base => k_is)
    obtain ⟨t, T⟩ := T
    exact L2.law_site S_law (fun _ _ _ _ _ _ us hl => match us, hl with | [_], _ => rfl) hmg fun f fd base F => K24.law_all T F S_look_bounds S_look_model S_first_stand S_ages_at S_steps_from S_is_wrong S_shifted S_next_stand S_row_to S_shown S_keeps_inside S_fence_stands S_walk_of S__law_left S__law_next S__law_kinds S__law_first S__law_asked S__law_refused S__law_off S__law_edge S__law_edge_good
#print axioms PySem.Challenge.cw_stormpost_k24_models_refused_holds
