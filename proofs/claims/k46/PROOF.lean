import PyProof.Rows.All
import Wide.All
import OpenK.AllK
import Wide.FinOn
import Lean
import PyProof.EqAt
import PyProof.EqKinds
import PyProof.TupleCall
import PySem.Challenge.RW_stormpost_k46_news_as_bodies
set_option Elab.async false
set_option linter.all false
set_option maxRecDepth 100000
/-! THE HAND LAYER, for ints, bools, texts, own classes, LISTS and tuples (index, slices, in, append, pop ..), calls, loops. Paste it whole ahead of your own text; what your proof does not reach may be deleted. -/
namespace L2
open PySem PySem.Spec PyProof.Rows

/-- a key: an int or a str -/
abbrev Key := Sum Int Str
def keyIs : Key → Value → Bool
  | .inl k, v => Value.isInt k v
  | .inr x, v => Value.isStrOf x v
def keyH (w : World) : Key → Int
  | .inl k => hashInt k
  | .inr x => hashStr w x
theorem keyIs_shape : ∀ {k : Key} {v : Value}, keyIs k v = true → (∃ i t, k = Sum.inl i ∧ v = Value.int i t) ∨ (∃ x t, k = Sum.inr x ∧ v = Value.str x t)
  | .inl i, v, h => by
    obtain ⟨t, e⟩ := Value.isInt_shape (k := i) (v := v) h
    exact .inl ⟨i, t, rfl, e⟩
  | .inr x, v, h => by
    obtain ⟨t, e⟩ := Value.isStrOf_shape (x := x) (v := v) h
    exact .inr ⟨x, t, rfl, e⟩
theorem keyIs_int (i : Int) (t : Tok) : keyIs (.inl i) (.int i t) = true := by simp [keyIs, Value.isInt]
theorem keyIs_str (x : Str) (t : Tok) : keyIs (.inr x) (.str x t) = true := by simp [keyIs, Value.isStrOf]
theorem key_ll (a b : Int) : decide ((Sum.inl a : Key) = Sum.inl b) = (a == b) := by
  by_cases e : a = b
  · subst e; simp
  · have h : ¬ (Sum.inl a : Key) = Sum.inl b := fun q => e (Sum.inl.inj q)
    rw [decide_eq_false h]
    exact (beq_eq_false_iff_ne.mpr e).symm
theorem key_rr (a b : Str) : decide ((Sum.inr a : Key) = Sum.inr b) = decide (a = b) := by
  by_cases e : a = b
  · subst e; simp
  · have h : ¬ (Sum.inr a : Key) = Sum.inr b := fun q => e (Sum.inr.inj q)
    rw [decide_eq_false h, decide_eq_false e]
theorem key_lr (a : Int) (b : Str) : decide ((Sum.inl a : Key) = Sum.inr b) = false := decide_eq_false (fun q => nomatch q)
theorem key_rl (a : Str) (b : Int) : decide ((Sum.inr a : Key) = Sum.inl b) = false := decide_eq_false (fun q => nomatch q)

def mixKind (prog : Program) (w : World) : PySem.KeyKind prog w Key where
  is := keyIs
  hash := keyH w
  inj := fun v a b ha hb => by
    rcases keyIs_shape ha with ⟨i, t, rfl, rfl⟩ | ⟨x, t, rfl, rfl⟩
    · rcases keyIs_shape hb with ⟨j, u, rfl, e⟩ | ⟨y, u, rfl, e⟩
      · injection e with e1 _; rw [e1]
      · exact nomatch e
    · rcases keyIs_shape hb with ⟨j, u, rfl, e⟩ | ⟨y, u, rfl, e⟩
      · exact nomatch e
      · injection e with e1 _; rw [e1]
  byValue := fun k v h => by
    rcases keyIs_shape h with ⟨i, t, rfl, rfl⟩ | ⟨x, t, rfl, rfl⟩ <;> rfl
  pyHash := fun hv h => by
    rcases keyIs_shape hv with ⟨i, t, rfl, rfl⟩ | ⟨x, t, rfl, rfl⟩
    · exact wpAny_pyHash_int h
    · exact wpAny_pyHash_str h
  eqBool := fun hu hv h => by
    rcases keyIs_shape hu with ⟨i, t, rfl, rfl⟩ | ⟨x, t, rfl, rfl⟩
    · rcases keyIs_shape hv with ⟨j, u, rfl, rfl⟩ | ⟨y, u, rfl, rfl⟩
      · rw [key_ll] at h; exact wpAny_eqBool_int h
      · rw [key_lr] at h; exact SeqAt.EqAt.int_str i t y u _ _ _ _ h
    · rcases keyIs_shape hv with ⟨j, u, rfl, rfl⟩ | ⟨y, u, rfl, rfl⟩
      · rw [key_rl] at h; exact SeqAt.EqAt.str_int x t j u _ _ _ _ h
      · rw [key_rr] at h; exact wpAny_eqBool_str h
  «strs» := fun k x t v h => by
    rcases keyIs_shape h with ⟨i, u, rfl, e⟩ | ⟨y, u, rfl, e⟩
    · exact nomatch e
    · injection e with e1 _
      subst e1
      cases v <;> rfl

theorem mixKind_int (prog : Program) (w : World) (i : Int) (t : Tok) : (mixKind prog w).is (.inl i) (.int i t) = true := keyIs_int i t
theorem mixKind_str (prog : Program) (w : World) (x : Str) (t : Tok) : (mixKind prog w).is (.inr x) (.str x t) = true := keyIs_str x t
end L2

namespace L2
open PySem PySem.Spec PyProof.Rows

/-- a value, without the heap -/
inductive V where
  | non | bl (b : Bool) | int (i : Int) | str (x : Str) | byt (b : Array UInt8) | flt (b : UInt64) | ref (a : Addr) | ty (n : String)
  deriving DecidableEq

def RelV : V → Value → Prop
  | .non, u => u = Value.none
  | .bl b, u => u = Value.bool b
  | .int i, u => ∃ t, u = Value.int i t
  | .str x, u => ∃ t, u = Value.str x t
  | .byt b, u => ∃ t, u = Value.bytes b t
  | .flt b, u => ∃ t, u = Value.float b t
  | .ref a, u => u = Value.ref a
  | .ty n, u => u = Value.type n

abbrev Vals : List V → List Value → Prop := Paired RelV
theorem Vals.length {xs : List V} {us : List Value} (r : Vals xs us) : xs.length = us.length := Paired.length r
theorem Vals.get : ∀ {xs : List V} {us : List Value} {i : Nat} {x : V}, Vals xs us → xs[i]? = some x → ∃ u, us[i]? = some u ∧ RelV x u
  | _, _, _, _, .nil, e => by simp at e
  | _, _, 0, _, .cons r _, e => by simp at e; subst e; exact ⟨_, rfl, r⟩
  | _, _, i + 1, x, .cons _ t, e => by
    obtain ⟨u, h1, h2⟩ := Vals.get (i := i) (x := x) t (by simpa using e)
    exact ⟨u, by simpa using h1, h2⟩
theorem Vals.set {x : V} {u : Value} (r : RelV x u) : ∀ {xs : List V} {us : List Value} (i : Nat), Vals xs us → Vals (xs.set i x) (us.set i u)
  | _, _, _, .nil => .nil
  | _, _, 0, .cons _ t => .cons r t
  | _, _, i + 1, .cons q t => .cons q (Vals.set r i t)
theorem Vals.append : ∀ {xs ys : List V} {us ws : List Value}, Vals xs us → Vals ys ws → Vals (xs ++ ys) (us ++ ws)
  | _, _, _, _, .nil, s => s
  | _, _, _, _, .cons r t, s => .cons r (Vals.append t s)
theorem Vals.take : ∀ {xs : List V} {us : List Value} (n : Nat), Vals xs us → Vals (xs.take n) (us.take n)
  | _, _, 0, _ => .nil
  | _, _, _ + 1, .nil => .nil
  | _, _, n + 1, .cons r t => .cons r (Vals.take n t)
theorem Vals.drop : ∀ {xs : List V} {us : List Value} (n : Nat), Vals xs us → Vals (xs.drop n) (us.drop n)
  | _, _, 0, r => r
  | _, _, _ + 1, .nil => .nil
  | _, _, n + 1, .cons _ t => Vals.drop n t
def RelO : Option V → Option Value → Prop
  | some v, some u => RelV v u
  | none, none => True
  | _, _ => False
def KV {κ : Type} : List (κ × V) → List (κ × Value) → Prop := Paired fun (p : κ × V) (q : κ × Value) => p.1 = q.1 ∧ RelV p.2 q.2

/-- a key of a dict (00_mix): an int or a text -/
def kV : Key → V
  | .inl i => .int i
  | .inr x => .str x

/-- what stands at a tracked address -/
inductive HO where
  /-- a list -/
  | lst (xs : List V)
  /-- a tuple (never changes) -/
  | tup (xs : List V)
  /-- a dict whose keys are ints and texts; one whose keys are tuples of ints and texts (the empty one is both) -/
  | dK (kvs : List (Key × V)) | dT (kvs : List (List Key × V))
  /-- a set of ints: its members, its size -/
  | set (S : Int → Bool) (n : Nat)
  /-- an instance of the class at C, its dict at dx, its attributes -/
  | ins (C dx : Addr) (fs : List (Str × V))
  /-- the dict of the instance at x -/
  | own (x : Addr)
  /-- the dict of an exception -/
  | xd (fs : List (Str × V))
  /-- a bound method, f of x -/
  | met (f x : Addr)
  /-- a range object lo, lo + 1, .. below hi -/
  | rng (lo hi : Int)
  /-- a thing that is known to the object (the script; a dict while a loop walks it): read, never written while it is so -/
  | frz (o : Obj) (u : HO)
  /-- a code object's table -/
  | tbl (ps : Array Value)
  /-- any other thing, by what is true of its one object (a def of one's own: SetO a S n := HO.ext fun h => ..) -/
  | ext (φ : Heap → Prop)

abbrev Hp := Addr → Option HO
def upd (H : Hp) (a : Addr) (o : HO) : Hp := fun b => if b = a then some o else H b
theorem upd_same {H : Hp} {a : Addr} {o : HO} : upd H a o a = some o := by unfold upd; rw [if_pos rfl]
theorem upd_ne {H : Hp} {a b : Addr} {o : HO} (h : b ≠ a) : upd H a o b = H b := by unfold upd; rw [if_neg h]
theorem ne_of_none {H : Hp} {a b : Addr} {o : HO} (h : H a = some o) (h' : H b = none) : a ≠ b := by
  intro e; subst e; rw [h] at h'; cases h'

section
variable (P : Program) (w : World)
def ObjOk (H : Hp) (h : Heap) (a : Addr) : HO → Prop
  | .lst xs => xs.length ≤ sizeLine ∧ ∃ (its : List Value) (n : Nat), Vals xs its ∧ h.get? a = some { cls := .type "list", data := .seq its.toArray n }
  | .tup xs => xs.length ≤ sizeLine ∧ ∃ its : List Value, Vals xs its ∧ IsTup h a its.toArray
  | .dK kvs => kvs.length ≤ sizeLine ∧ (a == sysModules) = false ∧ ∃ vs, KV kvs vs ∧ h.DictOf (mixKind P w) a vs
  | .dT kvs => kvs.length ≤ sizeLine ∧ (a == sysModules) = false ∧ ∃ xs : List (List Key × Addr × Value),
      Paired (fun (p : List Key × V) (q : List Key × Addr × Value) => p.1 = q.1 ∧ H q.2.1 = some (.tup (p.1.map kV)) ∧ RelV p.2 q.2.2) kvs xs ∧
      ∃ o es ep, h.get? a = some o ∧ o.ExactDict ∧ o.data = .dict es ep ∧ es.toList = xs.map (entryOfKey (tupleKind (mixKind P w))) ∧ (xs.map (·.1)).Nodup
  | .set S n => h.SetOf (intKind P w) a S n
  | .ins C dx fs => H dx = some (.own a) ∧ fs.length ≤ 1000 ∧ dx ≠ a ∧ h.get? a = some (PySem.W.instObj C dx) ∧
      ∃ mA, h.Ns1 dx mA ∧ (∀ f, RelO (fs.lookup f) (mA f)) ∧ PySem.Within mA (fs.map (·.1))
  | .own _ => ∃ o, h.get? a = some o
  | .xd fs => ∃ mA, h.Ns1 a mA ∧ ∀ f, RelO (fs.lookup f) (mA f)
  | .rng lo hi => ∃ t u v, h.get? a = some { cls := .type "range", data := .fields #[.int lo t, .int hi u, .int 1 v] }
  | .frz o u => h.get? a = some o ∧ ObjOk H h a u
  | .tbl ps => h.get? a = some { cls := .none, data := .fields ps }
  | .met f x => h.get? a = some (PySem.W.methodObj (.ref f) (.ref x))
  | .ext φ => φ h ∧ (∃ o, h.get? a = some o) ∧ ∀ h1 h2 : Heap, φ h1 → (∀ o, h1.get? a = some o → h2.get? a = some o) → φ h2
/-- the abstract heap is held -/
def HOk (H : Hp) (h : Heap) : Prop := ∀ a o, H a = some o → ObjOk P w H h a o
end

section
variable {P : Program} {w : World} {H H' : Hp} {h h' : Heap} {a : Addr} {o : HO}
theorem ObjOk.lt (x : ObjOk P w H h a o) : a < h.objs.size := by
  cases o with
  | lst xs => obtain ⟨_, _, _, _, e⟩ := x; exact Heap.lt_size e
  | tup xs => obtain ⟨_, _, _, p⟩ := x; exact p.lt
  | dK kvs => obtain ⟨_, _, _, _, o, _, _, e, _⟩ := x; exact Heap.lt_size e
  | dT kvs => obtain ⟨_, _, _, _, o, _, _, e, _⟩ := x; exact Heap.lt_size e
  | set S n => obtain ⟨o, _, _, _, e, _⟩ := x; exact Heap.lt_size e
  | ins C dx fs => obtain ⟨_, _, _, e, _⟩ := x; exact Heap.lt_size e
  | own y => obtain ⟨_, e⟩ := x; exact Heap.lt_size e
  | xd fs => obtain ⟨_, ⟨_, _, _, e, _⟩, _⟩ := x; exact Heap.lt_size e
  | rng lo hi => obtain ⟨_, _, _, e⟩ := x; exact Heap.lt_size e
  | frz ob u => obtain ⟨e, _⟩ := x; exact Heap.lt_size e
  | tbl ps => exact Heap.lt_size (show h.get? a = some _ from x)
  | met f y => exact Heap.lt_size (show h.get? a = some _ from x)
  | ext φ => obtain ⟨_, ⟨_, e⟩, _⟩ := x; exact Heap.lt_size e
theorem Paired.mapP {α β : Type} {F G : α → β → Prop} : ∀ {l₁ : List α} {l₂ : List β}, Paired F l₁ l₂ → (∀ a b, F a b → G a b) → Paired G l₁ l₂
  | _, _, .nil, _ => .nil
  | _, _, .cons r t, f => .cons (f _ _ r) (Paired.mapP t f)
/-- what an object's description leans on: its own object, its own dict, the tuples -/
theorem ObjOk.stay (x : ObjOk P w H h a o) (k : ∀ b u, (b = a ∨ H b = some (.own a)) → h.get? b = some u → h'.get? b = some u)
    (ho : ∀ b, H b = some (.own a) → H' b = some (.own a)) (ht : ∀ b xs, H b = some (.tup xs) → H' b = some (.tup xs)) : ObjOk P w H' h' a o := by
  induction o with
  | lst xs => obtain ⟨z, its, n, r, e⟩ := x; exact ⟨z, its, n, r, k _ _ (.inl rfl) e⟩
  | tup xs => obtain ⟨z, its, r, ob, e, c⟩ := x; exact ⟨z, its, r, ob, k _ _ (.inl rfl) e, c⟩
  | dK kvs => obtain ⟨z, y, vs, r, ob, es, ep, e, c⟩ := x; exact ⟨z, y, vs, r, ob, es, ep, k _ _ (.inl rfl) e, c⟩
  | dT kvs =>
    obtain ⟨z, y, xs, r, ob, es, ep, e, c⟩ := x
    exact ⟨z, y, xs, Paired.mapP r fun p q z => ⟨z.1, ht _ _ z.2.1, z.2.2⟩, ob, es, ep, k _ _ (.inl rfl) e, c⟩
  | set S n => obtain ⟨ob, es, ep, t, e, c⟩ := x; exact ⟨ob, es, ep, t, k _ _ (.inl rfl) e, c⟩
  | ins C dx fs =>
    obtain ⟨d, z, ne, e, mA, ⟨od, es, ep, e2, c⟩, r⟩ := x
    exact ⟨ho _ d, z, ne, k _ _ (.inl rfl) e, mA, ⟨od, es, ep, k _ _ (.inr d) e2, c⟩, r⟩
  | own y => obtain ⟨ob, e⟩ := x; exact ⟨ob, k _ _ (.inl rfl) e⟩
  | xd fs => obtain ⟨mA, ⟨od, es, ep, e, c⟩, r⟩ := x; exact ⟨mA, ⟨od, es, ep, k _ _ (.inl rfl) e, c⟩, r⟩
  | rng lo hi => obtain ⟨t, u, v, e⟩ := x; exact ⟨t, u, v, k _ _ (.inl rfl) e⟩
  | frz ob u ih => obtain ⟨e, q⟩ := x; exact ⟨k _ _ (.inl rfl) e, ih q⟩
  | tbl ps =>
    have e : h.get? a = some { cls := .none, data := .fields ps } := x
    show h'.get? a = some { cls := .none, data := .fields ps }
    exact k a _ (.inl rfl) e
  | met f y =>
    have e : h.get? a = some (PySem.W.methodObj (.ref f) (.ref y)) := x
    show h'.get? a = some (PySem.W.methodObj (.ref f) (.ref y))
    exact k a _ (.inl rfl) e
  | ext φ => obtain ⟨p, ⟨o, e⟩, st⟩ := x; exact ⟨st _ _ p fun o q => k _ _ (.inl rfl) q, ⟨o, k _ _ (.inl rfl) e⟩, st⟩
theorem HOk.lt (x : HOk P w H h) (e : H a = some o) : a < h.objs.size := (x a o e).lt
theorem HOk.fresh (x : HOk P w H h) (e : h.objs.size ≤ a) : H a = none := by
  cases q : H a with
  | none => rfl
  | some u => exact absurd (Nat.lt_of_lt_of_le (x.lt q) e) (Nat.lt_irrefl _)
/-- every object of the heap is kept -/
theorem HOk.kept (x : HOk P w H h) (k : ∀ b u, h.get? b = some u → h'.get? b = some u) : HOk P w H h' := fun a o e =>
  (x a o e).stay (fun b u _ q => k b u q) (fun _ q => q) fun _ _ q => q
/-- a new object is laid and tracked -/
theorem HOk.laid (x : HOk P w H h) (k : ∀ b u, h.get? b = some u → h'.get? b = some u) (hp : h.objs.size ≤ a) (new : ObjOk P w (upd H a o) h' a o) : HOk P w (upd H a o) h' := fun b u e => by
  have hn := x.fresh hp
  by_cases hb : b = a
  · subst hb; rw [upd_same] at e; cases e; exact new
  · rw [upd_ne hb] at e
    exact (x b u e).stay (fun c v _ q => k c v q) (fun c q => by rw [upd_ne (ne_of_none q hn)]; exact q) fun c xs q => by rw [upd_ne (ne_of_none q hn)]; exact q
end

/-- what may be read as u: it is u, or a known u -/
def Rd (H : Hp) (a : Addr) (u : HO) : Prop := H a = some u ∨ ∃ o, H a = some (.frz o u)
theorem Rd.of {H : Hp} {a : Addr} {u : HO} (h : H a = some u) : Rd H a u := .inl h
theorem Rd.ok {P : Program} {w : World} {H : Hp} {h : Heap} {a : Addr} {u : HO} (r : Rd H a u) (x : HOk P w H h) : ObjOk P w H h a u := by
  rcases r with r | ⟨o, r⟩
  · exact x a u r
  · obtain ⟨_, q⟩ := x a _ r
    exact q
/-- what may be written -/
def Mut : Option HO → Prop
  | some (.lst _) => True
  | some (.dK _) => True
  | some (.dT _) => True
  | some (.set _ _) => True
  | some (.ins _ _ _) => True
  | some (.ext _) => True
  | _ => False
section
variable {P : Program} {w : World} {H : Hp} {h h' : Heap} {x e : Addr} {o' : HO}
/-- the object at e is changed: x itself, or the dict of the instance x -/
theorem HOk.write (ok : HOk P w H h) (mu : Mut (H x)) (he : e = x ∨ H e = some (.own x)) (k : ∀ b u, b ≠ e → h.get? b = some u → h'.get? b = some u) (heo : ∃ u, h'.get? e = some u)
    (new : ObjOk P w (upd H x o') h' x o') : HOk P w (upd H x o') h' := fun b u q => by
  have nown : ∀ c y, H c = some (.own y) → c ≠ x := fun c y r z => by subst z; rw [r] at mu; exact mu
  have ntup : ∀ c xs, H c = some (.tup xs) → c ≠ x := fun c xs r z => by subst z; rw [r] at mu; exact mu
  by_cases hb : b = x
  · subst hb; rw [upd_same] at q; cases q; exact new
  · rw [upd_ne hb] at q
    by_cases hbe : b = e
    · have q' : H b = some (.own x) := by
        rcases he with z | z
        · exact absurd (hbe.trans z) hb
        · rw [hbe]; exact z
      rw [q] at q'; cases q'
      obtain ⟨v, hv⟩ := heo
      exact ⟨v, by rw [hbe]; exact hv⟩
    · refine (ok b u q).stay (fun c v hc r => k c v ?_ r) (fun c r => by rw [upd_ne (nown c b r)]; exact r) fun c xs r => by rw [upd_ne (ntup c xs r)]; exact r
      rcases hc with rfl | hc
      · exact hbe
      · rintro rfl
        rcases he with z | z
        · exact nown c b hc z
        · rw [hc] at z; cases z; exact hb rfl
end

/-! ### kept unless tracked; of the frames at fs (the callers') the slots may change (an exception that passes writes there); of the records at ex (iterators) nothing is said -/
structure Un (fs ex : List Addr) (H H' : Hp) (h h' : Heap) : Prop where
  keep : ∀ b o, h.get? b = some o → H b = none → b ∉ fs → b ∉ ex → h'.get? b = some o
  slot : ∀ b o, h.get? b = some o → H b = none → b ∈ fs → b ∉ ex → ∃ sl, h'.get? b = some { o with slots := sl }
  free : ∀ b o, h.get? b = some o → H b = none → b ∉ ex → H' b = none
  there : ∀ b o, h.get? b = some o → b ∉ ex → ∃ o', h'.get? b = some o'
  tups : ∀ b xs, H b = some (.tup xs) → H' b = some (.tup xs)
  frzs : ∀ b o u, H b = some (.frz o u) → H' b = some (.frz o u)
  tbls : ∀ b ps, H b = some (.tbl ps) → ∃ more, H' b = some (.tbl (ps ++ more))
section
variable {fs fs' ex ex' : List Addr} {H H1 H2 : Hp} {h h1 h2 h' : Heap} {a x e : Addr} {o : HO}
theorem Un.any (u : Un fs ex H H1 h h1) {b : Addr} {ob : Obj} (q : h.get? b = some ob) (n : H b = none) (hx : b ∉ ex) : ∃ sl, h1.get? b = some { ob with slots := sl } := by
  by_cases hb : b ∈ fs
  · exact u.slot b ob q n hb hx
  · exact ⟨ob.slots, u.keep b ob q n hb hx⟩
theorem Un.trans (a : Un fs ex H H1 h h1) (b : Un fs ex H1 H2 h1 h2) : Un fs ex H H2 h h2 where
  keep := fun c ob q n hc hx => b.keep c ob (a.keep c ob q n hc hx) (a.free c ob q n hx) hc hx
  slot := fun c ob q n hc hx => by
    obtain ⟨sl, e1⟩ := a.slot c ob q n hc hx
    obtain ⟨sl', e2⟩ := b.slot c _ e1 (a.free c ob q n hx) hc hx
    exact ⟨sl', e2⟩
  free := fun c ob q n hx => by
    obtain ⟨o', e1⟩ := a.there c ob q hx
    exact b.free c o' e1 (a.free c ob q n hx) hx
  there := fun c ob q hx => by
    obtain ⟨o', e1⟩ := a.there c ob q hx
    exact b.there c o' e1 hx
  tups := fun c xs q => b.tups c xs (a.tups c xs q)
  frzs := fun c ob xs q => b.frzs c ob xs (a.frzs c ob xs q)
  tbls := fun c ps q => by
    obtain ⟨m1, e1⟩ := a.tbls c ps q
    obtain ⟨m2, e2⟩ := b.tbls c _ e1
    exact ⟨m1 ++ m2, by rw [e2, Array.append_assoc]⟩
theorem Un.kept (k : ∀ b u, h.get? b = some u → h'.get? b = some u) : Un fs ex H H h h' :=
  ⟨fun b ob q _ _ _ => k b ob q, fun b ob q _ _ _ => ⟨ob.slots, k b ob q⟩, fun _ _ _ n _ => n, fun b ob q _ => ⟨ob, k b ob q⟩, fun _ _ q => q, fun _ _ _ q => q, fun _ ps q => ⟨#[], by rw [q]; simp⟩⟩
theorem Un.refl : Un fs ex H H h h := Un.kept fun _ _ q => q
theorem Un.laid (k : ∀ b u, h.get? b = some u → h'.get? b = some u) (hp : h.objs.size ≤ a) (hn : H a = none) : Un fs ex H (upd H a o) h h' where
  keep := fun b u q _ _ _ => k b u q
  slot := fun b u q _ _ _ => ⟨u.slots, k b u q⟩
  free := fun b u q n _ => by rw [upd_ne (Nat.ne_of_lt (Nat.lt_of_lt_of_le (Heap.lt_size q) hp))]; exact n
  there := fun b u q _ => ⟨u, k b u q⟩
  tups := fun b xs q => by rw [upd_ne (ne_of_none q hn)]; exact q
  frzs := fun b u xs q => by rw [upd_ne (ne_of_none q hn)]; exact q
  tbls := fun b ps q => ⟨#[], by rw [upd_ne (ne_of_none q hn), q]; simp⟩
theorem Un.write (mu : Mut (H x)) (he : e = x ∨ H e = some (.own x)) (k : ∀ b u, b ≠ e → h.get? b = some u → h'.get? b = some u) (heo : ∃ u, h'.get? e = some u) : Un fs ex H (upd H x o) h h' := by
  have hx : ∀ b, H b = none → b ≠ x := fun b n z => by subst z; rw [n] at mu; exact mu
  have hb : ∀ b, H b = none → b ≠ e := fun b n z => by
    subst z
    rcases he with r | r
    · exact hx b n r
    · rw [n] at r; cases r
  have hm : ∀ b u, H b = some u → ¬ Mut (some u) → b ≠ x := fun b u q nm z => by subst z; rw [q] at mu; exact nm mu
  refine ⟨fun b u q n _ _ => k b u (hb b n) q, fun b u q n _ _ => ⟨u.slots, k b u (hb b n) q⟩, fun b u q n _ => by rw [upd_ne (hx b n)]; exact n, fun b u q _ => ?_,
    fun b xs q => by rw [upd_ne (hm b _ q fun z => z)]; exact q, fun b u xs q => by rw [upd_ne (hm b _ q fun z => z)]; exact q, fun b ps q => ⟨#[], by rw [upd_ne (hm b _ q fun z => z), q]; simp⟩⟩
  by_cases hbe : b = e
  · subst hbe; exact heo
  · exact ⟨u, k b u hbe q⟩
theorem Un.mono (u : Un fs ex H H1 h h1) (hs : ∀ b ∈ fs, b ∈ fs') (hx : ∀ b ∈ ex, b ∈ ex') : Un fs' ex' H H1 h h1 :=
  ⟨fun b ob q n hb he => u.keep b ob q n (fun z => hb (hs b z)) fun z => he (hx b z), fun _ _ q n _ he => u.any q n fun z => he (hx _ z), fun b ob q n he => u.free b ob q n fun z => he (hx b z), fun b ob q he => u.there b ob q fun z => he (hx b z), u.tups, u.frzs, u.tbls⟩
end

/-! ### the heap without what is tracked -/
def trk (h : Heap) (H : Hp) : List Addr := (List.range h.objs.size).filter fun a => (H a).isSome
def hidT (h : Heap) (H : Hp) : Heap := PySem.W.hideAll h (trk h H)
theorem hidT_size (h : Heap) (H : Hp) : (hidT h H).objs.size = h.objs.size := PySem.W.hideAll_size _ _
theorem hidT_get {h : Heap} {H : Hp} {b : Addr} {o : Obj} (e : h.get? b = some o) (n : H b = none) : (hidT h H).get? b = some o :=
  PySem.W.hideAll_get _ e fun hm => by
    have q : (H b).isSome = true := (List.mem_filter.mp hm).2
    rw [n] at q; simp at q
theorem of_hidT {h : Heap} {H : Hp} {b : Addr} {o : Obj} (e : (hidT h H).get? b = some o) : h.get? b = some o ∧ H b = none := by
  have e' : h.get? b = some o := PySem.W.of_hideAll (trk h H) e
  refine ⟨e', ?_⟩
  cases q : H b with
  | none => rfl
  | some x =>
    have hm : b ∈ trk h H := List.mem_filter.mpr ⟨List.mem_range.mpr (Heap.lt_size e'), by simp [q]⟩
    have z : (hidT h H).get? b = none := PySem.W.hideAll_none (trk h H) hm
    rw [z] at e; cases e

/-! ### OpenK's ledger, filled with every new object but one -/
def allNews (g h : Heap) (L : Addr) : List (Addr × Obj) := (List.range h.objs.size).filterMap fun a => if a = L ∨ (g.get? a).isSome = true then none else (h.get? a).map fun o => (a, o)
def rest (g h : Heap) (L d : Addr) : List (Addr × Obj) := (allNews g h L).filter fun p => decide (p.1 ≠ d)
end L2

namespace L2
open PySem PySem.Spec PyProof.Rows

/-- the module's facts, over the base: the heap at the law's entry without what is tracked there -/
structure Mod (K : PySem.W.Frag) (mg : Str → Option Value) (base : Heap) : Prop where
  kin : K.In base
  glob : base.Ns mainGlobals mg
  blt : ∃ mb, base.Ns builtinsNs mb ∧ ∀ x : Str, x ≠ "__name__" → mb x = bootBuiltins x
  nolimit : base.NoLimit

/-- the context: a def's body (or a comprehension's block) running. base: fixed through the whole law; s₀, H₀: the entry; outer: the frames whose slots others may change (a def's callers); stack: all frames that run;
   ex: iterators that were made ahead of the entry and are walked here (a comprehension's); fn: the names whose cells were made at the entry (a def: all; a comprehension's block: its own); calm: not within an except suite; pn: pins that every state bears; xe: what is wanted of an exception that leaves the code -/
structure Cx where
  prog : Program
  w : World
  K : PySem.W.Frag
  mg : Str → Option Value
  base : Heap
  A : Around
  N : List Str
  s₀ : Shared
  H₀ : Hp
  env : Env
  outer : List Env
  stack : List Env
  ex : List Addr
  fn : Str → Bool
  calm : Bool
  pn : List (Addr × Obj)
  xe : Value → Shared → Prop
/-- the callers' frames -/
def frs (l : List Env) : List Addr := l.filterMap (·.frame)
abbrev Cx.fs (X : Cx) : List Addr := frs X.outer

def Vis (sc : Scope) (x : Str) : Prop := sc.names.lookup x = some .local ∨ sc.names.lookup x = some .cell ∨ sc.names.lookup x = some .free
def Loc (sc : Scope) (x : Str) : Prop := sc.names.lookup x = some .local ∨ sc.names.lookup x = some .cell
def Look (env : Env) (h : Heap) (m : Str → Option Value) (x : Str) (u : Value) : Prop :=
  (env.kindOf x = some .local ∧ m x = some u) ∨ ((env.kindOf x = some .cell ∨ env.kindOf x = some .free) ∧ ∃ c, env.cells.lookup x = some c ∧ h.IsCell c (some u))

structure Cx.Ok (X : Cx) : Prop where
  mod : Mod X.K X.mg X.base
  kind : X.env.scope.kind = .function
  glob : X.env.globals = mainGlobals
  blt : X.env.builtins = builtinsNs
  above : X.s₀.heap.objs.size ≤ X.env.locals
  inj : ∀ x y c, X.env.cells.lookup x = some c → X.env.cells.lookup y = some c → x = y
  has : ∀ x, (X.env.kindOf x = some .cell ∨ X.env.kindOf x = some .free) → ∃ c, X.env.cells.lookup x = some c
  cab : ∀ x c, X.fn x = true → X.env.cells.lookup x = some c → X.s₀.heap.objs.size ≤ c
  hd : X.calm = true → X.A.handled = none
  frames : X.A.frames = some X.stack
  stk : X.stack = X.outer ∨ (X.stack = X.env :: X.outer ∧ X.env.frame = some X.env.locals)
  exf : ∀ b ∈ X.ex, b ≠ X.env.locals ∧ ∀ x c, X.env.cells.lookup x = some c → c ≠ b
  bs : ∀ b o, X.base.get? b = some o → X.s₀.heap.get? b = some o ∧ X.H₀ b = none
  bsz : X.base.objs.size ≤ X.s₀.heap.objs.size
  noex : ∀ b o, X.base.get? b = some o → b ∉ X.ex
  exfs : ∀ b ∈ X.ex, b ∉ X.fs
  funs : X.s₀.heap.FunFrames X.base X.outer
  frf : ∀ b ∈ X.fs, X.H₀ b = none

structure Inv (X : Cx) (pins : List (Addr × Obj)) (σ : List (Option V)) (H : Hp) (s : Shared) : Prop where
  ok : X.Ok
  os : s.os = X.s₀.os
  bare : AllBare s.gens
  base : Un X.fs X.ex X.H₀ H X.s₀.heap s.heap
  loc : ∃ m, s.heap.Ns X.env.locals m ∧ ∀ (i : Nat) (x : Str) (v : V), X.N[i]? = some x → σ[i]? = some (some v) → Vis X.env.scope x → ∃ u, RelV v u ∧ Look X.env s.heap m x u
  cell : ∀ x c, X.env.cells.lookup x = some c → ∃ v, s.heap.IsCell c v
  free : H X.env.locals = none
  freeC : ∀ x c, X.env.cells.lookup x = some c → H c = none
  pin : ∀ p ∈ X.pn ++ pins, s.heap.get? p.1 = some p.2 ∧ H p.1 = none ∧ p.1 ≠ X.env.locals ∧ p.1 ∉ X.fs ∧ ∀ v, p.2.data ≠ .cell v
  hok : HOk X.prog X.w H s.heap
  len : σ.length = X.N.length

section
variable {X : Cx} {pins : List (Addr × Obj)} {σ : List (Option V)} {H H' : Hp} {s : Shared} {h' : Heap}

theorem Cx.Ok.nofr (ok : X.Ok) {b : Addr} {o : Obj} (e : X.base.get? b = some o) : b ∉ X.fs := fun hb => by
  have := (ok.funs.mem hb).1
  rw [e] at this; cases this
theorem Inv.bs (I : Inv X pins σ H s) : ∀ b o, X.base.get? b = some o → s.heap.get? b = some o ∧ H b = none := fun b o e =>
  ⟨I.base.keep b o (I.ok.bs b o e).1 (I.ok.bs b o e).2 (I.ok.nofr e) (I.ok.noex b o e), I.base.free b o (I.ok.bs b o e).1 (I.ok.bs b o e).2 (I.ok.noex b o e)⟩
theorem Inv.bk (I : Inv X pins σ H s) : ∀ b o, X.base.get? b = some o → s.heap.get? b = some o := fun b o e => (I.bs b o e).1
theorem Inv.mod (I : Inv X pins σ H s) : Mod X.K X.mg X.base := I.ok.mod
theorem Inv.kIn (I : Inv X pins σ H s) : X.K.In s.heap := I.ok.mod.kin.keeps I.bk
theorem Inv.nolimit (I : Inv X pins σ H s) : s.heap.NoLimit := I.ok.mod.nolimit.keeps I.bk
/-- the frame over the base: for OpenK's rules (K.In X.base is I.mod.kin) -/
theorem Inv.fr (I : Inv X pins σ H s) : ∃ m, Fr X.base X.env.locals s.heap m :=
  let ⟨m, hn, _⟩ := I.loc
  ⟨m, hn, I.bk, Nat.le_trans I.ok.bsz I.ok.above⟩
theorem Inv.lt (I : Inv X pins σ H s) : X.env.locals < s.heap.objs.size := let ⟨_, hn, _⟩ := I.loc; hn.lt
theorem Inv.sz (I : Inv X pins σ H s) : X.s₀.heap.objs.size ≤ s.heap.objs.size := Nat.le_trans I.ok.above (Nat.le_of_lt I.lt)
theorem Inv.nofs (I : Inv X pins σ H s) {a : Addr} (h : s.heap.objs.size ≤ a) : a ∉ X.fs := fun hb => by
  obtain ⟨_, o, ho, _⟩ := I.ok.funs.mem hb
  exact absurd (Nat.lt_of_lt_of_le (Heap.lt_size ho) (Nat.le_trans I.sz h)) (Nat.lt_irrefl _)
theorem Inv.cne (I : Inv X pins σ H s) : ∀ x c, X.env.cells.lookup x = some c → c ≠ X.env.locals := fun x c e z => by
  obtain ⟨v, o, ho, hd⟩ := I.cell x c e
  obtain ⟨m, ⟨o', es, ep, ho', hd', _⟩, _⟩ := I.loc
  rw [z, ho'] at ho; cases ho; rw [hd'] at hd; cases hd
theorem Inv.funs (I : Inv X pins σ H s) : s.heap.FunFrames X.base X.outer := by
  have all : ∀ (l : List Env), (∀ b ∈ frs l, b ∈ X.fs) → X.s₀.heap.FunFrames X.base l → s.heap.FunFrames X.base l := by
    intro l
    induction l with
    | nil => intro _ _; trivial
    | cons env r ih =>
      intro hs hl
      obtain ⟨hk, ⟨L, o, hf, hn, ho, hd⟩, hr⟩ := hl
      have hL : L ∈ X.fs := hs L (by unfold frs; rw [List.filterMap_cons, hf]; exact List.mem_cons_self)
      obtain ⟨sl, e⟩ := I.base.slot L o ho (I.ok.frf L hL) hL fun z => I.ok.exfs L z hL
      exact ⟨hk, ⟨L, _, hf, hn, e, hd⟩, ih (fun b hb => hs b (by unfold frs; rw [List.filterMap_cons, hf]; exact List.mem_cons_of_mem _ hb)) hr⟩
  exact all X.outer (fun _ hb => hb) I.ok.funs

/-- the frames that run, for a call -/
theorem Inv.stack (I : Inv X pins σ H s) : s.heap.FunFrames X.base X.stack := by
  rcases I.ok.stk with e | ⟨e, hf⟩
  · rw [e]; exact I.funs
  · rw [e]
    obtain ⟨m, hn, _⟩ := I.loc
    refine .cons (by rw [I.ok.kind]; decide) hf hn ?_ I.funs
    exact Heap.get?_none_of_le (Nat.le_trans I.ok.bsz I.ok.above)
theorem Inv.stkSub (I : Inv X pins σ H s) : ∀ b ∈ frs X.stack, b ∈ X.env.locals :: X.fs := fun b hb => by
  rcases I.ok.stk with e | ⟨e, hf⟩
  · rw [e] at hb; exact List.mem_cons_of_mem _ hb
  · rw [e] at hb
    unfold frs at hb
    rw [List.filterMap_cons, hf] at hb
    exact hb
theorem Inv.stkFree (I : Inv X pins σ H s) : ∀ b ∈ frs X.stack, H b = none := fun b hb => by
  rcases List.mem_cons.mp (I.stkSub b hb) with e | hb
  · rw [e]; exact I.free
  · obtain ⟨_, o, ho, _⟩ := I.ok.funs.mem hb
    exact I.base.free b o ho (I.ok.frf b hb) fun z => I.ok.exfs b z hb

/-- THE STEP: the untracked objects but the frame and the records at ch are kept (the callers' frames up to slots), the frame's map is kept, the new abstract heap is held -/
theorem Inv.step {g' : Array GenState} {t' : Nat} {d' : Drawn} {ch : List Addr} (I : Inv X pins σ H s)
    (hch : ∀ b ∈ ch, (b ∈ X.ex ∨ X.s₀.heap.objs.size ≤ b) ∧ b ≠ X.env.locals ∧ (∀ x c, X.env.cells.lookup x = some c → c ≠ b) ∧ ∀ p ∈ X.pn ++ pins, p.1 ≠ b)
    (keep : ∀ b o, b ≠ X.env.locals → b ∉ X.fs → b ∉ ch → s.heap.get? b = some o → H b = none → h'.get? b = some o)
    (slot : ∀ b o, b ≠ X.env.locals → b ∈ X.fs → b ∉ ch → s.heap.get? b = some o → H b = none → ∃ sl, h'.get? b = some { o with slots := sl }) (free : ∀ b o, b ∉ ch → s.heap.get? b = some o → H b = none → H' b = none)
    (there : ∀ b o, b ∉ ch → s.heap.get? b = some o → ∃ o', h'.get? b = some o')
    (tups : ∀ b xs, H b = some (.tup xs) → H' b = some (.tup xs)) (frzs : ∀ b o u, H b = some (.frz o u) → H' b = some (.frz o u)) (tbls : ∀ b ps, H b = some (.tbl ps) → ∃ more, H' b = some (.tbl (ps ++ more)))
    (ns : ∀ m, s.heap.Ns X.env.locals m → h'.Ns X.env.locals m) (hok : HOk X.prog X.w H' h') (hg : AllBare g') :
    Inv X pins σ H' { s with heap := h', gens := g', drawn := d', toks := t' } := by
  have neL : ∀ b o, X.s₀.heap.get? b = some o → b ≠ X.env.locals := fun b o e => Nat.ne_of_lt (Nat.lt_of_lt_of_le (Heap.lt_size e) I.ok.above)
  have neC : ∀ b o, X.s₀.heap.get? b = some o → b ∉ X.ex → b ∉ ch := fun b o e hx hb => by
    rcases (hch b hb).1 with z | z
    · exact hx z
    · exact absurd (Nat.lt_of_lt_of_le (Heap.lt_size e) z) (Nat.lt_irrefl _)
  have cellK : ∀ x c, X.env.cells.lookup x = some c → ∀ v, s.heap.IsCell c v → h'.IsCell c v := fun x c e v ⟨o, ho, hd⟩ => by
    have nch : c ∉ ch := fun z => (hch c z).2.2.1 x c e rfl
    by_cases hc : c ∈ X.fs
    · obtain ⟨sl, q⟩ := slot c o (I.cne x c e) hc nch ho (I.freeC x c e)
      exact ⟨_, q, hd⟩
    · exact ⟨o, keep c o (I.cne x c e) hc nch ho (I.freeC x c e), hd⟩
  refine ⟨I.ok, I.os, hg, ⟨fun b o e n hb hx => ?_, fun b o e n hb hx => ?_, fun b o e n hx => ?_, fun b o e hx => ?_, fun b xs e => tups b xs (I.base.tups b xs e), fun b o xs e => frzs b o xs (I.base.frzs b o xs e), fun b ps e => ?_⟩, ?_, fun x c e => ?_, ?_, fun x c e => ?_, fun p hp => ?_, hok, I.len⟩
  · exact keep b o (neL b o e) hb (neC b o e hx) (I.base.keep b o e n hb hx) (I.base.free b o e n hx)
  · obtain ⟨sl, e1⟩ := I.base.slot b o e n hb hx
    obtain ⟨sl', e2⟩ := slot b _ (neL b o e) hb (neC b o e hx) e1 (I.base.free b o e n hx)
    exact ⟨sl', e2⟩
  · obtain ⟨o', e1⟩ := I.base.there b o e hx
    exact free b o' (neC b o e hx) e1 (I.base.free b o e n hx)
  · obtain ⟨o', e1⟩ := I.base.there b o e hx
    exact there b o' (neC b o e hx) e1
  · obtain ⟨m1, e1⟩ := I.base.tbls b ps e
    obtain ⟨m2, e2⟩ := tbls b _ e1
    exact ⟨m1 ++ m2, by rw [e2, Array.append_assoc]⟩
  · obtain ⟨m, hn, hl⟩ := I.loc
    refine ⟨m, ns m hn, fun i x v e1 e2 e3 => ?_⟩
    obtain ⟨u, r, l⟩ := hl i x v e1 e2 e3
    refine ⟨u, r, ?_⟩
    rcases l with l | ⟨k, c, e, z⟩
    · exact .inl l
    · exact .inr ⟨k, c, e, cellK x c e _ z⟩
  · obtain ⟨v, z⟩ := I.cell x c e
    exact ⟨v, cellK x c e v z⟩
  · obtain ⟨m, ⟨o, _, _, ho, _⟩, _⟩ := I.loc
    exact free _ o (fun z => (hch _ z).2.1 rfl) ho I.free
  · obtain ⟨v, o, ho, hd⟩ := I.cell x c e
    exact free c o (fun z => (hch c z).2.2.1 x c e rfl) ho (I.freeC x c e)
  · obtain ⟨e, n, ne, nf, d⟩ := I.pin p hp
    have nch : p.1 ∉ ch := fun z => (hch p.1 z).2.2.2 p hp rfl
    exact ⟨keep p.1 p.2 ne nf nch e n, free p.1 p.2 nch e n, ne, nf, d⟩
/-- .. where the frame's own object is kept too -/
theorem Inv.un {t' : Nat} (I : Inv X pins σ H s) (u : Un X.fs [] H H' s.heap h') (hok : HOk X.prog X.w H' h') : Inv X pins σ H' { s with heap := h', toks := t' } := by
  obtain ⟨m, ⟨o, es, ep, ho, r⟩, _⟩ := id I.loc
  obtain ⟨sl, hL⟩ := u.any ho I.free (by simp)
  exact I.step (g' := s.gens) (d' := s.drawn) (ch := []) (fun _ z => nomatch z) (fun b o _ hb _ e n => u.keep b o e n hb (by simp)) (fun b o _ hb _ e n => u.slot b o e n hb (by simp)) (fun b o _ e n => u.free b o e n (by simp)) (fun b o _ e => u.there b o e (by simp)) u.tups u.frzs u.tbls (fun m' hm => by
    obtain ⟨o', es', ep', ho', r'⟩ := hm
    rw [ho] at ho'; cases ho'
    exact ⟨_, es', ep', hL, r'⟩) hok I.bare
/-- behind a call (or a comprehension's block): the slots of this frame may have changed too, the records at ch may have turned -/
theorem Inv.call {g' : Array GenState} {t' : Nat} {d' : Drawn} {ch : List Addr} (I : Inv X pins σ H s) (u : Un (frs X.stack) ch H H' s.heap h') (hok : HOk X.prog X.w H' h') (hg : AllBare g')
    (hch : ∀ b ∈ ch, (b ∈ X.ex ∨ X.s₀.heap.objs.size ≤ b) ∧ b ≠ X.env.locals ∧ (∀ x c, X.env.cells.lookup x = some c → c ≠ b) ∧ ∀ p ∈ X.pn ++ pins, p.1 ≠ b) :
    Inv X pins σ H' { s with heap := h', gens := g', drawn := d', toks := t' } := by
  obtain ⟨m, ⟨o, es, ep, ho, r⟩, _⟩ := id I.loc
  obtain ⟨sl, hL⟩ := u.any ho I.free fun z => (hch _ z).2.1 rfl
  exact I.step (ch := ch) hch (fun b o hL hb hc e n => u.keep b o e n (fun z => (List.mem_cons.mp (I.stkSub b z)).elim hL hb) hc) (fun b o _ _ hc e n => u.any e n hc) (fun b o hc e n => u.free b o e n hc) (fun b o hc e => u.there b o e hc) u.tups u.frzs u.tbls (fun m' hm => by
    obtain ⟨o', es', ep', ho', r'⟩ := hm
    rw [ho] at ho'; cases ho'
    exact ⟨_, es', ep', hL, r'⟩) hok hg
/-- an untracked record of ours (an iterator) has turned -/
theorem Inv.turned {t' : Nat} {it : Addr} (I : Inv X pins σ H s) (k : ∀ b o, b ≠ it → s.heap.get? b = some o → h'.get? b = some o) (hn : H it = none) (hL : it ≠ X.env.locals)
    (h1 : it ∈ X.ex ∨ X.s₀.heap.objs.size ≤ it) (h2 : ∀ x c, X.env.cells.lookup x = some c → c ≠ it) (h3 : ∀ p ∈ X.pn ++ pins, p.1 ≠ it) : Inv X pins σ H { s with heap := h', toks := t' } := by
  have nit : ∀ b u, H b = some u → b ≠ it := fun b u e z => by rw [z, hn] at e; cases e
  refine I.step (g' := s.gens) (d' := s.drawn) (ch := [it]) (fun b hb => ?_) (fun b o _ _ hc e _ => k b o (fun z => hc (by simp [z])) e) (fun b o _ _ hc e _ => ⟨o.slots, k b o (fun z => hc (by simp [z])) e⟩) (fun _ _ _ _ n => n)
    (fun b o hc e => ⟨o, k b o (fun z => hc (by simp [z])) e⟩) (fun _ _ e => e) (fun _ _ _ e => e) (fun b ps e => ⟨#[], by rw [e]; simp⟩) (fun m hm => ?_) (fun b u e => ?_) I.bare
  · have e : b = it := by simpa using hb
    subst e
    exact ⟨h1, hL, h2, h3⟩
  · obtain ⟨o, es, ep, ho, r⟩ := hm
    exact ⟨o, es, ep, k _ o (Ne.symm hL) ho, r⟩
  · refine (I.hok b u e).stay (fun c v hc q => k c v ?_ q) (fun _ q => q) fun _ _ q => q
    rcases hc with z | z
    · rw [z]; exact nit b u e
    · exact nit c _ z
theorem Inv.tok (I : Inv X pins σ H s) (t : Nat) : Inv X pins σ H { s with toks := t } := I.un (h' := s.heap) (t' := t) Un.refl I.hok
/-- all objects kept -/
theorem Inv.kept {t' : Nat} (I : Inv X pins σ H s) (k : ∀ b u, s.heap.get? b = some u → h'.get? b = some u) : Inv X pins σ H { s with heap := h', toks := t' } := I.un (Un.kept k) (I.hok.kept k)
/-- a new object laid and tracked -/
theorem Inv.laid {a : Addr} {o : HO} {t' : Nat} (I : Inv X pins σ H s) (k : ∀ b u, s.heap.get? b = some u → h'.get? b = some u) (hp : s.heap.objs.size ≤ a) (new : ObjOk X.prog X.w (upd H a o) h' a o) :
    Inv X pins σ (upd H a o) { s with heap := h', toks := t' } := I.un (Un.laid k hp (I.hok.fresh hp)) (I.hok.laid k hp new)
/-- an object written -/
theorem Inv.write {x e : Addr} {o : HO} {t' : Nat} (I : Inv X pins σ H s) (mu : Mut (H x)) (he : e = x ∨ H e = some (.own x)) (k : ∀ b u, b ≠ e → s.heap.get? b = some u → h'.get? b = some u) (heo : ∃ u, h'.get? e = some u)
    (new : ObjOk X.prog X.w (upd H x o) h' x o) : Inv X pins σ (upd H x o) { s with heap := h', toks := t' } := I.un (Un.write mu he k heo) (I.hok.write mu he k heo new)
/-- forgetting slots, pins -/
theorem Inv.weak {σ' : List (Option V)} (I : Inv X pins σ H s) (hl : σ'.length = σ.length) (w : ∀ (i : Nat) v, σ'[i]? = some (some v) → σ[i]? = some (some v)) : Inv X pins σ' H s :=
  ⟨I.ok, I.os, I.bare, I.base, let ⟨m, hn, hl'⟩ := I.loc; ⟨m, hn, fun i x v e1 e2 e3 => hl' i x v e1 (w i v e2) e3⟩, I.cell, I.free, I.freeC, I.pin, I.hok, hl.trans I.len⟩
theorem Inv.pins_of {pins' : List (Addr × Obj)} (I : Inv X pins σ H s) (h : ∀ p ∈ pins', s.heap.get? p.1 = some p.2 ∧ H p.1 = none ∧ p.1 ≠ X.env.locals ∧ p.1 ∉ X.fs ∧ ∀ v, p.2.data ≠ .cell v) : Inv X pins' σ H s :=
  ⟨I.ok, I.os, I.bare, I.base, I.loc, I.cell, I.free, I.freeC, fun p hp => (List.mem_append.mp hp).elim (fun z => I.pin p (List.mem_append_left _ z)) (h p), I.hok, I.len⟩

theorem nodup_ix {N : List Str} (hN : N.Nodup) {i j : Nat} {x : Str} (a : N[i]? = some x) (b : N[j]? = some x) : i = j := by
  obtain ⟨h1, e1⟩ := List.getElem?_eq_some_iff.mp a
  obtain ⟨h2, e2⟩ := List.getElem?_eq_some_iff.mp b
  exact (List.getElem_inj hN).mp (e1.trans e2.symm)

/-- a name is stored; what changed -/
theorem store_ok2 {M : Model} {A : Around} {E : Value → Shared → Prop} {i : Nat} {x : Str} {v : V} {u : Value} {Q : Unit → Shared → Prop} (I : Inv X pins σ H s) (hN : X.N.Nodup) (hi : X.N[i]? = some x) (hx : Loc X.env.scope x) (r : RelV v u)
    (h : ∀ s', Inv X pins (σ.set i (some v)) H s' → (∃ a, Heap.SameBut a s.heap s'.heap ∧ (a = X.env.locals ∨ X.env.cells.lookup x = some a)) → Q () s') (hf : X.fn x = true ∨ X.env.scope.names.lookup x = some .local := by first | exact .inl rfl | exact .inr rfl | assumption) : wpAny M A (storeName X.env x u) Q E s := by
  obtain ⟨m, hn, hl⟩ := id I.loc
  have hcls : (X.env.scope.kind == .class || (X.env.scope.kind == .module && X.env.locals != X.env.globals)) = false := by rw [I.ok.kind]; rfl
  have hiσ : i < σ.length := by rw [I.len]; exact (List.getElem?_eq_some_iff.mp hi).1
  have cne := I.cne
  have tracked : ∀ {a : Addr} {h' : Heap}, (∃ o, s.heap.get? a = some o ∧ H a = none) → Heap.SameBut a s.heap h' → HOk X.prog X.w H h' := fun {a h'} ha hs b ob e => by
    obtain ⟨_, _, hfree⟩ := ha
    refine (I.hok b ob e).stay (fun c w' hc q => (hs.2 c ?_).trans q) (fun _ q => q) fun _ _ q => q
    rintro rfl
    rcases hc with rfl | hc
    · rw [hfree] at e; cases e
    · rw [hfree] at hc; cases hc
  rcases hx with hk | hk
  · refine wpAny_storeName_local hk hn (fun h' hn' hs => ?_) hcls
    obtain ⟨oL, _, _, hoL, _⟩ := id hn
    refine h _ ⟨I.ok, I.os, I.bare, ⟨fun b o e n hb hx => ?_, fun b o e n hb hx => ?_, I.base.free, fun b o e hx => ?_, I.base.tups, I.base.frzs, I.base.tbls⟩, ⟨_, hn', fun j y v' e1 e2 e3 => ?_⟩, fun y c e => ?_, I.free, I.freeC, fun p hp => ?_, tracked ⟨oL, hoL, I.free⟩ hs, by simpa using I.len⟩ ⟨_, hs, .inl rfl⟩
    · exact (hs.2 b (Nat.ne_of_lt (Nat.lt_of_lt_of_le (Heap.lt_size e) I.ok.above))).trans (I.base.keep b o e n hb hx)
    · obtain ⟨sl, e1⟩ := I.base.slot b o e n hb hx
      exact ⟨sl, (hs.2 b (Nat.ne_of_lt (Nat.lt_of_lt_of_le (Heap.lt_size e) I.ok.above))).trans e1⟩
    · obtain ⟨o', e1⟩ := I.base.there b o e hx
      exact ⟨o', (hs.2 b (Nat.ne_of_lt (Nat.lt_of_lt_of_le (Heap.lt_size e) I.ok.above))).trans e1⟩
    · by_cases hj : j = i
      · subst hj
        rw [hi] at e1; cases e1
        rw [List.getElem?_set_self hiσ] at e2
        cases e2
        exact ⟨u, r, .inl ⟨hk, by simp⟩⟩
      · rw [List.getElem?_set_ne (Ne.symm hj)] at e2
        obtain ⟨u', r', q⟩ := hl j y v' e1 e2 e3
        refine ⟨u', r', ?_⟩
        rcases q with ⟨k, e⟩ | ⟨k, c, e, z⟩
        · refine .inl ⟨k, ?_⟩
          have : y ≠ x := fun e => hj (nodup_ix hN e1 (e ▸ hi))
          simp [this, e]
        · exact .inr ⟨k, c, e, z.sameBut hs (cne y c e)⟩
    · obtain ⟨w', z⟩ := I.cell y c e
      exact ⟨w', z.sameBut hs (cne y c e)⟩
    · obtain ⟨e, n, ne, nf, d⟩ := I.pin p hp
      exact ⟨(hs.2 p.1 ne).trans e, n, ne, nf, d⟩
  · have hfn : X.fn x = true := by
      rcases hf with z | z
      · exact z
      · rw [z] at hk; cases hk
    obtain ⟨c, hc⟩ := I.ok.has x (.inl hk)
    obtain ⟨w', z⟩ := I.cell x c hc
    refine wpAny_storeName_cell I.ok.kind hk hc z (fun h' hc' hs => ?_)
    obtain ⟨oc, hoc, hocd⟩ := id z
    refine h { s with heap := h' } ⟨I.ok, I.os, I.bare, ⟨fun b o e n hb hx => ?_, fun b o e n hb hx => ?_, I.base.free, fun b o e hx => ?_, I.base.tups, I.base.frzs, I.base.tbls⟩, ⟨m, hn.sameBut hs (Ne.symm (cne x c hc)), fun j y v' e1 e2 e3 => ?_⟩, fun y c' e => ?_, I.free, I.freeC, fun p hp => ?_, tracked ⟨oc, hoc, I.freeC x c hc⟩ hs, by simpa using I.len⟩ ⟨c, hs, .inr hc⟩
    · exact (hs.2 b (Nat.ne_of_lt (Nat.lt_of_lt_of_le (Heap.lt_size e) (I.ok.cab x c hfn hc)))).trans (I.base.keep b o e n hb hx)
    · obtain ⟨sl, e1⟩ := I.base.slot b o e n hb hx
      exact ⟨sl, (hs.2 b (Nat.ne_of_lt (Nat.lt_of_lt_of_le (Heap.lt_size e) (I.ok.cab x c hfn hc)))).trans e1⟩
    · obtain ⟨o', e1⟩ := I.base.there b o e hx
      exact ⟨o', (hs.2 b (Nat.ne_of_lt (Nat.lt_of_lt_of_le (Heap.lt_size e) (I.ok.cab x c hfn hc)))).trans e1⟩
    · by_cases hj : j = i
      · subst hj
        rw [hi] at e1; cases e1
        rw [List.getElem?_set_self hiσ] at e2
        cases e2
        exact ⟨u, r, .inr ⟨.inl hk, c, hc, hc'⟩⟩
      · rw [List.getElem?_set_ne (Ne.symm hj)] at e2
        obtain ⟨u', r', q⟩ := hl j y v' e1 e2 e3
        refine ⟨u', r', ?_⟩
        rcases q with q | ⟨k, c', e, z'⟩
        · exact .inl q
        · refine .inr ⟨k, c', e, z'.sameBut hs ?_⟩
          rintro rfl
          exact hj (nodup_ix hN e1 (I.ok.inj _ _ _ e hc ▸ hi))
    · by_cases hcc : c' = c
      · subst hcc; exact ⟨_, hc'⟩
      · obtain ⟨w2, z2⟩ := I.cell y c' e
        exact ⟨w2, z2.sameBut hs hcc⟩
    · obtain ⟨e, n, ne, nf, d⟩ := I.pin p hp
      refine ⟨(hs.2 p.1 ?_).trans e, n, ne, nf, d⟩
      intro q
      rw [q, hoc] at e
      have q' : oc = p.2 := Option.some.inj e
      exact d w' (by rw [← q']; exact hocd)
theorem store_ok {M : Model} {A : Around} {E : Value → Shared → Prop} {i : Nat} {x : Str} {v : V} {u : Value} {Q : Unit → Shared → Prop} (I : Inv X pins σ H s) (hN : X.N.Nodup) (hi : X.N[i]? = some x) (hx : Loc X.env.scope x) (r : RelV v u)
    (h : ∀ s', Inv X pins (σ.set i (some v)) H s' → Q () s') (hf : X.fn x = true ∨ X.env.scope.names.lookup x = some .local := by first | exact .inl rfl | exact .inr rfl | assumption) : wpAny M A (storeName X.env x u) Q E s :=
  store_ok2 I hN hi hx r (fun s' I' _ => h s' I') hf
/-- behind a call or a block, the state as it is -/
theorem Inv.call' {s' : Shared} {ch : List Addr} (I : Inv X pins σ H s) (ho : s'.os = s.os) (u : Un (frs X.stack) ch H H' s.heap s'.heap) (hok : HOk X.prog X.w H' s'.heap) (hg : AllBare s'.gens)
    (hch : ∀ b ∈ ch, (b ∈ X.ex ∨ X.s₀.heap.objs.size ≤ b) ∧ b ≠ X.env.locals ∧ (∀ x c, X.env.cells.lookup x = some c → c ≠ b) ∧ ∀ p ∈ X.pn ++ pins, p.1 ≠ b) : Inv X pins σ H' s' := by
  obtain ⟨h', g', d', t', o'⟩ := s'
  have e : o' = s.os := ho
  subst e
  exact I.call (g' := g') (t' := t') (d' := d') u hok hg hch
end

/-! ### the judgements -/
/-- an exception: its class, its own dict's address (where it has one), the abstract heap behind it -/
abbrev XK := Value → Option Addr → Hp → Prop
abbrev St := List (Option V)
abbrev VK := V → Hp → Prop
/-- an expression's reading; a test's; an argument list's -/
abbrev TE := St → Hp → VK → Prop
abbrev TT := St → Hp → (Bool → Hp → Prop) → Prop
abbrev TA := St → Hp → (List V → Hp → Prop) → Prop
/-- what is wanted behind a statement -/
structure Ends where
  nx : St → Hp → Prop
  rt : VK
  bk : St → Hp → Prop := fun _ _ => False
  ct : St → Hp → Prop := fun _ _ => False
abbrev TS := Ends → St → Hp → Prop

def EP (X : Cx) (pins : List (Addr × Obj)) (σ : St) (Q : VK) (u : Value) (s' : Shared) : Prop := ∃ v H', Inv X pins σ H' s' ∧ RelV v u ∧ Q v H'
def TP (X : Cx) (pins : List (Addr × Obj)) (σ : St) (Q : Bool → Hp → Prop) (b : Bool) (s' : Shared) : Prop := ∃ H', Inv X pins σ H' s' ∧ Q b H'
def AP (X : Cx) (pins : List (Addr × Obj)) (σ : St) (Q : List V → Hp → Prop) (us : List Value) (s' : Shared) : Prop := ∃ vs H', Inv X pins σ H' s' ∧ Vals vs us ∧ Q vs H'
def SP (X : Cx) (pins : List (Addr × Obj)) (D : Ends) (f : Flow) (s' : Shared) : Prop :=
  match f with
  | .next => ∃ σ' H', Inv X pins σ' H' s' ∧ D.nx σ' H'
  | .brk => ∃ σ' H', Inv X pins σ' H' s' ∧ D.bk σ' H'
  | .cont => ∃ σ' H', Inv X pins σ' H' s' ∧ D.ct σ' H'
  | .ret u => ∃ v σ' H', Inv X pins σ' H' s' ∧ RelV v u ∧ D.rt v H'

def PE (X : Cx) (e : Expr) (t : TE) : Prop :=
  ∀ (pins : List (Addr × Obj)) (s : Shared) (σ : St) (H : Hp) (Q : VK), Inv X pins σ H s → t σ H Q → wpAny (model X.prog X.w) X.A (eval e X.env) (EP X pins σ Q) X.xe s
def PT (X : Cx) (e : Expr) (t : TT) : Prop :=
  ∀ (pins : List (Addr × Obj)) (s : Shared) (σ : St) (H : Hp) (Q : Bool → Hp → Prop), Inv X pins σ H s → t σ H Q → wpAny (model X.prog X.w) X.A (isTrue e X.env (eval e X.env)) (TP X pins σ Q) X.xe s
/-- a test whatever its 'whole' is (and, or) -/
def PW (X : Cx) (e : Expr) (t : TT) : Prop :=
  ∀ (whole : Sem Value) (pins : List (Addr × Obj)) (s : Shared) (σ : St) (H : Hp) (Q : Bool → Hp → Prop), Inv X pins σ H s → t σ H Q → wpAny (model X.prog X.w) X.A (isTrue e X.env whole) (TP X pins σ Q) X.xe s
theorem PW.pt {X : Cx} {e : Expr} {t : TT} (h : PW X e t) : PT X e t := h _
/-- an argument list (no star), from the left -/
def PA (X : Cx) (es : List Expr) (t : TA) : Prop :=
  ∀ (pos : Pos) (pins : List (Addr × Obj)) (s : Shared) (σ : St) (H : Hp) (Q : List V → Hp → Prop), Inv X pins σ H s → t σ H Q → wpAny (model X.prog X.w) X.A (spliced (backTo pos (starEach es X.env))) (AP X pins σ Q) X.xe s
def PS (X : Cx) (st : Stmt) (t : TS) : Prop :=
  ∀ (pins : List (Addr × Obj)) (s : Shared) (σ : St) (H : Hp) (D : Ends), Inv X pins σ H s → t D σ H → wpAny (model X.prog X.w) X.A (exec st X.env) (SP X pins D) X.xe s
def PSs (X : Cx) (st : List Stmt) (t : TS) : Prop :=
  ∀ (pins : List (Addr × Obj)) (s : Shared) (σ : St) (H : Hp) (D : Ends), Inv X pins σ H s → t D σ H → wpAny (model X.prog X.w) X.A (execs st X.env) (SP X pins D) X.xe s
/-- weaken the end -/
theorem thn {α : Type} {t : Sem α} {Q Q' : α → Shared → Prop} {M : Model} {A : Around} {E : Value → Shared → Prop} {s : Shared} (h : wpAny M A t Q E s) (hQ : ∀ a s, Q a s → Q' a s) : wpAny M A t Q' E s := wpAny_mono h hQ fun _ _ x => x
end L2

namespace L2
open PySem PySem.Spec PyProof.Rows
section
variable {X : Cx}

/-! ### names and constants -/
def tVar (i : Nat) : TE := fun σ H Q => ∃ v, σ[i]? = some (some v) ∧ Q v H
def tC (v : V) : TE := fun _ H Q => Q v H
theorem pe_var {i : Nat} {x : Str} {pos : Pos} (hN : X.N[i]? = some x) (hv : Vis X.env.scope x) (hd : (x == ("__debug__" : Str)) = false := by decide) (hcd : (x == ("__classdict__" : Str)) = false := by decide) : PE X (.Name x pos) (tVar i) := by
  intro pins s σ H Q I h
  obtain ⟨v, e, h⟩ := h
  obtain ⟨m, hn, hl⟩ := I.loc
  obtain ⟨u, r, l⟩ := hl i x v hN e hv
  have fin : EP X pins σ Q u s := ⟨v, H, I, r, h⟩
  rcases l with ⟨hk, hm⟩ | ⟨hk, c, hc, hcell⟩
  · exact wpAny_Name (wpAny_loadName_local I.ok.kind hk hn hm fin) hd
  · rcases hk with hk | hk
    · exact wpAny_Name (wpAny_loadName_cell I.ok.kind hk hc hcell fin) hd
    · exact wpAny_Name (wpAny_loadName_free I.ok.kind hk hc hcell fin hcd) hd
theorem pe_int {i j pos} : PE X (.Constant (.int i) j pos) (tC (.int i)) := fun _ _ _ H _ I h => wpAny_Constant_int ⟨.int i, H, I.tok _, ⟨_, rfl⟩, h⟩
theorem pe_bl {b j pos} : PE X (.Constant (.bool b) j pos) (tC (.bl b)) := fun _ _ _ H _ I h => Constant_bool ⟨.bl b, H, I, rfl, h⟩
theorem pe_non {j pos} : PE X (.Constant .none j pos) (tC .non) := fun _ _ _ H _ I h => Constant_none ⟨.non, H, I, rfl, h⟩
theorem pe_str {x j pos} : PE X (.Constant (.str x) j pos) (tC (.str x)) := fun _ _ _ H _ I h => Calls.Constant_str ⟨.str x, H, I.tok _, ⟨_, rfl⟩, h⟩

/-- a global name of the def -/
def Gl (X : Cx) (x : Str) : Prop := X.env.kindOf x = some .globalImplicit
theorem ld_glob {E : Value → Shared → Prop} {pins : List (Addr × Obj)} {s : Shared} {σ : St} {H : Hp} {x : Str} {u : Value} {pos : Pos} {Q : Value → Shared → Prop} (I : Inv X pins σ H s) (hg : Gl X x) (hm : X.mg x = some u) (h : Q u s)
    (hd : (x == ("__debug__" : Str)) = false := by decide) : wpAny (model X.prog X.w) X.A (eval (.Name x pos) X.env) Q E s :=
  Calls.Name_function_global I.ok.kind hg (Calls.loadGlobal_global (by rw [I.ok.glob]; exact I.mod.glob.keeps I.bk) hm h) hd
theorem ld_blt {E : Value → Shared → Prop} {pins : List (Addr × Obj)} {s : Shared} {σ : St} {H : Hp} {x : Str} {u : Value} {pos : Pos} {Q : Value → Shared → Prop} (I : Inv X pins σ H s) (hg : Gl X x) (hm : X.mg x = none) (hv : bootBuiltins x = some u) (h : Q u s)
    (hn : x ≠ "__name__" := by decide) (hd : (x == ("__debug__" : Str)) = false := by decide) : wpAny (model X.prog X.w) X.A (eval (.Name x pos) X.env) Q E s := by
  obtain ⟨mb, h1, h2⟩ := I.mod.blt
  exact Calls.Name_function_global I.ok.kind hg (Calls.loadGlobal_builtin (by rw [I.ok.glob]; exact I.mod.glob.keeps I.bk) hm (by rw [I.ok.blt]; exact h1.keeps I.bk) ((h2 x hn).trans hv) h) hd
/-- a module's constant, a class, a function, as a value -/
theorem pe_glob {x : Str} {v : V} {u : Value} {pos : Pos} (hg : Gl X x) (hm : X.mg x = some u) (r : RelV v u) (hd : (x == ("__debug__" : Str)) = false := by decide) : PE X (.Name x pos) (tC v) :=
  fun _ _ _ H _ I h => ld_glob I hg hm ⟨v, H, I, r, h⟩ hd
theorem pe_bltn {x : Str} {v : V} {u : Value} {pos : Pos} (hg : Gl X x) (hm : X.mg x = none) (hv : bootBuiltins x = some u) (r : RelV v u) (hn : x ≠ "__name__" := by decide) (hd : (x == ("__debug__" : Str)) = false := by decide) : PE X (.Name x pos) (tC v) :=
  fun _ _ _ H _ I h => ld_blt I hg hm hv ⟨v, H, I, r, h⟩ hn hd

/-! ### arithmetic -/
variable {a b : Expr} {ta tb : TE} {pos : Pos}
/-! ### comparisons -/
/-- a comparison as a value, as a test -/
def tB (t : TE) : TT := fun σ H Q => t σ H fun x H1 => ∃ c, x = .bl c ∧ Q c H1
/-- an expression whose value is a bool, as a test -/
theorem pt_val {e : Expr} {t : TE} (h : PE X e t) (he : ∀ whole, isTrue e X.env whole = (do let v ← whole; standAt e.pos; holding [v] (truthy v)) := by intro _; rfl) : PT X e (tB t) := by
  intro pins s σ H Q I hw
  refine isTrue_plain (thn (h pins s σ H _ I hw) fun v s1 ⟨x, H1, I1, r1, q1⟩ => ?_) (he _)
  obtain ⟨d, rfl, q⟩ := q1
  cases r1
  exact wpAny_truthy_bool ⟨H1, I1, q⟩

/-! ### and, or, not -/
variable {tA tB' : TT} {rest : List Expr}
def tOr (t u : TT) : TT := fun σ H Q => t σ H fun c H1 => if c = true then Q true H1 else u σ H1 Q
def tNot (t : TT) : TT := fun σ H Q => t σ H fun c H1 => Q (!c) H1
theorem pw_or1 (ha : PT X a tA) : PW X (.BoolOp .Or [a] pos) tA := by
  intro wh pins s σ H Q I h
  refine isTrue_or (thn (ha pins s σ H Q I h) fun c s1 e => ?_)
  cases c with
  | false => exact isTrue_or_nil e
  | true => exact e
theorem pw_or (ha : PT X a tA) (hb : PW X (.BoolOp .Or (b :: rest) pos) tB') : PW X (.BoolOp .Or (a :: b :: rest) pos) (tOr tA tB') := by
  intro wh pins s σ H Q I h
  refine isTrue_or (thn (ha pins s σ H _ I h) fun c s1 ⟨H1, I1, q1⟩ => ?_)
  cases c with
  | true => exact ⟨H1, I1, q1⟩
  | false => exact hb wh pins s1 σ H1 Q I1 q1
theorem pt_not (ha : PT X a tA) : PT X (.UnaryOp .Not a pos) (tNot tA) := by
  intro pins s σ H Q I h
  exact isTrue_not (ha pins s σ H (fun c H1 => Q (!c) H1) I h)
/-- .. as values (bools) -/
def tAndV (ta tb : TE) : TE := fun σ H Q => ta σ H fun x H1 => ∃ c, x = .bl c ∧ if c = true then tb σ H1 Q else Q (.bl false) H1
def tNotV (ta : TE) : TE := fun σ H Q => ta σ H fun x H1 => ∃ c, x = .bl c ∧ Q (.bl (!c)) H1
theorem pe_one {op} {t : TE} (h : PE X a t) : PE X (.BoolOp op [a] pos) t := fun pins s σ H Q I hw => BoolOp_one (h pins s σ H Q I hw)
theorem pe_and (ha : PE X a ta) (hb : PE X (.BoolOp .And (b :: rest) pos) tb) : PE X (.BoolOp .And (a :: b :: rest) pos) (tAndV ta tb) := by
  intro pins s σ H Q I h
  refine BoolOp_and (thn (ha pins s σ H _ I h) fun v s1 ⟨x, H1, I1, r1, q1⟩ => ?_)
  obtain ⟨c, rfl, q1⟩ := q1
  cases r1
  refine wpAny_truthy_bool ?_
  cases c with
  | true => exact hb pins s1 σ H1 Q I1 q1
  | false => exact ⟨.bl false, H1, I1, rfl, q1⟩
theorem pe_not (ha : PE X a ta) : PE X (.UnaryOp .Not a pos) (tNotV ta) := by
  intro pins s σ H Q I h
  refine UnaryOp_ (thn (ha pins s σ H _ I h) fun v s1 ⟨x, H1, I1, r1, q1⟩ => ?_)
  obtain ⟨c, rfl, q1⟩ := q1
  cases r1
  exact not_of (wpAny_truthy_bool ⟨.bl (!c), H1, I1, rfl, q1⟩)
end
end L2

namespace L2
open PySem PySem.Spec PyProof.Rows

/-! ### a list, a tuple that is read: tracked, frozen, or an object of the module -/
def SqL (K : PySem.W.Frag) (H : Hp) (a : Addr) (xs : List V) : Prop :=
  Rd H a (.lst xs) ∨
    ∃ (o : Obj) (its : Array Value) (n : Nat), K.lookup a = some o ∧ o.cls = .type "list" ∧ o.dict = none ∧ o.data = .seq its n ∧ its.size ≤ sizeLine ∧ Vals xs its.toList
def SqT (K : PySem.W.Frag) (H : Hp) (a : Addr) (xs : List V) : Prop :=
  Rd H a (.tup xs) ∨
    ∃ (o : Obj) (its : Array Value) (n : Nat), K.lookup a = some o ∧ o.cls = .type "tuple" ∧ o.data = .seq its n ∧ its.size ≤ sizeLine ∧ Vals xs its.toList
def absV : Value → Option V
  | .none => some .non
  | .bool b => some (.bl b)
  | .int i _ => some (.int i)
  | .str x _ => some (.str x)
  | .bytes b _ => some (.byt b)
  | .float b _ => some (.flt b)
  | .ref a => some (.ref a)
  | .type n => some (.ty n)
  | _ => none
theorem RelV.abs {x : V} {u : Value} (r : RelV x u) : absV u = some x := by
  cases x with
  | non => cases r; rfl
  | bl _ => cases r; rfl
  | int _ => obtain ⟨t, rfl⟩ := r; rfl
  | str _ => obtain ⟨t, rfl⟩ := r; rfl
  | byt _ => obtain ⟨t, rfl⟩ := r; rfl
  | flt _ => obtain ⟨t, rfl⟩ := r; rfl
  | ref _ => cases r; rfl
  | ty _ => cases r; rfl
theorem RelV.inj {x y : V} {u : Value} (r : RelV x u) (q : RelV y u) : x = y := Option.some.inj (r.abs.symm.trans q.abs)
theorem Vals.inj : ∀ {xs ys : List V} {us : List Value}, Vals xs us → Vals ys us → xs = ys
  | _, _, _, .nil, .nil => rfl
  | _, _, _, .cons r t, .cons r' t' => by rw [r.inj r', Vals.inj t t']
section
variable {X : Cx} {pins : List (Addr × Obj)} {σ : St} {H : Hp} {s : Shared} {a : Addr} {xs ys : List V}
theorem SqL.of {K : PySem.W.Frag} (h : H a = some (.lst xs)) : SqL K H a xs := .inl (.inl h)
theorem SqT.of {K : PySem.W.Frag} (h : H a = some (.tup xs)) : SqT K H a xs := .inl (.inl h)
theorem Inv.list (I : Inv X pins σ H s) (h : SqL X.K H a xs) : ∃ its : List Value, Vals xs its ∧ PlainL s.heap a its.toArray ∧ xs.length ≤ sizeLine := by
  rcases h with h | ⟨o, its, n, hk, hc, hd, hs, hz, r⟩
  · obtain ⟨z, its, n, r, e⟩ := h.ok I.hok
    exact ⟨its, r, ⟨_, n, e, rfl, rfl, rfl⟩, z⟩
  · refine ⟨its.toList, r, ⟨o, n, I.kIn a o hk, hc, hd, by simpa using hs⟩, ?_⟩
    have e := r.length
    simp only [Array.length_toList] at e
    omega
theorem Inv.tuple (I : Inv X pins σ H s) (h : SqT X.K H a xs) : ∃ its : List Value, Vals xs its ∧ IsTup s.heap a its.toArray ∧ xs.length ≤ sizeLine := by
  rcases h with h | ⟨o, its, n, hk, hc, hs, hz, r⟩
  · obtain ⟨z, its, r, p⟩ := h.ok I.hok
    exact ⟨its, r, p, z⟩
  · refine ⟨its.toList, r, ⟨o, I.kIn a o hk, hc, n, by simpa using hs⟩, ?_⟩
    have e := r.length
    simp only [Array.length_toList] at e
    omega
theorem Inv.list_inj (I : Inv X pins σ H s) (h : SqL X.K H a xs) (h' : SqL X.K H a ys) : xs = ys := by
  obtain ⟨its, r, ⟨o, n, e, _, _, d⟩, _⟩ := I.list h
  obtain ⟨its', r', ⟨o', n', e', _, _, d'⟩, _⟩ := I.list h'
  rw [e] at e'; cases e'
  rw [d] at d'
  injection d' with d1 _
  have : its = its' := by simpa using congrArg Array.toList d1
  subst this
  exact r.inj r'
theorem Inv.tuple_inj (I : Inv X pins σ H s) (h : SqT X.K H a xs) (h' : SqT X.K H a ys) : xs = ys := by
  obtain ⟨its, r, ⟨o, e, _, n, d⟩, _⟩ := I.tuple h
  obtain ⟨its', r', ⟨o', e', _, n', d'⟩, _⟩ := I.tuple h'
  rw [e] at e'; cases e'
  rw [d] at d'
  injection d' with d1 _
  have : its = its' := by simpa using congrArg Array.toList d1
  subst this
  exact r.inj r'
end

/-! ### another wish about exceptions -/
abbrev Cx.wish (X : Cx) (E : Value → Shared → Prop) : Cx := { X with xe := E }
/-- no exception leaves -/
abbrev Cx.nox (X : Cx) : Cx := X.wish fun _ _ => False
theorem Cx.Ok.wish {X : Cx} (ok : X.Ok) (E : Value → Shared → Prop) : (X.wish E).Ok :=
  ⟨ok.mod, ok.kind, ok.glob, ok.blt, ok.above, ok.inj, ok.has, ok.cab, ok.hd, ok.frames, ok.stk, ok.exf, ok.bs, ok.bsz, ok.noex, ok.exfs, ok.funs, ok.frf⟩
theorem Cx.Ok.unwish {X : Cx} {E : Value → Shared → Prop} (ok : (X.wish E).Ok) : X.Ok :=
  ⟨ok.mod, ok.kind, ok.glob, ok.blt, ok.above, ok.inj, ok.has, ok.cab, ok.hd, ok.frames, ok.stk, ok.exf, ok.bs, ok.bsz, ok.noex, ok.exfs, ok.funs, ok.frf⟩
section
variable {X : Cx} {pins : List (Addr × Obj)} {σ : St} {H : Hp} {s : Shared} {E : Value → Shared → Prop}
theorem Inv.wish (I : Inv X pins σ H s) (E : Value → Shared → Prop) : Inv (X.wish E) pins σ H s := ⟨I.ok.wish E, I.os, I.bare, I.base, I.loc, I.cell, I.free, I.freeC, I.pin, I.hok, I.len⟩
theorem Inv.unwish (I : Inv (X.wish E) pins σ H s) : Inv X pins σ H s := ⟨I.ok.unwish, I.os, I.bare, I.base, I.loc, I.cell, I.free, I.freeC, I.pin, I.hok, I.len⟩
theorem SP.unwish {D : Ends} {f : Flow} {s' : Shared} (h : SP (X.wish E) pins D f s') : SP X pins D f s' := by
  cases f with
  | next => obtain ⟨σ', H', I, q⟩ := h; exact ⟨σ', H', I.unwish, q⟩
  | brk => obtain ⟨σ', H', I, q⟩ := h; exact ⟨σ', H', I.unwish, q⟩
  | cont => obtain ⟨σ', H', I, q⟩ := h; exact ⟨σ', H', I.unwish, q⟩
  | ret u => obtain ⟨v, σ', H', I, r, q⟩ := h; exact ⟨v, σ', H', I.unwish, r, q⟩
theorem PE.nox {e : Expr} {t : TE} (h : PE X.nox e t) : PE X e t := fun pins s σ H Q I hw =>
  wpAny_mono (h pins s σ H Q (I.wish _) hw) (fun _ _ ⟨v, H', I', r, q⟩ => ⟨v, H', I'.unwish, r, q⟩) fun _ _ z => False.elim z
theorem PT.nox {e : Expr} {t : TT} (h : PT X.nox e t) : PT X e t := fun pins s σ H Q I hw =>
  wpAny_mono (h pins s σ H Q (I.wish _) hw) (fun _ _ ⟨H', I', q⟩ => ⟨H', I'.unwish, q⟩) fun _ _ z => False.elim z
theorem PSs.nox {st : List Stmt} {t : TS} (h : PSs X.nox st t) : PSs X st t := fun pins s σ H D I hw =>
  wpAny_mono (h pins s σ H D (I.wish _) hw) (fun _ _ q => q.unwish) fun _ _ z => False.elim z
end

/-! ### blocks and small statements -/
section
variable {X : Cx} {st : Stmt} {rest : List Stmt} {t u : TS} {e : Expr} {te : TE} {pos : Pos}
def tNext : TS := fun D σ H => D.nx σ H
def tSeq (t u : TS) : TS := fun D σ H => t { D with nx := u D } σ H
theorem pss_nil : PSs X [] tNext := fun _ _ σ H _ I h => wpAny_execs_nil ⟨σ, H, I, h⟩
theorem pss_cons (h1 : PS X st t) (h2 : PSs X rest u) : PSs X (st :: rest) (tSeq t u) := by
  intro pins s σ H D I h
  refine wpAny_execs_cons (thn (h1 pins s σ H { D with nx := u D } I h) fun f s1 q => ?_)
  cases f with
  | next =>
    obtain ⟨σ', H', I', q⟩ := q
    exact h2 pins s1 σ' H' D I' q
  | ret v => exact q
  | brk => exact q
  | cont => exact q
theorem pss_one (h1 : PS X st t) : PSs X [st] t := by
  intro pins s σ H D I h
  refine wpAny_execs_cons (thn (h1 pins s σ H D I h) fun f s1 q => ?_)
  cases f with
  | next => exact wpAny_execs_nil q
  | ret v => exact q
  | brk => exact q
  | cont => exact q
/-- in a def's body nothing is shown -/
theorem Inv.quiet {pins : List (Addr × Obj)} {σ : St} {H : Hp} {s : Shared} (I : Inv X pins σ H s) : interactive X.env = false := by simp [interactive, I.ok.kind]
/-- an expression whose value is dropped -/
def tDrop (te : TE) : TS := fun D σ H => te σ H fun _ H1 => D.nx σ H1
theorem ps_expr (he : PE X e te) (hs : swapsWith e none pos.line X.env = pure false := by rfl) : PS X (.Expr e pos) (tDrop te) := by
  intro pins s σ H D I h
  exact wpAny_Expr_any (thn (he pins s σ H _ I h) fun v s1 ⟨x, H1, I1, r1, q1⟩ => ⟨σ, H1, I1, q1⟩) I.quiet hs
def tRet (te : TE) : TS := fun D σ H => te σ H D.rt
theorem ps_ret (he : PE X e te) : PS X (.Return (some e) pos) (tRet te) := by
  intro pins s σ H D I h
  exact wpAny_Return_some (thn (he pins s σ H _ I h) fun v s1 ⟨x, H1, I1, r1, q1⟩ => ⟨x, σ, H1, I1, r1, q1⟩)
def tIfS (c : TT) (t u : TS) : TS := fun D σ H => c σ H fun b H1 => if b = true then t D σ H1 else u D σ H1
theorem ps_if {c : Expr} {a b : List Stmt} {tc : TT} (hc : PT X c tc) (ha : PSs X a t) (hb : PSs X b u) : PS X (.If c a b pos) (tIfS tc t u) := by
  intro pins s σ H D I h
  refine wpAny_If (thn (hc pins s σ H _ I h) fun d s1 ⟨H1, I1, q1⟩ => ?_)
  cases d with
  | true => exact ha pins s1 σ H1 D I1 q1
  | false => exact hb pins s1 σ H1 D I1 q1
end

/-! ### targets -/
abbrev TG := V → St → Hp → (St → Hp → Prop) → Prop
abbrev TGs := List V → St → Hp → (St → Hp → Prop) → Prop
def PG (X : Cx) (target : Expr) (t : TG) : Prop :=
  ∀ (pins : List (Addr × Obj)) (s : Shared) (σ : St) (H : Hp) (v : V) (u : Value) (Q : St → Hp → Prop), Inv X pins σ H s → RelV v u → t v σ H Q →
    wpAny (model X.prog X.w) X.A (assign target X.env u) (fun _ s' => ∃ σ' H', Inv X pins σ' H' s' ∧ Q σ' H') X.xe s
/-- several targets, one after another -/
def PGs (X : Cx) (ts : List Expr) (t : TGs) : Prop :=
  ∀ (pins : List (Addr × Obj)) (s : Shared) (σ : St) (H : Hp) (vs : List V) (us : List Value) (Q : St → Hp → Prop), Inv X pins σ H s → Vals vs us → t vs σ H Q →
    wpAny (model X.prog X.w) X.A (assignInOrder ((assignEach ts X.env).map (·.2)) us) (fun _ s' => ∃ σ' H', Inv X pins σ' H' s' ∧ Q σ' H') X.xe s
/-- o[i] = v, by values -/
abbrev TSet := V → V → V → Hp → (Hp → Prop) → Prop
def PSet (X : Cx) (t : TSet) : Prop :=
  ∀ (pins : List (Addr × Obj)) (s : Shared) (σ : St) (H : Hp) (o i v : V) (ov iv u : Value) (Q : Hp → Prop), Inv X pins σ H s → RelV o ov → RelV i iv → RelV v u → t o i v H Q →
    wpAny (model X.prog X.w) X.A (setItem ov iv u) (fun _ s' => ∃ H', Inv X pins σ H' s' ∧ Q H') X.xe s
section
variable {X : Cx} {pos : Pos}
def gName (i : Nat) : TG := fun v σ H Q => Q (σ.set i (some v)) H
theorem pg_name {i : Nat} {x : Str} (hN : X.N.Nodup) (hi : X.N[i]? = some x) (hx : Loc X.env.scope x) (hf : X.fn x = true ∨ X.env.scope.names.lookup x = some .local := by first | exact .inl rfl | exact .inr rfl | assumption) : PG X (.Name x pos) (gName i) := by
  intro pins s σ H v u Q I r h
  exact wpAny_assign_Name (store_ok I hN hi hx r (fun s' I' => ⟨_, H, I', h⟩) hf)
def gNil : TGs := fun vs σ H Q => vs = [] ∧ Q σ H
def gCons (t : TG) (u : TGs) : TGs := fun vs σ H Q => ∃ v r, vs = v :: r ∧ t v σ H fun σ' H' => u r σ' H' Q
theorem pgs_nil : PGs X [] gNil := by
  intro pins s σ H vs us Q I r h
  obtain ⟨e, h⟩ := h
  subst e
  cases r
  exact assignInOrder_nil ⟨σ, H, I, h⟩
theorem pgs_cons {e : Expr} {es : List Expr} {t : TG} {u : TGs} (h1 : PG X e t) (h2 : PGs X es u)
    (hs : (assignEach (e :: es) X.env).map (·.2) = assign e X.env :: (assignEach es X.env).map (·.2) := by rfl) : PGs X (e :: es) (gCons t u) := by
  intro pins s σ H vs us Q I r h
  obtain ⟨v, vr, e1, h⟩ := h
  subst e1
  cases r with
  | cons r rr =>
    rw [hs]
    refine assignInOrder_cons (thn (h1 pins s σ H _ _ _ I r h) fun _ s1 ⟨σ1, H1, I1, q1⟩ => ?_)
    exact h2 pins s1 σ1 H1 _ _ Q I1 rr q1
/-- (a, b, ..) = a tuple of that length -/
def gTup (K : PySem.W.Frag) (n : Nat) (t : TGs) : TG := fun v σ H Q => ∃ a xs, v = .ref a ∧ SqT K H a xs ∧ xs.length = n ∧ t xs σ H Q
theorem pg_tup {es : List Expr} {k : Nat} {t : TGs} {n : Nat} (hc : X.calm = true) (h : PGs X es t)
    (hn : (assignEach es X.env).length = n := by rfl) (hst : (assignEach es X.env).findIdx? (·.1) = none := by rfl) : PG X (.Tuple es k pos) (gTup X.K n t) := by
  intro pins s σ H v u Q I r hw
  obtain ⟨a, xs, e1, hq, hl, hw⟩ := hw
  subst e1
  cases r
  obtain ⟨its, rv, ht, hz⟩ := I.tuple hq
  refine assign_Tuple_tuple (I.ok.hd hc) ht (by simp [hn, ← hl, rv.length]) hst fun h' hx => ?_
  have I1 : Inv X pins σ H { s with heap := h' } := I.kept (t' := s.toks) fun b o e => hx b o (Nat.ne_of_lt (Heap.lt_size e)) e
  exact h pins _ σ H xs _ Q I1 (by simpa using rv) hw
/-- o[i] = .. -/
def gSub (to ti : TE) (t : TSet) : TG := fun v σ H Q => to σ H fun o H1 => ti σ H1 fun i H2 => t o i v H2 fun H3 => Q σ H3
theorem pg_sub {o i : Expr} {to ti : TE} {t : TSet} (ho : PE X o to) (hi : PE X i ti) (hs : PSet X t)
    (ha : ∀ v, assign (.Subscript o i pos) X.env v = (do
      let ov ← holding [v] (eval o X.env)
      let iv ← holding [v, ov] (eval i X.env)
      standAt pos
      holding [v, ov, iv] (setItem ov iv v)
      release [v, ov, iv] []) := by intro _; rfl) : PG X (.Subscript o i pos) (gSub to ti t) := by
  intro pins s σ H v u Q I r h
  rw [ha]
  refine wpAny_bind (wpAny_holding (thn (ho pins s σ H _ I h) fun ov s1 ⟨x, H1, I1, r1, q1⟩ => ?_))
  refine wpAny_bind (wpAny_holding (thn (hi pins s1 σ H1 _ I1 q1) fun iv s2 ⟨y, H2, I2, r2, q2⟩ => ?_))
  refine wpAny_bind (wpAny_standAt (wpAny_bind (wpAny_holding (thn (hs pins s2 σ H2 x y v ov iv u _ I2 r1 r2 r q2) fun _ s3 ⟨H3, I3, q3⟩ => ?_))))
  exact wpAny_release ⟨σ, H3, I3, q3⟩
/-- target = value -/
def tAsg (te : TE) (g : TG) : TS := fun D σ H => te σ H fun x H1 => g x σ H1 D.nx
theorem ps_asg {tg e : Expr} {te : TE} {g : TG} (he : PE X e te) (hg : PG X tg g) (hs : swapsWithSole [tg] e pos.line X.env = pure false := by rfl) (hw : swappedStores [tg] e X.env = pure none := by rfl)
    (h1 : (assignEach [tg] X.env).map (·.2) = [assign tg X.env] := by rfl) : PS X (.Assign [tg] e pos) (tAsg te g) := by
  intro pins s σ H D I h
  refine wpAny_Assign_stores (thn (he pins s σ H _ I h) fun v s1 ⟨x, H1, I1, r1, q1⟩ => ?_) hs hw
  rw [h1]
  exact thn (hg pins s1 σ H1 x v _ I1 r1 q1) fun _ s2 q => q
/-- name = value -/
theorem ps_set {i : Nat} {x : Str} {e : Expr} {te : TE} {pos' : Pos} (hN : X.N.Nodup) (hi : X.N[i]? = some x) (hx : Loc X.env.scope x) (he : PE X e te) (hs : swapsWith e (some (.Name x pos')) pos.line X.env = pure false := by rfl) (hf : X.fn x = true ∨ X.env.scope.names.lookup x = some .local := by first | exact .inl rfl | exact .inr rfl | assumption) :
    PS X (.Assign [.Name x pos'] e pos) (tAsg te (gName i)) := by
  intro pins s σ H D I h
  refine wpAny_Assign_Name (thn (he pins s σ H _ I h) fun v s1 ⟨y, H1, I1, r1, q1⟩ => ?_) hs
  exact store_ok I1 hN hi hx r1 (fun s2 I2 => ⟨_, H1, I2, q1⟩) hf
end

/-! ### while -/
section
variable {X : Cx} {pos : Pos}
end

/-! ### what a loop or a comprehension walks -/
/-- at turn i: it yields x (the heap may grow), or it stops -/
structure It where
  go : Nat → Hp → Prop
  yld : Nat → Hp → V → Hp → Prop
  stop : Nat → Hp → Prop
/-- the iterator's own objects may turn: they are not the frame's, not pinned, younger than the entry (or a comprehension's own) -/
def FpOk (X : Cx) (pins : List (Addr × Obj)) (H : Hp) (b : Addr) : Prop :=
  H b = none ∧ b ≠ X.env.locals ∧ b ∉ X.fs ∧ (b ∈ X.ex ∨ X.s₀.heap.objs.size ≤ b) ∧ (∀ x c, X.env.cells.lookup x = some c → c ≠ b) ∧ ∀ p ∈ X.pn ++ pins, p.1 ≠ b
theorem Inv.fpOk {X : Cx} {pins : List (Addr × Obj)} {σ : St} {H H' : Hp} {s : Shared} {b : Addr} (I : Inv X pins σ H s) (hb : s.heap.objs.size ≤ b) (hn : H' b = none) : FpOk X pins H' b := by
  refine ⟨hn, Nat.ne_of_gt (Nat.lt_of_lt_of_le I.lt hb), I.nofs hb, .inr (Nat.le_trans I.sz hb), fun x c e z => ?_, fun p hp z => ?_⟩
  · obtain ⟨v, q⟩ := I.cell x c e
    exact absurd (Nat.lt_of_lt_of_le q.lt (by rw [z]; exact hb)) (Nat.lt_irrefl _)
  · exact absurd (Nat.lt_of_lt_of_le (Heap.lt_size (I.pin p hp).1) (by rw [z]; exact hb)) (Nat.lt_irrefl _)
structure Turn (P : Program) (w : World) (K : PySem.W.Frag) (tg : Expr) (J : It) (fp : List Addr) (it : Addr) (tn : Nat → Heap → Prop) : Prop where
  mem : it ∈ fp
  obj : ∀ i h, tn i h → ∀ b ∈ fp, ∃ o, h.get? b = some o ∧ ∀ v, o.data ≠ .cell v
  keep : ∀ i h h', tn i h → (∀ b ∈ fp, ∀ o, h.get? b = some o → h'.get? b = some o) → tn i h'
  item : ∀ (X : Cx), X.prog = P → X.w = w → X.K = K → X.calm = true → ∀ (i : Nat) (pins : List (Addr × Obj)) (s : Shared) (σ : St) (H : Hp) (E : Value → Shared → Prop), Inv X pins σ H s → (∀ b ∈ fp, FpOk X pins H b) → tn i s.heap → J.go i H →
    wpAny (model P w) X.A (pyNext (.ref it)) (fun r s1 => ∃ u, r = some u ∧
      wpAny (model P w) X.A (letOwnedTupleGo tg (.ref it) u) (fun _ s2 => ∃ x H', Inv X pins σ H' s2 ∧ RelV x u ∧ J.yld i H x H' ∧ tn (i + 1) s2.heap ∧ ∀ b ∈ fp, H' b = none) E s1) E s
  done : ∀ (X : Cx), X.prog = P → X.w = w → X.K = K → X.calm = true → ∀ (i : Nat) (pins : List (Addr × Obj)) (s : Shared) (σ : St) (H : Hp) (E : Value → Shared → Prop), Inv X pins σ H s → (∀ b ∈ fp, FpOk X pins H b) → tn i s.heap → J.stop i H →
    wpAny (model P w) X.A (pyNext (.ref it)) (fun r s1 => r = none ∧ Inv X pins σ H s1) E s
  self : ∀ (A : Around) (i : Nat) (s : Shared) (Q : Value → Shared → Prop) (E : Value → Shared → Prop), tn i s.heap → Q (.ref it) s → wpAny (model P w) A (pyIter (.ref it)) Q E s
abbrev TI := St → Hp → (It → Hp → Prop) → Prop
/-- an iterator has come -/
def PIE (X : Cx) (pins : List (Addr × Obj)) (σ : St) (tg : Expr) (R : It → Hp → Prop) (itv : Value) (s2 : Shared) : Prop :=
  ∃ (it : Addr) (fp : List Addr) (tn : Nat → Heap → Prop) (J : It) (H' : Hp), itv = .ref it ∧ Inv X pins σ H' s2 ∧ Turn X.prog X.w X.K tg J fp it tn ∧ tn 0 s2.heap ∧ (∀ b ∈ fp, FpOk X pins H' b) ∧ R J H'
def PI (X : Cx) (tg iter : Expr) (wi : TI) : Prop :=
  ∀ (pins : List (Addr × Obj)) (s : Shared) (σ : St) (H : Hp) (R : It → Hp → Prop), Inv X pins σ H s → wi σ H R →
    wpAny (model X.prog X.w) X.A (eval iter X.env) (fun v s1 => wpAny (model X.prog X.w) X.A (pyIter v) (PIE X pins σ tg R) X.xe s1) X.xe s

/-- the step ahead of the store is nothing for an iterator that keeps no tuple -/
theorem go_of {M : Model} {A : Around} {E : Value → Shared → Prop} {s : Shared} {tg : Expr} {it : Addr} {u : Value} {o : Obj} {n : String} {vs : Array Value} {Q : Unit → Shared → Prop} (ho : s.heap.get? it = some o) (hc : o.cls = .type n) (hd : o.data = .fields vs)
    (hn : ["enumerate", "zip", "dict_itemiterator", "dict_reverseitemiterator", "odict_iterator", "itertools.zip_longest", "itertools.pairwise"].contains n = false) (hQ : Q () s) : wpAny M A (letOwnedTupleGo tg (.ref it) u) Q E s := by
  unfold letOwnedTupleGo
  cases tg <;> first
    | exact wpAny_pure hQ
    | (cases u <;> first
        | exact wpAny_pure hQ
        | (refine wpAny_bind (wpAny_load ho ?_)
           rw [hc, hd]
           show wpAny M A (if (["enumerate", "zip", "dict_itemiterator", "dict_reverseitemiterator", "odict_iterator", "itertools.zip_longest", "itertools.pairwise"].contains n && vs[0]? == some (rawInt _)) = true then _ else _) Q E s
           rw [if_neg (by intro h; rw [hn, Bool.false_and] at h; cases h)]
           exact wpAny_pure hQ))

/-- the list at a, as it stands at each turn (a loop may append to it) -/
def Itl (K : PySem.W.Frag) (a : Addr) : It :=
  ⟨fun i H => ∃ xs x, SqL K H a xs ∧ xs[i]? = some x, fun i H x H' => H' = H ∧ ∀ xs, SqL K H a xs → xs[i]? = some x, fun i H => ∃ xs, SqL K H a xs ∧ xs.length ≤ i⟩
def Itt (K : PySem.W.Frag) (a : Addr) : It :=
  ⟨fun i H => ∃ xs x, SqT K H a xs ∧ xs[i]? = some x, fun i H x H' => H' = H ∧ ∀ xs, SqT K H a xs → xs[i]? = some x, fun i H => ∃ xs, SqT K H a xs ∧ xs.length ≤ i⟩
/-- lo, lo + 1, .. (n of them) -/
def Itr (lo : Int) (n : Nat) : It := ⟨fun i _ => i < n, fun i H x H' => H' = H ∧ x = .int (lo + i), fun i _ => n ≤ i⟩
theorem turn_list {P : Program} {w : World} {K : PySem.W.Frag} {tg : Expr} (a it : Addr) : Turn P w K tg (Itl K a) [it] it (fun i h => h.IsListIter it a i) where
  mem := by simp
  obj := fun i h st b hb => by
    have e : b = it := by simpa using hb
    subst e
    obtain ⟨o, e, c, d⟩ := st
    exact ⟨o, e, fun v z => by rw [d] at z; cases z⟩
  keep := fun i h h' st k => st.at fun o e => k it (by simp) o e
  item := by
    intro X hP hw hK hc i pins s σ H E I hf st hg
    subst hP hw hK
    obtain ⟨xs, x, hq, hx⟩ := hg
    obtain ⟨its, rv, p, hz⟩ := I.list hq
    obtain ⟨u, hu, ru⟩ := rv.get hx
    obtain ⟨f0, f1, f2, f3, f4, f5⟩ := hf it (by simp)
    refine wpAny_pyNext_list_item st p.isList (x := u) (by simpa using hu) fun h' st' sb => ?_
    have I1 : Inv X pins σ H { s with heap := h' } := I.turned (t' := s.toks) (fun b o hb e => (sb.2 b hb).trans e) f0 f1 f3 f4 f5
    obtain ⟨o, e, c, d⟩ := id st'
    exact ⟨u, rfl, go_of (s := { s with heap := h' }) e c d (by decide) ⟨x, H, I1, ru, ⟨rfl, fun ys hy => by rw [I.list_inj hy hq]; exact hx⟩, st', fun b hb => (hf b hb).1⟩⟩
  done := by
    intro X hP hw hK hc i pins s σ H E I hf st hg
    subst hP hw hK
    obtain ⟨xs, hq, hx⟩ := hg
    obtain ⟨its, rv, p, hz⟩ := I.list hq
    obtain ⟨f0, f1, f2, f3, f4, f5⟩ := hf it (by simp)
    have hl := rv.length
    exact wpAny_pyNext_list_end (I.ok.hd hc) st p.isList (by simp; omega) fun h' eb => ⟨rfl, I.turned (t' := s.toks) (fun b o hb e => eb b o hb e) f0 f1 f3 f4 f5⟩
  self := fun _ _ _ _ _ st h => wpAny_pyIter_listiter st h
theorem turn_tuple {P : Program} {w : World} {K : PySem.W.Frag} {tg : Expr} (a it : Addr) : Turn P w K tg (Itt K a) [it] it (fun i h => h.IsTupleIter it a i) where
  mem := by simp
  obj := fun i h st b hb => by
    have e : b = it := by simpa using hb
    subst e
    obtain ⟨o, e, c, d⟩ := st
    exact ⟨o, e, fun v z => by rw [d] at z; cases z⟩
  keep := fun i h h' st k => st.at fun o e => k it (by simp) o e
  item := by
    intro X hP hw hK hc i pins s σ H E I hf st hg
    subst hP hw hK
    obtain ⟨xs, x, hq, hx⟩ := hg
    obtain ⟨its, rv, p, hz⟩ := I.tuple hq
    obtain ⟨u, hu, ru⟩ := rv.get hx
    obtain ⟨f0, f1, f2, f3, f4, f5⟩ := hf it (by simp)
    refine wpAny_pyNext_tuple_item st (show s.heap.IsTuple a its.toArray from p) (x := u) (by simpa using hu) fun h' st' sb => ?_
    have I1 : Inv X pins σ H { s with heap := h' } := I.turned (t' := s.toks) (fun b o hb e => (sb.2 b hb).trans e) f0 f1 f3 f4 f5
    obtain ⟨o, e, c, d⟩ := id st'
    exact ⟨u, rfl, go_of (s := { s with heap := h' }) e c d (by decide) ⟨x, H, I1, ru, ⟨rfl, fun ys hy => by rw [I.tuple_inj hy hq]; exact hx⟩, st', fun b hb => (hf b hb).1⟩⟩
  done := by
    intro X hP hw hK hc i pins s σ H E I hf st hg
    subst hP hw hK
    obtain ⟨xs, hq, hx⟩ := hg
    obtain ⟨its, rv, p, hz⟩ := I.tuple hq
    obtain ⟨f0, f1, f2, f3, f4, f5⟩ := hf it (by simp)
    have hl := rv.length
    exact wpAny_pyNext_tuple_end (I.ok.hd hc) st (show s.heap.IsTuple a its.toArray from p) (by simp; omega) fun h' eb => ⟨rfl, I.turned (t' := s.toks) (fun b o hb e => eb b o hb e) f0 f1 f3 f4 f5⟩
  self := fun _ _ _ _ _ st h => wpAny_pyIter_tupleiter st h
theorem turn_range {P : Program} {w : World} {K : PySem.W.Frag} {tg : Expr} (it : Addr) (lo : Int) (n : Nat) : Turn P w K tg (Itr lo n) [it] it (fun i h => IsRangeIter h it (lo + (i : Nat) * 1) ((n : Int) - (i : Nat)) 1) where
  mem := by simp
  obj := fun i h st b hb => by
    have e : b = it := by simpa using hb
    subst e
    exact ⟨_, st, fun v z => by
      have z' : Data.fields _ = Data.cell v := z
      cases z'⟩
  keep := fun i h h' st k => k it (by simp) _ st
  item := by
    intro X hP hw hK hc i pins s σ H E I hf st hg
    subst hP hw hK
    obtain ⟨f0, f1, f2, f3, f4, f5⟩ := hf it (by simp)
    have W := Walks.range (prog := X.prog) (w := X.w) (I.ok.hd hc) it lo 1 n
    refine W.item i s _ _ hg st fun v h' tk hv st' kk => ?_
    obtain ⟨t, rfl⟩ := hv
    have I1 : Inv X pins σ H { s with heap := h', toks := tk } := I.turned (fun b o hb e => kk b o (by simpa using hb) e) f0 f1 f3 f4 f5
    refine ⟨_, rfl, go_of (s := { s with heap := h', toks := tk }) (n := "range_iterator") st' rfl rfl (by decide) ⟨.int (lo + i), H, I1, ⟨t, ?_⟩, ⟨rfl, rfl⟩, st', fun b hb => (hf b hb).1⟩⟩
    rw [Int.mul_one]
  done := by
    intro X hP hw hK hc i pins s σ H E I hf st hg
    subst hP hw hK
    obtain ⟨f0, f1, f2, f3, f4, f5⟩ := hf it (by simp)
    exact wpAny_pyNext_range_end (I.ok.hd hc) st (by have : n ≤ i := hg; omega) fun h' eb => ⟨rfl, I.turned (t' := s.toks) (fun b o hb e => eb b o hb e) f0 f1 f3 f4 f5⟩
  self := fun _ _ _ _ _ st h => wpAny_pyIter_rangeiter st h
end L2

namespace L2
open PySem PySem.Spec PyProof.Rows
section
variable {X : Cx} {tg : Expr}
def iList (K : PySem.W.Frag) (tl : TE) : TI := fun σ H R => tl σ H fun x H1 => ∃ a, x = .ref a ∧ (∃ xs, SqL K H1 a xs) ∧ R (Itl K a) H1
def iTup (K : PySem.W.Frag) (tl : TE) : TI := fun σ H R => tl σ H fun x H1 => ∃ a, x = .ref a ∧ (∃ xs, SqT K H1 a xs) ∧ R (Itt K a) H1
theorem pi_list {l : Expr} {tl : TE} (hl : PE X l tl) : PI X tg l (iList X.K tl) := by
  intro pins s σ H R I h
  refine thn (hl pins s σ H _ I h) fun v s1 ⟨x, H1, I1, r1, q1⟩ => ?_
  obtain ⟨a, e, ⟨xs, hq⟩, q⟩ := q1
  subst e
  cases r1
  obtain ⟨its, rv, p, hz⟩ := I1.list hq
  refine wpAny_pyIter_list p.isList ?_
  refine ⟨s1.heap.objs.size, [s1.heap.objs.size], _, _, H1, rfl, I1.kept (t' := s1.toks) fun b o e => Heap.get?_push_of_some _ e, turn_list a _, ⟨_, Heap.get?_push_size _ rfl, rfl, rfl⟩, fun b hb => ?_, q⟩
  have e : b = s1.heap.objs.size := by simpa using hb
  subst e
  exact I1.fpOk (Nat.le_refl _) (I1.hok.fresh (Nat.le_refl _))
theorem pi_tup {l : Expr} {tl : TE} (hl : PE X l tl) : PI X tg l (iTup X.K tl) := by
  intro pins s σ H R I h
  refine thn (hl pins s σ H _ I h) fun v s1 ⟨x, H1, I1, r1, q1⟩ => ?_
  obtain ⟨a, e, ⟨xs, hq⟩, q⟩ := q1
  subst e
  cases r1
  obtain ⟨its, rv, p, hz⟩ := I1.tuple hq
  refine wpAny_pyIter_tuple (show s1.heap.IsTuple a its.toArray from p) ?_
  refine ⟨s1.heap.objs.size, [s1.heap.objs.size], _, _, H1, rfl, I1.kept (t' := s1.toks) fun b o e => Heap.get?_push_of_some _ e, turn_tuple a _, ⟨_, Heap.get?_push_size _ rfl, rfl, rfl⟩, fun b hb => ?_, q⟩
  have e : b = s1.heap.objs.size := by simpa using hb
  subst e
  exact I1.fpOk (Nat.le_refl _) (I1.hok.fresh (Nat.le_refl _))
/-- a range object just made, walked -/
theorem range_it {pins : List (Addr × Obj)} {σ : St} {H : Hp} {s : Shared} {R : It → Hp → Prop} {E : Value → Shared → Prop} {lo hi : Int} {t u v : Tok} {tk : Nat} (I : Inv X pins σ H s) (h1 : -(2 ^ 62) ≤ lo) (h2 : lo < 2 ^ 62) (h3 : -(2 ^ 62) ≤ hi) (h4 : hi < 2 ^ 62)
    (q : R (Itr lo (hi - lo).toNat) H) : wpAny (model X.prog X.w) X.A (pyIter (.ref s.heap.objs.size)) (PIE X pins σ tg R) E { s with heap := s.heap.push { cls := .type "range", data := .fields #[.int lo t, .int hi u, .int 1 v] }, toks := tk } := by
  refine wpAny_pyIter_range (IsRange.new ..) (small_one h1 h2 h3 h4) ?_
  have I1 : Inv X pins σ H { s with heap := s.heap.push { cls := .type "range", data := .fields #[.int lo t, .int hi u, .int 1 v] }, toks := tk } := I.kept fun b o e => Heap.get?_push_of_some _ e
  refine ⟨(s.heap.push { cls := .type "range", data := .fields #[.int lo t, .int hi u, .int 1 v] }).objs.size, [(s.heap.push { cls := .type "range", data := .fields #[.int lo t, .int hi u, .int 1 v] }).objs.size], _, _, H, rfl,
    I1.kept (t' := tk) fun b o e => Heap.get?_push_of_some _ e, turn_range _ lo (hi - lo).toNat, ?_, fun b hb => ?_, q⟩
  · have e1 : lo + ((0 : Nat) : Int) * 1 = lo := by simp
    have e2 : (((hi - lo).toNat : Nat) : Int) - ((0 : Nat) : Int) = Builtin.Range.rangeSize lo hi 1 := by rw [rangeSize_one]; split <;> omega
    show IsRangeIter _ _ (lo + ((0 : Nat) : Int) * 1) ((((hi - lo).toNat : Nat) : Int) - ((0 : Nat) : Int)) 1
    rw [e1, e2]
    exact Heap.get?_push_size _ rfl
  · have e : b = (s.heap.push { cls := .type "range", data := .fields #[.int lo t, .int hi u, .int 1 v] }).objs.size := by simpa using hb
    subst e
    exact I1.fpOk (Nat.le_refl _) (I1.hok.fresh (Nat.le_refl _))
def iRng1 (ta : TA) : TI := fun σ H R => ta σ H fun vs H1 => ∃ j : Int, vs = [.int j] ∧ -(2 ^ 62) ≤ j ∧ j < 2 ^ 62 ∧ R (Itr 0 j.toNat) H1
theorem pi_range1 {a : Expr} {ta : TA} {p pos : Pos} (hg : Gl X "range") (hm : X.mg "range" = none) (ha : PA X [a] ta) (hs : starEach [a] X.env = [(false, eval a X.env)] := by rfl) : PI X tg (.Call (.Name "range" p) [a] [] pos) (iRng1 ta) := by
  intro pins s σ H R I h
  refine Call_ (ld_blt I hg hm boot_range (PyProof.Rows.callWith_type1 (thn (ha pos pins s σ H _ I h) fun us s1 ⟨vs, H1, I1, r1, q1⟩ => ?_) hs rfl))
  obtain ⟨j, e, q1, q2, q⟩ := q1
  subst e
  cases r1 with
  | cons r rr =>
    cases rr
    obtain ⟨t, rfl⟩ := r
    exact call_range_1 (range_it I1 (by omega) (by omega) q1 q2 (by simpa using q))
/-! ### for -/
/-- W: the invariant by the turn and a measure; N: what the body is to reach -/
def tFor (wi : TI) (g : TG) (tb : TS) : TS := fun D σ H => wi σ H fun J H1 => ∃ W : Nat → Nat → St → Hp → Prop, (∃ m, W 0 m σ H1) ∧ ∀ i m σ H, W i m σ H →
  (J.stop i H ∧ D.nx σ H) ∨ (J.go i H ∧ ∃ N : St → Hp → Prop, (∀ σ' H', N σ' H' → ∃ m', m' < m ∧ W (i + 1) m' σ' H') ∧ ∀ x H', J.yld i H x H' → g x σ H' fun σ2 H2 => tb { D with nx := N, ct := N, bk := D.nx } σ2 H2)
/-- the records at fp as they stand -/
def pinsAt (fp : List Addr) (h : Heap) : List (Addr × Obj) := fp.filterMap fun b => (h.get? b).map fun o => (b, o)
theorem mem_pinsAt {fp : List Addr} {h : Heap} {b : Addr} {o : Obj} (hb : b ∈ fp) (e : h.get? b = some o) : (b, o) ∈ pinsAt fp h := List.mem_filterMap.mpr ⟨b, hb, by rw [e]; rfl⟩
theorem of_pinsAt {fp : List Addr} {h : Heap} {p : Addr × Obj} (hp : p ∈ pinsAt fp h) : p.1 ∈ fp ∧ h.get? p.1 = some p.2 := by
  obtain ⟨b, hb, e⟩ := List.mem_filterMap.mp hp
  cases q : h.get? b with
  | none => rw [q] at e; cases e
  | some o =>
    rw [q] at e
    have e' : (b, o) = p := Option.some.inj e
    subst e'
    exact ⟨hb, q⟩
theorem Inv.pinned {pins : List (Addr × Obj)} {σ : St} {H : Hp} {s : Shared} {fp : List Addr} (I : Inv X pins σ H s) (hf : ∀ b ∈ fp, FpOk X pins H b) (ho : ∀ b ∈ fp, ∃ o, s.heap.get? b = some o ∧ ∀ v, o.data ≠ .cell v) : Inv X (pins ++ pinsAt fp s.heap) σ H s :=
  I.pins_of fun p hp => (List.mem_append.mp hp).elim (fun z => I.pin p (List.mem_append_right _ z)) fun z => by
    obtain ⟨hb, e⟩ := of_pinsAt z
    obtain ⟨f0, f1, f2, _⟩ := hf p.1 hb
    obtain ⟨o, e', d⟩ := ho p.1 hb
    rw [e] at e'; cases e'
    exact ⟨e, f0, f1, f2, d⟩
theorem Inv.unpinned {pins pl : List (Addr × Obj)} {σ : St} {H : Hp} {s : Shared} (I : Inv X (pins ++ pl) σ H s) : Inv X pins σ H s := I.pins_of fun p hp => I.pin p (List.mem_append_right _ (List.mem_append_left _ hp))
theorem ps_for {iter : Expr} {body : List Stmt} {wi : TI} {g : TG} {tb : TS} {pos : Pos} (hp : PassesOwn (model X.prog X.w) X.A X.env X.xe) (hc : X.calm = true) (hi : PI X tg iter wi) (hg : PG X tg g) (hb : PSs X body tb)
    (hs : ∀ x, foldedSetIterable iter X.env x = pure x := by intro _; rfl) : PS X (.For tg iter body [] pos) (tFor wi g tb) := by
  intro pins s σ H D I h
  refine wpAny_For (thn (hi pins s σ H _ I h) fun v s1 h1 => thn h1 fun itv s2 h2 => ?_) hs
  obtain ⟨it, fp, tn, J, H2, e, I2, T, st2, f2, W, ⟨m0, w0⟩, turn⟩ := h2
  subst e
  -- what stays true of the iterator's objects through the loop
  have stat : ∀ {H' : Hp}, (∀ b ∈ fp, H' b = none) → ∀ b ∈ fp, FpOk X pins H' b := fun hn b hb => ⟨hn b hb, (f2 b hb).2⟩
  refine codeAny_forLoop_any (fun n s' => ∃ i σ' H', Inv X pins σ' H' s' ∧ tn i s'.heap ∧ (∀ b ∈ fp, H' b = none) ∧ W i n σ' H') ?_ m0 ⟨0, σ, H2, I2, st2, fun b hb => (f2 b hb).1, w0⟩
  rintro n s3 ⟨i, σ3, H3, I3, st3, fr3, w3⟩
  rcases turn i n σ3 H3 w3 with ⟨stop, qn⟩ | ⟨go, N, hN, step⟩
  · refine wpAny_passesOwn hp (thn (T.done X rfl rfl rfl hc i pins s3 σ3 H3 X.xe I3 (stat fr3) st3 stop) fun r s4 ⟨hr, I4⟩ => ?_)
    subst hr
    exact wpAny_execs_nil ⟨σ3, H3, I4, qn⟩
  · refine wpAny_passesOwn hp (thn (T.item X rfl rfl rfl hc i pins s3 σ3 H3 X.xe I3 (stat fr3) st3 go) fun r s4 ⟨u, hr, h4⟩ => ?_)
    subst hr
    refine wpAny_passesOwn hp (thn h4 fun _ s5 ⟨x, H5, I5, r5, y5, st5, fr5⟩ => ?_)
    have I5' := I5.pinned (stat fr5) (T.obj _ _ st5)
    refine wpAny_passesOwn hp (thn (hg _ s5 σ3 H5 x u _ I5' r5 (step x H5 y5)) fun _ s6 ⟨σ6, H6, I6, q6⟩ => ?_)
    refine wpAny_passesOwn hp (thn (hb _ s6 σ6 H6 _ I6 q6) fun f s7 q7 => ?_)
    have again : ∀ {σ7 : St} {H7 : Hp}, Inv X (pins ++ pinsAt fp s5.heap) σ7 H7 s7 → N σ7 H7 → ∃ m, m < n ∧ ∃ i σ' H', Inv X pins σ' H' s7 ∧ tn i s7.heap ∧ (∀ b ∈ fp, H' b = none) ∧ W i m σ' H' := fun {σ7 H7} I7 n7 => by
      obtain ⟨m', hm, w7⟩ := hN σ7 H7 n7
      refine ⟨m', hm, i + 1, σ7, H7, I7.unpinned, T.keep _ _ _ st5 fun b hb o e => (I7.pin (b, o) (List.mem_append_right _ (List.mem_append_right _ (mem_pinsAt hb e)))).1, fun b hb => ?_, w7⟩
      obtain ⟨o, e, d⟩ := T.obj _ _ st5 b hb
      exact (I7.pin (b, o) (List.mem_append_right _ (List.mem_append_right _ (mem_pinsAt hb e)))).2.1
    cases f with
    | next => obtain ⟨σ7, H7, I7, n7⟩ := q7; exact again I7 n7
    | cont => obtain ⟨σ7, H7, I7, n7⟩ := q7; exact again I7 n7
    | brk => obtain ⟨σ7, H7, I7, q7⟩ := q7; exact ⟨σ7, H7, I7.unpinned, q7⟩
    | ret v => obtain ⟨x7, σ7, H7, I7, r7, q7⟩ := q7; exact ⟨x7, σ7, H7, I7.unpinned, r7, q7⟩
end

/-! ### the forms one uses -/
/-- over a list that the body leaves as it is -/
theorem for_list {K : PySem.W.Frag} {a : Addr} {xs : List V} {g : TG} {tb : TS} {D : Ends} {σ : St} {H : Hp} (Pv : Nat → St → Hp → Prop) (h0 : Pv 0 σ H) (hl : ∀ i σ H, i ≤ xs.length → Pv i σ H → SqL K H a xs)
    (hs : ∀ i x σ H, xs[i]? = some x → Pv i σ H → g x σ H fun σ2 H2 => tb { D with nx := Pv (i + 1), ct := Pv (i + 1), bk := D.nx } σ2 H2) (hd : ∀ σ H, Pv xs.length σ H → D.nx σ H) :
    ∃ W : Nat → Nat → St → Hp → Prop, (∃ m, W 0 m σ H) ∧ ∀ i m σ H, W i m σ H →
      ((Itl K a).stop i H ∧ D.nx σ H) ∨ ((Itl K a).go i H ∧ ∃ N : St → Hp → Prop, (∀ σ' H', N σ' H' → ∃ m', m' < m ∧ W (i + 1) m' σ' H') ∧ ∀ x H', (Itl K a).yld i H x H' → g x σ H' fun σ2 H2 => tb { D with nx := N, ct := N, bk := D.nx } σ2 H2) := by
  refine ⟨fun i m σ H => m = xs.length - i ∧ i ≤ xs.length ∧ Pv i σ H, ⟨xs.length, by simp, Nat.zero_le _, h0⟩, ?_⟩
  rintro i m σ H ⟨rfl, hi, p⟩
  have q := hl i σ H hi p
  by_cases hlt : i < xs.length
  · refine .inr ⟨⟨xs, xs[i], q, by simp [hlt]⟩, Pv (i + 1), fun σ' H' p' => ⟨xs.length - (i + 1), by omega, rfl, hlt, p'⟩, fun x H' y => ?_⟩
    obtain ⟨e, y⟩ := y
    subst e
    exact hs i x σ _ (y xs q) p
  · have e : i = xs.length := by omega
    subst e
    exact .inl ⟨⟨xs, q, Nat.le_refl _⟩, hd σ H p⟩
theorem for_tup {K : PySem.W.Frag} {a : Addr} {xs : List V} {g : TG} {tb : TS} {D : Ends} {σ : St} {H : Hp} (Pv : Nat → St → Hp → Prop) (h0 : Pv 0 σ H) (hl : ∀ i σ H, i ≤ xs.length → Pv i σ H → SqT K H a xs)
    (hs : ∀ i x σ H, xs[i]? = some x → Pv i σ H → g x σ H fun σ2 H2 => tb { D with nx := Pv (i + 1), ct := Pv (i + 1), bk := D.nx } σ2 H2) (hd : ∀ σ H, Pv xs.length σ H → D.nx σ H) :
    ∃ W : Nat → Nat → St → Hp → Prop, (∃ m, W 0 m σ H) ∧ ∀ i m σ H, W i m σ H →
      ((Itt K a).stop i H ∧ D.nx σ H) ∨ ((Itt K a).go i H ∧ ∃ N : St → Hp → Prop, (∀ σ' H', N σ' H' → ∃ m', m' < m ∧ W (i + 1) m' σ' H') ∧ ∀ x H', (Itt K a).yld i H x H' → g x σ H' fun σ2 H2 => tb { D with nx := N, ct := N, bk := D.nx } σ2 H2) := by
  refine ⟨fun i m σ H => m = xs.length - i ∧ i ≤ xs.length ∧ Pv i σ H, ⟨xs.length, by simp, Nat.zero_le _, h0⟩, ?_⟩
  rintro i m σ H ⟨rfl, hi, p⟩
  have q := hl i σ H hi p
  by_cases hlt : i < xs.length
  · refine .inr ⟨⟨xs, xs[i], q, by simp [hlt]⟩, Pv (i + 1), fun σ' H' p' => ⟨xs.length - (i + 1), by omega, rfl, hlt, p'⟩, fun x H' y => ?_⟩
    obtain ⟨e, y⟩ := y
    subst e
    exact hs i x σ _ (y xs q) p
  · have e : i = xs.length := by omega
    subst e
    exact .inl ⟨⟨xs, q, Nat.le_refl _⟩, hd σ H p⟩
theorem for_range {lo : Int} {n : Nat} {g : TG} {tb : TS} {D : Ends} {σ : St} {H : Hp} (Pv : Nat → St → Hp → Prop) (h0 : Pv 0 σ H)
    (hs : ∀ i σ H, i < n → Pv i σ H → g (.int (lo + i)) σ H fun σ2 H2 => tb { D with nx := Pv (i + 1), ct := Pv (i + 1), bk := D.nx } σ2 H2) (hd : ∀ σ H, Pv n σ H → D.nx σ H) :
    ∃ W : Nat → Nat → St → Hp → Prop, (∃ m, W 0 m σ H) ∧ ∀ i m σ H, W i m σ H →
      ((Itr lo n).stop i H ∧ D.nx σ H) ∨ ((Itr lo n).go i H ∧ ∃ N : St → Hp → Prop, (∀ σ' H', N σ' H' → ∃ m', m' < m ∧ W (i + 1) m' σ' H') ∧ ∀ x H', (Itr lo n).yld i H x H' → g x σ H' fun σ2 H2 => tb { D with nx := N, ct := N, bk := D.nx } σ2 H2) := by
  refine ⟨fun i m σ H => m = n - i ∧ i ≤ n ∧ Pv i σ H, ⟨n, by simp, Nat.zero_le _, h0⟩, ?_⟩
  rintro i m σ H ⟨rfl, hi, p⟩
  by_cases hlt : i < n
  · refine .inr ⟨hlt, Pv (i + 1), fun σ' H' p' => ⟨n - (i + 1), by omega, rfl, hlt, p'⟩, fun x H' y => ?_⟩
    obtain ⟨e, y⟩ := y
    subst e y
    exact hs i σ _ hlt p
  · have e : i = n := by omega
    subst e
    exact .inl ⟨Nat.le_refl _, hd σ H p⟩
end L2

namespace L2
open PySem PySem.Spec PyProof.Rows

abbrev R2 := V → V → Hp → VK → Prop
/-- a two-place operation on values: f is binaryOp op, inplaceOp op or compareOp op -/
def OpR (X : Cx) (f : Value → Value → Sem Value) (r : R2) : Prop :=
  ∀ (pins : List (Addr × Obj)) (s : Shared) (σ : St) (H : Hp) (x y : V) (v u : Value) (Q : VK), Inv X pins σ H s → RelV x v → RelV y u → r x y H Q →
    wpAny (model X.prog X.w) X.A (f v u) (EP X pins σ Q) X.xe s
/-- a one-place operation -/
def UnR (X : Cx) (f : Value → Sem Value) (r : V → Hp → VK → Prop) : Prop :=
  ∀ (pins : List (Addr × Obj)) (s : Shared) (σ : St) (H : Hp) (x : V) (v : Value) (Q : VK), Inv X pins σ H s → RelV x v → r x H Q →
    wpAny (model X.prog X.w) X.A (f v) (EP X pins σ Q) X.xe s
/-- a call of a value that is known (a builtin, a type) with values -/
def CallR (X : Cx) (f : Value) (r : List V → Hp → VK → Prop) : Prop :=
  ∀ (pins : List (Addr × Obj)) (s : Shared) (σ : St) (H : Hp) (xs : List V) (us : List Value) (Q : VK), Inv X pins σ H s → Vals xs us → r xs H Q →
    wpAny (model X.prog X.w) X.A (call f us) (EP X pins σ Q) X.xe s
/-- a value's truth -/
def TruR (X : Cx) (r : V → Hp → (Bool → Hp → Prop) → Prop) : Prop :=
  ∀ (pins : List (Addr × Obj)) (s : Shared) (σ : St) (H : Hp) (x : V) (v : Value) (Q : Bool → Hp → Prop), Inv X pins σ H s → RelV x v → r x H Q →
    wpAny (model X.prog X.w) X.A (truthy v) (TP X pins σ Q) X.xe s

def tOp (r : R2) (ta tb : TE) : TE := fun σ H Q => ta σ H fun x H1 => tb σ H1 fun y H2 => r x y H2 Q
def tUn (r : V → Hp → VK → Prop) (ta : TE) : TE := fun σ H Q => ta σ H fun x H1 => r x H1 Q
/-- ints in, under C, and a value out -/
def rI (C : Int → Int → Prop) (g : Int → Int → V) : R2 := fun x y H Q => ∃ i j, x = .int i ∧ y = .int j ∧ C i j ∧ Q (g i j) H
def rI0 (g : Int → Int → V) : R2 := fun x y H Q => ∃ i j, x = .int i ∧ y = .int j ∧ Q (g i j) H
def rU (g : Int → V) : V → Hp → VK → Prop := fun x H Q => ∃ i, x = .int i ∧ Q (g i) H

section
variable {X : Cx} {a b c : Expr} {ta tb tc : TE} {pos : Pos}

theorem binT (ha : PE X a ta) (hb : PE X b tb) {pins : List (Addr × Obj)} {s : Shared} {σ : St} {H : Hp} {R : V → V → Hp → Prop} (I : Inv X pins σ H s)
    (h : ta σ H fun x H1 => tb σ H1 fun y H2 => R x y H2) {Q : Value → Shared → Prop} {f : Value → Value → Sem Value}
    (hf : ∀ v u s2 x y H2, Inv X pins σ H2 s2 → RelV x v → RelV y u → R x y H2 → wpAny (model X.prog X.w) X.A (f v u) Q X.xe s2) :
    wpAny (model X.prog X.w) X.A (eval a X.env) (fun v s₁ => wpAny (model X.prog X.w) X.A (eval b X.env) (fun u s₂ => wpAny (model X.prog X.w) X.A (f v u) Q X.xe s₂) X.xe s₁) X.xe s := by
  refine thn (ha pins s σ H _ I h) fun v s1 ⟨x, H1, I1, r1, q1⟩ => ?_
  refine thn (hb pins s1 σ H1 _ I1 q1) fun u s2 ⟨y, H2, I2, r2, q2⟩ => ?_
  exact hf v u s2 x y H2 I2 r1 r2 q2

theorem pe_op {op : Operator} {r : R2} (ho : OpR X (binaryOp op) r) (ha : PE X a ta) (hb : PE X b tb) : PE X (.BinOp a op b pos) (tOp r ta tb) := by
  intro pins s σ H Q I h
  exact wpAny_BinOp (binT ha hb I h fun v u s2 x y H2 I2 rx ry q => ho pins s2 σ H2 x y v u Q I2 rx ry q)
theorem pe_un {op : UnaryOp} {r : V → Hp → VK → Prop} (ho : UnR X (unaryOp op) r) (ha : PE X a ta) : PE X (.UnaryOp op a pos) (tUn r ta) := by
  intro pins s σ H Q I h
  exact UnaryOp_ (thn (ha pins s σ H _ I h) fun v s1 ⟨x, H1, I1, r1, q1⟩ => ho pins s1 σ H1 x v Q I1 r1 q1)
/-! ### ints -/
theorem opI {f : Value → Value → Sem Value} {C : Int → Int → Prop} {g : Int → Int → Int}
    (rule : ∀ (i j : Int) (t u : Tok) (s : Shared) (Q : Value → Shared → Prop) (E : Value → Shared → Prop), C i j → Q (.int (g i j) s.toks) { s with toks := s.toks + 1 } → wpAny (model X.prog X.w) X.A (f (.int i t) (.int j u)) Q E s) :
    OpR X f (rI C fun i j => .int (g i j)) := by
  intro pins s σ H x y v u Q I rx ry h
  obtain ⟨i, j, rfl, rfl, hc, q⟩ := h
  obtain ⟨t, rfl⟩ := rx
  obtain ⟨t', rfl⟩ := ry
  exact rule i j t t' s _ _ hc ⟨.int (g i j), H, I.tok _, ⟨_, rfl⟩, q⟩
theorem opI0 {f : Value → Value → Sem Value} {g : Int → Int → Int}
    (rule : ∀ (i j : Int) (t u : Tok) (s : Shared) (Q : Value → Shared → Prop) (E : Value → Shared → Prop), Q (.int (g i j) s.toks) { s with toks := s.toks + 1 } → wpAny (model X.prog X.w) X.A (f (.int i t) (.int j u)) Q E s) :
    OpR X f (rI0 fun i j => .int (g i j)) := by
  intro pins s σ H x y v u Q I rx ry h
  obtain ⟨i, j, rfl, rfl, q⟩ := h
  obtain ⟨t, rfl⟩ := rx
  obtain ⟨t', rfl⟩ := ry
  exact rule i j t t' s _ _ ⟨.int (g i j), H, I.tok _, ⟨_, rfl⟩, q⟩
theorem opB0 {f : Value → Value → Sem Value} {g : Int → Int → Bool}
    (rule : ∀ (i j : Int) (t u : Tok) (s : Shared) (Q : Value → Shared → Prop) (E : Value → Shared → Prop), Q (.bool (g i j)) s → wpAny (model X.prog X.w) X.A (f (.int i t) (.int j u)) Q E s) :
    OpR X f (rI0 fun i j => .bl (g i j)) := by
  intro pins s σ H x y v u Q I rx ry h
  obtain ⟨i, j, rfl, rfl, q⟩ := h
  obtain ⟨t, rfl⟩ := rx
  obtain ⟨t', rfl⟩ := ry
  exact rule i j t t' s _ _ ⟨.bl (g i j), H, I, rfl, q⟩

def CDiv (i j : Int) : Prop := 0 < j ∧ j < 1073741824
def CPow (i j : Int) : Prop := 0 ≤ j ∧ j ≤ 1000000 ∧ i.natAbs < 2 ^ 64
def CMul (i j : Int) : Prop := (-(2 ^ 64) < i ∧ i < 2 ^ 64) ∨ (-(2 ^ 64) < j ∧ j < 2 ^ 64)
theorem CMul.ok {i j : Int} (h : CMul i j) : IntMulOk i j := by
  rcases h with ⟨h1, h2⟩ | ⟨h1, h2⟩
  · exact .of_left (intBits_le_64 h1 h2)
  · exact .of_right (intBits_le_64 h1 h2)
theorem op_add : OpR X (binaryOp .Add) (rI0 fun i j => .int (i + j)) := opI0 fun _ _ _ _ _ _ _ q => add_int q
theorem op_sub : OpR X (binaryOp .Sub) (rI0 fun i j => .int (i - j)) := opI0 fun _ _ _ _ _ _ _ q => sub_int q
theorem op_mul : OpR X (binaryOp .Mult) (rI CMul fun i j => .int (i * j)) := opI fun _ _ _ _ _ _ _ hc q => mul_int q hc.ok
/-- // by a positive divisor -/
theorem op_fdiv : OpR X (binaryOp .FloorDiv) (rI CDiv fun i j => .int (i / j)) := opI fun i j _ _ _ _ _ hc q => by
  have h1 : (0 : Int) < j := hc.1
  have h2 : j < 1073741824 := hc.2
  exact floordiv_int (by omega) (by rw [Int.fdiv_eq_ediv_of_nonneg i (by omega)]; exact q) (.inl (PyProof.noPylong_small (by omega)))
/-- % by a positive divisor of any size -/
theorem op_mod : OpR X (binaryOp .Mod) (rI (fun _ j => 0 < j) fun i j => .int (i % j)) := opI fun i j _ _ _ _ _ hc q => by
  have h1 : (0 : Int) < j := hc
  exact mod_int' (by omega) (by rw [Int.fmod_eq_emod_of_nonneg i (by omega)]; exact q)
theorem op_pow : OpR X (binaryOp .Pow) (rI CPow fun i j => .int (i ^ j.toNat)) := opI fun _ _ _ _ _ _ _ hc q => pow_int_small hc.1 hc.2.1 hc.2.2 q
theorem unI {f : Value → Sem Value} {g : Int → Int}
    (rule : ∀ (i : Int) (t : Tok) (s : Shared) (Q : Value → Shared → Prop) (E : Value → Shared → Prop), Q (.int (g i) s.toks) { s with toks := s.toks + 1 } → wpAny (model X.prog X.w) X.A (f (.int i t)) Q E s) :
    UnR X f (rU fun i => .int (g i)) := by
  intro pins s σ H x v Q I rx h
  obtain ⟨i, rfl, q⟩ := h
  obtain ⟨t, rfl⟩ := rx
  exact rule i t s _ _ ⟨.int (g i), H, I.tok _, ⟨_, rfl⟩, q⟩
theorem un_neg : UnR X (unaryOp .USub) (rU fun i => .int (-i)) := unI fun _ _ _ _ _ q => neg_int q
/-! ### bools among ints: n += (a < b) -/
end

/-! ### comparisons -/
/-- the scalars that == tells apart as data does -/
def scal : V → V → Bool
  | .non, .non => true | .non, .int _ => true | .int _, .non => true | .non, .bl _ => true | .bl _, .non => true | .non, .str _ => true | .str _, .non => true
  | .int _, .int _ => true | .bl _, .bl _ => true | .str _, .str _ => true | .byt _, .byt _ => true
  | .int _, .str _ => true | .str _, .int _ => true | .bl _, .str _ => true | .str _, .bl _ => true
  | _, _ => false
def rEq : R2 := fun x y H Q => scal x y = true ∧ Q (.bl (decide (x = y))) H
def rNe : R2 := fun x y H Q => scal x y = true ∧ Q (.bl (!decide (x = y))) H

theorem dec_int {i j : Int} : decide (V.int i = V.int j) = (i == j) := by
  rw [Bool.eq_iff_iff]
  simp
theorem dec_bl {i j : Bool} : decide (V.bl i = V.bl j) = (i == j) := by
  rw [Bool.eq_iff_iff]
  simp
theorem dec_str {i j : Str} : decide (V.str i = V.str j) = (i == j) := by
  rw [Bool.eq_iff_iff]
  simp
theorem dec_byt {i j : Array UInt8} : decide (V.byt i = V.byt j) = (i.toList == j.toList) := by
  rw [Bool.eq_iff_iff]
  cases i
  cases j
  simp

section
variable {X : Cx} {a b c : Expr} {ta tb tc : TE} {pos : Pos}
theorem fin_bl {pins : List (Addr × Obj)} {σ : St} {H : Hp} {s : Shared} {Q : VK} {k k' : Bool} (I : Inv X pins σ H s) (q : Q (.bl k) H) (e : k = k') : EP X pins σ Q (.bool k') s := by
  subst e
  exact ⟨.bl k, H, I, rfl, q⟩
theorem op_eq : OpR X (compareOp .Eq) rEq := by
  intro pins s σ H x y v u Q I rx ry h
  obtain ⟨hs, q⟩ := h
  cases x with
  | non =>
    cases rx
    cases y with
    | non => cases ry; exact PySem.EqNone.eq_none_none (fin_bl I q (by simp))
    | bl j => cases ry; exact PySem.EqNone.eq_none_bool (fin_bl I q (by simp))
    | int j => obtain ⟨t', rfl⟩ := ry; exact PySem.EqNone.eq_none_int (fin_bl I q (by simp))
    | str j => obtain ⟨t', rfl⟩ := ry; exact PySem.EqNone.eq_none_str (fin_bl I q (by simp))
    | _ => exact absurd (show false = true from hs) Bool.false_ne_true
  | bl i =>
    cases rx
    cases y with
    | non => cases ry; exact PySem.EqNone.eq_bool_none (fin_bl I q (by simp))
    | bl j => cases ry; exact eq_bool (fin_bl I q dec_bl)
    | str j => obtain ⟨t', rfl⟩ := ry; exact PySem.EqMixed.eq_bool_str (fin_bl I q (by simp))
    | _ => exact absurd (show false = true from hs) Bool.false_ne_true
  | int i =>
    obtain ⟨t, rfl⟩ := rx
    cases y with
    | non => cases ry; exact PySem.EqNone.eq_int_none (fin_bl I q (by simp))
    | int j => obtain ⟨t', rfl⟩ := ry; exact eq_int (fin_bl I q dec_int)
    | str j => obtain ⟨t', rfl⟩ := ry; exact PySem.EqMixed.eq_int_str (fin_bl I q (by simp))
    | _ => exact absurd (show false = true from hs) Bool.false_ne_true
  | str i =>
    obtain ⟨t, rfl⟩ := rx
    cases y with
    | non => cases ry; exact PySem.EqNone.eq_str_none (fin_bl I q (by simp))
    | bl j => cases ry; exact PySem.EqMixed.eq_str_bool (fin_bl I q (by simp))
    | int j => obtain ⟨t', rfl⟩ := ry; exact PySem.EqMixed.eq_str_int (fin_bl I q (by simp))
    | str j => obtain ⟨t', rfl⟩ := ry; exact eq_str (fin_bl I q dec_str)
    | _ => exact absurd (show false = true from hs) Bool.false_ne_true
  | byt i =>
    obtain ⟨t, rfl⟩ := rx
    cases y with
    | byt j => obtain ⟨t', rfl⟩ := ry; exact PySem.W.eq_bytes (fin_bl I q dec_byt)
    | _ => exact absurd (show false = true from hs) Bool.false_ne_true
  | _ => cases y <;> exact absurd (show false = true from hs) Bool.false_ne_true
theorem op_ne : OpR X (compareOp .NotEq) rNe := by
  intro pins s σ H x y v u Q I rx ry h
  obtain ⟨hs, q⟩ := h
  cases x with
  | non =>
    cases rx
    cases y with
    | non => cases ry; exact PySem.EqNone.ne_none_none (fin_bl I q (by simp))
    | bl j => cases ry; exact PySem.EqNone.ne_none_bool (fin_bl I q (by simp))
    | int j => obtain ⟨t', rfl⟩ := ry; exact PySem.EqNone.ne_none_int (fin_bl I q (by simp))
    | str j => obtain ⟨t', rfl⟩ := ry; exact PySem.EqNone.ne_none_str (fin_bl I q (by simp))
    | _ => exact absurd (show false = true from hs) Bool.false_ne_true
  | bl i =>
    cases rx
    cases y with
    | non => cases ry; exact PySem.EqNone.ne_bool_none (fin_bl I q (by simp))
    | bl j => cases ry; exact ne_bool (fin_bl I q (congrArg not dec_bl))
    | str j => obtain ⟨t', rfl⟩ := ry; exact PySem.EqMixed.ne_bool_str (fin_bl I q (by simp))
    | _ => exact absurd (show false = true from hs) Bool.false_ne_true
  | int i =>
    obtain ⟨t, rfl⟩ := rx
    cases y with
    | non => cases ry; exact PySem.EqNone.ne_int_none (fin_bl I q (by simp))
    | int j => obtain ⟨t', rfl⟩ := ry; exact ne_int (fin_bl I q (congrArg not dec_int))
    | str j => obtain ⟨t', rfl⟩ := ry; exact PySem.EqMixed.ne_int_str (fin_bl I q (by simp))
    | _ => exact absurd (show false = true from hs) Bool.false_ne_true
  | str i =>
    obtain ⟨t, rfl⟩ := rx
    cases y with
    | non => cases ry; exact PySem.EqNone.ne_str_none (fin_bl I q (by simp))
    | bl j => cases ry; exact PySem.EqMixed.ne_str_bool (fin_bl I q (by simp))
    | int j => obtain ⟨t', rfl⟩ := ry; exact PySem.EqMixed.ne_str_int (fin_bl I q (by simp))
    | str j => obtain ⟨t', rfl⟩ := ry; exact ne_str (fin_bl I q (congrArg not dec_str))
    | _ => exact absurd (show false = true from hs) Bool.false_ne_true
  | byt i =>
    obtain ⟨t, rfl⟩ := rx
    cases y with
    | byt j => obtain ⟨t', rfl⟩ := ry; exact PySem.W.ne_bytes (fin_bl I q (congrArg not dec_byt))
    | _ => exact absurd (show false = true from hs) Bool.false_ne_true
  | _ => cases y <;> exact absurd (show false = true from hs) Bool.false_ne_true

theorem op_lt : OpR X (compareOp .Lt) (rI0 fun i j => .bl (decide (i < j))) := opB0 fun _ _ _ _ _ _ _ q => lt_int q
theorem op_le : OpR X (compareOp .LtE) (rI0 fun i j => .bl (decide (i ≤ j))) := opB0 fun _ _ _ _ _ _ _ q => le_int q
theorem op_gt : OpR X (compareOp .Gt) (rI0 fun i j => .bl (decide (j < i))) := opB0 fun _ _ _ _ _ _ _ q => gt_int q
theorem op_ge : OpR X (compareOp .GtE) (rI0 fun i j => .bl (decide (j ≤ i))) := opB0 fun _ _ _ _ _ _ _ q => ge_int q
/-- is None, is not None: the right side a value none -/
theorem op_isN : OpR X (compareOp .Is) (fun x y H Q => y = .non ∧ Q (.bl (decide (x = .non))) H) := by
  intro pins s σ H x y v u Q I rx ry h
  obtain ⟨rfl, q⟩ := h
  cases ry
  refine is_none_gen (fin_bl I q ?_)
  cases x <;> first
    | (cases rx; rfl)
    | (obtain ⟨t, rfl⟩ := rx; rfl)
/-- two rules for one operation: by cases -/
theorem OpR.or {f : Value → Value → Sem Value} {r r' : R2} (h : OpR X f r) (h' : OpR X f r') : OpR X f (fun x y H Q => r x y H Q ∨ r' x y H Q) := by
  intro pins s σ H x y v u Q I rx ry q
  rcases q with q | q
  · exact h pins s σ H x y v u Q I rx ry q
  · exact h' pins s σ H x y v u Q I rx ry q

theorem nomark (b : Expr) {op : CmpOp} (h : op ≠ .In := by decide) (h2 : op ≠ .NotIn := by decide) : behindInMarks op b = false := by
  have e1 : (op == CmpOp.In) = false := by cases op <;> first | rfl | exact absurd rfl h
  have e2 : (op == CmpOp.NotIn) = false := by cases op <;> first | rfl | exact absurd rfl h2
  cases b <;> simp [behindInMarks, e1, e2]
/-- a comparison as a value; hm: nomark b, or (for in, not in) by with_unfolding_all rfl -/
theorem pe_cmpR {op : CmpOp} {r : R2} (ho : OpR X (compareOp op) r) (ha : PE X a ta) (hb : PE X b tb) (hm : behindInMarks op b = false) : PE X (.Compare a [op] [b] pos) (tOp r ta tb) := by
  intro pins s σ H Q I h
  exact wpAny_Compare1 (binT ha hb I h fun v u s2 x y H2 I2 rx ry q => ho pins s2 σ H2 x y v u Q I2 rx ry q) hm
/-- a reading of a value as a test -/
def tTest (t : TE) : TT := fun σ H Q => t σ H fun x H' => ∃ k, x = .bl k ∧ Q k H'
theorem pt_cmpR {op : CmpOp} {r : R2} (ho : OpR X (compareOp op) r) (ha : PE X a ta) (hb : PE X b tb) (hm : behindInMarks op b = false) : PT X (.Compare a [op] [b] pos) (tTest (tOp r ta tb)) := by
  intro pins s σ H Q I h
  refine wpAny_isTrue_Compare1 (thn (ha pins s σ H _ I h) fun v s1 ⟨x, H1, I1, r1, q1⟩ => thn (hb pins s1 σ H1 _ I1 q1) fun u s2 ⟨y, H2, I2, r2, q2⟩ =>
    thn (ho pins s2 σ H2 x y v u _ I2 r1 r2 q2) fun c s3 ⟨z, H3, I3, r3, k, e, q3⟩ => ?_) hm
  subst e
  cases r3
  exact wpAny_truthy_bool ⟨H3, I3, q3⟩
/-- a op1 b op2 c -/
def tChain (r r' : R2) (ta tb tc : TE) : TE := fun σ H Q => ta σ H fun x H1 => tb σ H1 fun y H2 => r x y H2 fun z H3 => ∃ k, z = .bl k ∧
  (if k = true then tc σ H3 fun w' H4 => r' y w' H4 Q else Q (.bl false) H3)
theorem pe_chain {op op' : CmpOp} {r r' : R2} (ho : OpR X (compareOp op) r) (ho' : OpR X (compareOp op') r') (ha : PE X a ta) (hb : PE X b tb) (hc : PE X c tc)
    (hm : lastMarks [op, op'] [b, c] = false := by with_unfolding_all rfl) : PE X (.Compare a [op, op'] [b, c] pos) (tChain r r' ta tb tc) := by
  intro pins s σ H Q I h
  refine Compare_chain (thn (ha pins s σ H _ I h) fun v s1 ⟨x, H1, I1, r1, q1⟩ => chain_link (thn (hb pins s1 σ H1 _ I1 q1) fun u s2 ⟨y, H2, I2, r2, q2⟩ =>
    thn (ho pins s2 σ H2 x y v u _ I2 r1 r2 q2) fun d s3 ⟨z, H3, I3, r3, k, e, q3⟩ => ?_)) hm
  subst e
  cases r3
  refine wpAny_truthy_bool ?_
  cases k with
  | false => exact ite_ff ⟨.bl false, H3, I3, rfl, q3⟩
  | true => exact ite_tt (chain_last (thn (hc pins s3 σ H3 _ I3 q3) fun w' s4 ⟨z', H4, I4, r4, q4⟩ => ho' pins s4 σ H4 y z' u w' Q I4 r2 r4 q4))
theorem pt_chain {op op' : CmpOp} {r r' : R2} (ho : OpR X (compareOp op) r) (ho' : OpR X (compareOp op') r') (ha : PE X a ta) (hb : PE X b tb) (hc : PE X c tc)
    (hm : lastMarks [op, op'] [b, c] = false := by with_unfolding_all rfl) : PT X (.Compare a [op, op'] [b, c] pos) (tTest (tChain r r' ta tb tc)) := by
  intro pins s σ H Q I h
  refine isTrue_chain (thn (ha pins s σ H _ I h) fun v s1 ⟨x, H1, I1, r1, q1⟩ => test_link (thn (hb pins s1 σ H1 _ I1 q1) fun u s2 ⟨y, H2, I2, r2, q2⟩ =>
    thn (ho pins s2 σ H2 x y v u _ I2 r1 r2 q2) fun d s3 ⟨z, H3, I3, r3, k, e, q3⟩ => ?_)) hm
  subst e
  cases r3
  refine wpAny_truthy_bool ?_
  cases k with
  | false =>
    obtain ⟨k', e', q'⟩ := q3
    cases e'
    exact ite_ff ⟨H3, I3, q'⟩
  | true =>
    refine ite_tt (test_last (thn (hc pins s3 σ H3 _ I3 q3) fun w' s4 ⟨z', H4, I4, r4, q4⟩ => thn (ho' pins s4 σ H4 y z' u w' _ I4 r2 r4 q4) fun d' s5 ⟨z2, H5, I5, r5, k2, e2, q5⟩ => ?_))
    subst e2
    cases r5
    exact wpAny_truthy_bool ⟨H5, I5, q5⟩

/-! ### truth -/
/-- a value's truth by the abstract heap -/
def TruV (K : PySem.W.Frag) (x : V) (H : Hp) (k : Bool) : Prop :=
  match x with
  | .non => k = false
  | .bl b => k = b
  | .int i => k = (i != 0)
  | .str y => y.length ≤ sizeLine ∧ k = ((y.length : Int) != 0)
  | .byt y => y.size ≤ sizeLine ∧ k = ((y.size : Int) != 0)
  | .ref p => (∃ xs, SqL K H p xs ∧ k = !xs.isEmpty) ∨ (∃ xs, SqT K H p xs ∧ k = !xs.isEmpty) ∨ ∃ kvs, H p = some (.dK kvs) ∧ k = !kvs.isEmpty
  | _ => False
theorem isEmpty_kv {κ : Type} {kvs : List (κ × V)} {vs : List (κ × Value)} (r : KV kvs vs) : (!vs.isEmpty) = !kvs.isEmpty := by
  cases r <;> rfl
theorem isEmpty_of {xs : List V} {its : List Value} (r : Vals xs its) : (!its.toArray.isEmpty) = !xs.isEmpty := by
  cases r <;> simp
theorem line63 : (sizeLine : Nat) < 2 ^ 63 := by rw [sizeLine_eq]; decide
theorem tru_ok : TruR X (fun x H Q => ∃ k, TruV X.K x H k ∧ Q k H) := by
  intro pins s σ H x v Q I rx h
  obtain ⟨k, e, q⟩ := h
  have hl := line63
  have hs : sizeLine = 16777216 := sizeLine_eq
  cases x with
  | non =>
    cases rx
    have e' : k = false := e
    subst e'
    exact truthy_none ⟨H, I, q⟩
  | bl b =>
    cases rx
    have e' : k = b := e
    subst e'
    exact wpAny_truthy_bool ⟨H, I, q⟩
  | int i =>
    obtain ⟨t, rfl⟩ := rx
    have e' : k = (i != 0) := e
    subst e'
    exact PySem.P.truthy_int ⟨H, I, q⟩
  | str y =>
    obtain ⟨t, rfl⟩ := rx
    obtain ⟨hy, e'⟩ : y.length ≤ sizeLine ∧ k = ((y.length : Int) != 0) := e
    subst e'
    exact PySem.P.truthy_str (by omega) ⟨H, I.tok _, q⟩
  | byt y =>
    obtain ⟨t, rfl⟩ := rx
    obtain ⟨hy, e'⟩ : y.size ≤ sizeLine ∧ k = ((y.size : Int) != 0) := e
    subst e'
    exact PySem.W.truthy_bytes (by omega) ⟨H, I.tok _, q⟩
  | ref p =>
    cases rx
    have e' : (∃ xs, SqL X.K H p xs ∧ k = !xs.isEmpty) ∨ (∃ xs, SqT X.K H p xs ∧ k = !xs.isEmpty) ∨ ∃ kvs, H p = some (.dK kvs) ∧ k = !kvs.isEmpty := e
    rcases e' with ⟨xs, hx, e'⟩ | ⟨xs, hx, e'⟩ | ⟨kvs, hx, e'⟩
    · subst e'
      obtain ⟨its, r, pl, hz⟩ := I.list hx
      have hlen := r.length
      exact wpAny_truthy_list pl.isList (by simp only [List.size_toArray]; omega) ⟨H, I.tok _, by rw [isEmpty_of r]; exact q⟩
    · subst e'
      obtain ⟨its, r, pl, hz⟩ := I.tuple hx
      have hlen := r.length
      exact truthy_tuple pl (by simp only [List.size_toArray]; omega) ⟨H, I.tok _, by rw [isEmpty_of r]; exact q⟩
    · subst e'
      obtain ⟨hz, hS, vs, r, m⟩ : kvs.length ≤ sizeLine ∧ (p == sysModules) = false ∧ ∃ vs, KV kvs vs ∧ s.heap.DictOf (mixKind X.prog X.w) p vs := I.hok p _ hx
      have hlen : kvs.length = vs.length := Paired.length r
      exact wpAny_truthy_dict hS m (by omega) ⟨H, I.tok _, by rw [isEmpty_kv r]; exact q⟩
  | _ => exact (show False from e).elim
/-- any expression whose test is its value's truth (a name, a call, a subscript, a field ..: he by fun _ => rfl) -/
theorem pt_truth (ha : PE X a ta) (he : ∀ whole, isTrue a X.env whole = (do let v ← whole; standAt a.pos; holding [v] (truthy v))) :
    PT X a (fun σ H Q => ta σ H fun x H' => ∃ k, TruV X.K x H' k ∧ Q k H') := by
  intro pins s σ H Q I h
  exact isTrue_plain (thn (ha pins s σ H _ I h) fun v s1 ⟨x, H1, I1, r1, q1⟩ => tru_ok pins s1 σ H1 x v Q I1 r1 q1) (he _)

/-! ### strs and bytes -/
theorem op_add_str : OpR X (binaryOp .Add) (fun x y H Q => ∃ i j, x = .str i ∧ y = .str j ∧ i.length + j.length ≤ sizeLine ∧ Q (.str (i ++ j)) H) := by
  intro pins s σ H x y v u Q I rx ry h
  obtain ⟨i, j, rfl, rfl, hz, q⟩ := h
  obtain ⟨t, rfl⟩ := rx
  obtain ⟨t', rfl⟩ := ry
  exact add_str (fun t' tk => ⟨.str (i ++ j), H, I.tok _, ⟨_, rfl⟩, q⟩) hz
/-! ### scalar builtins, by CallR -/
theorem vals1 {x : V} {us : List Value} (r : Vals [x] us) : ∃ u, us = [u] ∧ RelV x u := by
  cases r with
  | cons r1 r2 => cases r2; exact ⟨_, rfl, r1⟩
theorem call_abs : CallR X (.builtin "abs") (fun xs H Q => ∃ i, xs = [.int i] ∧ Q (.int (if i < 0 then -i else i)) H) := by
  intro pins s σ H xs us Q I r h
  obtain ⟨i, rfl, q⟩ := h
  obtain ⟨u, rfl, t, rfl⟩ := vals1 r
  exact call_abs_int fun u tk => ⟨.int (if i < 0 then -i else i), H, I.tok _, ⟨_, rfl⟩, q⟩
theorem call_int1 : CallR X (.type "int") (fun xs H Q => (∃ i, xs = [.int i] ∧ Q (.int i) H) ∨ ∃ k, xs = [.bl k] ∧ Q (.int (if k then 1 else 0)) H) := by
  intro pins s σ H xs us Q I r h
  rcases h with ⟨i, rfl, q⟩ | ⟨k, rfl, q⟩
  · obtain ⟨u, rfl, t, rfl⟩ := vals1 r
    exact call_int_int ⟨.int i, H, I, ⟨_, rfl⟩, q⟩
  · obtain ⟨u, rfl, r1⟩ := vals1 r
    cases r1
    exact call_int_bool ⟨.int (if k then 1 else 0), H, I.tok _, ⟨_, rfl⟩, q⟩
end
end L2

namespace L2
open PySem PySem.Spec PyProof.Rows

/-! ### an instance, its attributes a map -/
structure ObjM (h : Heap) (x dx C : Addr) (mA : Str → Option Value) : Prop where
  obj : h.get? x = some (PySem.W.instObj C dx)
  ns : h.Ns1 dx mA
  ne : dx ≠ x

theorem lookIn_ns {h : Heap} {dx : Addr} {mA : Str → Option Value} (n : h.Ns1 dx mA) : ∃ od, h.get? dx = some od ∧ ∀ name, PySem.W.lookIn name od = some (mA name) := by
  obtain ⟨o, es, ep, ho, hd, hk, _, hm⟩ := n
  refine ⟨o, ho, fun name => ?_⟩
  have e := hm name
  unfold nsFind findBy at e
  rw [← Array.find?_toList] at e
  unfold PySem.W.lookIn
  rw [hd]
  dsimp only
  split
  · rename_i y q
    rw [q] at e
    exact congrArg some e
  · rename_i q
    rw [q] at e
    have a : es.toList.any (·.refKey) = false := by
      rw [List.any_eq_false]
      intro y hy
      obtain ⟨z, t, hkey⟩ := hk y (Array.mem_toList_iff.mp hy)
      simp [DictEntry.refKey, hkey]
    have a' : ¬ es.toList.any (·.refKey) = true := by rw [a]; exact Bool.false_ne_true
    rw [if_neg a']
    exact congrArg some e

theorem ObjM.look {h : Heap} {x dx C : Addr} {mA : Str → Option Value} (I : ObjM h x dx C mA) : ∃ od, PySem.W.InstAt h x (PySem.W.instObj C dx) C (some od) ∧ ∀ name, PySem.W.lookIn name od = some (mA name) :=
  let ⟨od, ho, hl⟩ := lookIn_ns I.ns
  ⟨od, ⟨I.obj, rfl, rfl, ho⟩, hl⟩

section
variable {prog : Program} {w : World} {A : Around} {E : Value → Shared → Prop} {s : Shared} {K : PySem.W.Frag} {x dx C f : Addr} {mA : Str → Option Value} {name : Str} {v : Value}

end

/-! ### the attributes as a list of pairs -/
section
variable {P : Program} {w : World} {H H' : Hp} {h h' : Heap} {a C dx : Addr} {fs fs' : List (Str × V)}
theorem ins_get (hok : HOk P w H h) (e : H a = some (.ins C dx fs)) : ∃ mA, ObjM h a dx C mA ∧ (∀ f, RelO (fs.lookup f) (mA f)) ∧ PySem.Within mA (fs.map (·.1)) ∧ fs.length ≤ 1000 ∧ H dx = some (.own a) := by
  obtain ⟨d, z, ne, ob, mA, n, r, q⟩ := (show ObjOk P w H h a (.ins C dx fs) from hok a _ e)
  exact ⟨mA, ⟨ob, n, ne⟩, r, q, z, d⟩
end

/-! ### what of the text a class must have -/
structure Cls (K : PySem.W.Frag) (C : Addr) : Prop where
  pg : PySem.W.plainGet K C Str.empty = true
  hd : PySem.W.hasDictIn K C = true
  po : PySem.W.plainOver K C = true
  sa : PySem.W.findIn K (.ref C) "__setattr__" = some (some (.builtin "object.__setattr__"))
theorem Cls.get {K : PySem.W.Frag} {C : Addr} (c : Cls K C) (f : Str) : PySem.W.plainGet K C f = true := c.pg
/-- a constant of the class -/
structure Con (K : PySem.W.Frag) (C : Addr) (f : Str) (v : V) (u : Value) : Prop where
  at_ : PySem.W.findIn K (.ref C) f = some (some u)
  rel : RelV v u
  get : PySem.W.specialIn K u "__get__" = some none
  cp : PySem.W.copiedNames.contains f = false
/-- a method: a plain def of the class or of one above it -/
structure Meth (K : PySem.W.Frag) (C : Addr) (m : Str) (f : Addr) : Prop where
  at_ : PySem.W.findIn K (.ref C) m = some (some (.ref f))
  fn : PySem.W.isFn K (.ref f) = true
  kp : PySem.W.keepIn K (.ref f) = true

section
variable {X : Cx} {pins : List (Addr × Obj)} {σ : St} {H : Hp} {s : Shared} {a C dx : Addr} {fs : List (Str × V)} {f : Str} {v : V} {A : Around} {E : Value → Shared → Prop}

/-- a new instance, tracked, without attributes -/
theorem Inv.made (I : Inv X pins σ H s) : Inv X pins σ (upd (upd H s.heap.objs.size (.own (s.heap.objs.size + 1))) (s.heap.objs.size + 1) (.ins C s.heap.objs.size []))
    { s with heap := (s.heap.push PySem.W.emptyDict).push (PySem.W.instObj C s.heap.objs.size) } := by
  have e1 : (s.heap.push PySem.W.emptyDict).get? s.heap.objs.size = some PySem.W.emptyDict := Heap.get?_push_size s.heap rfl
  have e2 : ((s.heap.push PySem.W.emptyDict).push (PySem.W.instObj C s.heap.objs.size)).get? (s.heap.objs.size + 1) = some (PySem.W.instObj C s.heap.objs.size) := by
    have := Heap.get?_push_size (s.heap.push PySem.W.emptyDict) (o := PySem.W.instObj C s.heap.objs.size) rfl
    rwa [Heap.size_push] at this
  have e3 : (s.heap.push PySem.W.emptyDict).Ns s.heap.objs.size (fun _ => none) := ⟨PySem.W.emptyDict, #[], _, e1, rfl, (fun e he => absurd he (by simp)), fun _ => rfl⟩
  have I1 := I.laid (a := s.heap.objs.size) (o := .own (s.heap.objs.size + 1)) (h' := s.heap.push PySem.W.emptyDict) (t' := s.toks) (fun b u q => Heap.get?_push_of_some _ q) (Nat.le_refl _) ⟨_, e1⟩
  refine I1.laid (a := s.heap.objs.size + 1) (o := .ins C s.heap.objs.size []) (t' := s.toks) (fun b u q => Heap.get?_push_of_some _ q) (Nat.le_of_eq (Heap.size_push _ _)) ?_
  have ne : s.heap.objs.size ≠ s.heap.objs.size + 1 := Nat.ne_of_lt (Nat.lt_succ_self _)
  refine ⟨by rw [upd_ne ne, upd_same], Nat.zero_le _, ne, e2, fun _ => none, (Heap.Ns1.of_empty e3).at fun o q => Heap.get?_push_of_some _ q, fun _ => True.intro, fun y hy => absurd rfl hy⟩

end

/-! ### readings and rules -/
section
variable {X : Cx} {o e value : Expr} {f : Str} {pos pos' tpos : Pos} {ta tv : TE}
end

/-! ### isinstance -/
section
variable {X : Cx} {pins : List (Addr × Obj)} {σ : St} {H : Hp} {s : Shared} {A : Around} {E : Value → Shared → Prop} {Q : Value → Shared → Prop} {c : Value} {b : Bool}
/-- the type of a value, as the fragment's deciders take it; for an instance its class -/
inductive TyOf (K : PySem.W.Frag) (H : Hp) : V → Value → Prop where
  | non : TyOf K H .non (.type "NoneType")
  | bl (x : Bool) : TyOf K H (.bl x) (.type "bool")
  | int (i : Int) : TyOf K H (.int i) (.type "int")
  | str (x : Str) : TyOf K H (.str x) (.type "str")
  | flt (x : UInt64) : TyOf K H (.flt x) (.type "float")
  | lst {a : Addr} {xs : List V} (e : H a = some (.lst xs)) : TyOf K H (.ref a) (.type "list")
  | frz {a : Addr} {o : Obj} {xs : List V} (e : H a = some (.frz o (.lst xs))) : TyOf K H (.ref a) (.type "list")
  | tup {a : Addr} {xs : List V} (e : H a = some (.tup xs)) : TyOf K H (.ref a) (.type "tuple")
  | dK {a : Addr} {kvs : List (Key × V)} (e : H a = some (.dK kvs)) : TyOf K H (.ref a) (.type "dict")
  | dT {a : Addr} {kvs : List (List Key × V)} (e : H a = some (.dT kvs)) : TyOf K H (.ref a) (.type "dict")
  | ins {a C dx : Addr} {fs : List (Str × V)} (e : H a = some (.ins C dx fs)) (cl : Cls K C) (ha : PySem.W.findIn K (.ref C) "__class__" = some (some (.builtin "object.__class__")))
      (hn : PySem.W.specialIn K (.builtin "object.__class__") "__get__" = some (some (.builtin "getset_descriptor.__get__"))) (htk : PySem.W.takesIn K (.builtin "object.__class__") = some true)
      (hm : PySem.W.mroIn K C (.type "object") = some true) : TyOf K H (.ref a) (.ref C)
/-- isinstance(x, c) for one class c, a built-in or an own one: kitOne's answer -/
theorem isinst_ok {x : V} {u t : Value} (I : Inv X pins σ H s) (rx : RelV x u) (ty : TyOf X.K H x t) (e : PySem.W.kitOne X.K t c = some b) (h : ∀ tk, Q (.bool b) { s with toks := tk }) :
    wpAny (model X.prog X.w) A (call (.builtin "isinstance") [u, c]) Q E s := by
  cases ty with
  | non => cases (show u = Value.none from rx); exact PySem.W.kia_one PySem.W.kitx_none I.kIn True.intro e (fun z => nomatch z) h
  | bl y => cases (show u = Value.bool y from rx); exact PySem.W.kia_one PySem.W.kitx_bool I.kIn True.intro e (fun z => nomatch z) h
  | int i => obtain ⟨t, q⟩ := (show ∃ t, u = Value.int i t from rx); cases q; exact PySem.W.kia_one PySem.W.kitx_int I.kIn True.intro e (fun z => nomatch z) h
  | str y => obtain ⟨t, q⟩ := (show ∃ t, u = Value.str y t from rx); cases q; exact PySem.W.kia_one PySem.W.kitx_str I.kIn True.intro e (fun z => nomatch z) h
  | flt y => obtain ⟨t, q⟩ := (show ∃ t, u = Value.float y t from rx); cases q; exact PySem.W.kia_one PySem.W.kitx_float I.kIn True.intro e (fun z => nomatch z) h
  | @lst a xs ea =>
    cases (show u = Value.ref a from rx)
    obtain ⟨_, _, n, _, h1⟩ := (show ObjOk X.prog X.w H s.heap a (.lst xs) from I.hok a _ ea)
    exact PySem.W.kia_one PySem.W.kitx_list I.kIn ⟨_, h1, rfl⟩ e (fun z => nomatch z) h
  | @frz a ob xs ea =>
    cases (show u = Value.ref a from rx)
    obtain ⟨_, _, _, n, _, h1⟩ := (show ObjOk X.prog X.w H s.heap a (.frz ob (.lst xs)) from I.hok a _ ea)
    exact PySem.W.kia_one PySem.W.kitx_list I.kIn ⟨_, h1, rfl⟩ e (fun z => nomatch z) h
  | @tup a xs ea =>
    cases (show u = Value.ref a from rx)
    obtain ⟨_, _, _, p⟩ := (show ObjOk X.prog X.w H s.heap a (.tup xs) from I.hok a _ ea)
    obtain ⟨o, h1, h2, _⟩ := p
    exact PySem.W.kia_one PySem.W.kitx_tuple I.kIn ⟨o, h1, h2⟩ e (fun z => nomatch z) h
  | @dK a kvs ea =>
    cases (show u = Value.ref a from rx)
    obtain ⟨_, _, vs, _, p⟩ := (show ObjOk X.prog X.w H s.heap a (.dK kvs) from I.hok a _ ea)
    obtain ⟨o, es, ep, h1, h2, _⟩ := p
    exact PySem.W.kia_one PySem.W.kitx_dict I.kIn ⟨o, h1, h2.1⟩ e (fun z => nomatch z) h
  | @dT a kvs ea =>
    cases (show u = Value.ref a from rx)
    obtain ⟨_, _, xs, _, o, es, ep, h1, h2, _⟩ := (show ObjOk X.prog X.w H s.heap a (.dT kvs) from I.hok a _ ea)
    exact PySem.W.kia_one PySem.W.kitx_dict I.kIn ⟨o, h1, h2.1⟩ e (fun z => nomatch z) h
  | @ins a C dx fs ea cl ha hn htk hm =>
    cases (show u = Value.ref a from rx)
    obtain ⟨mA, O, _⟩ := ins_get I.hok ea
    obtain ⟨od, J, _⟩ := O.look
    exact PySem.W.kia_one (PySem.W.kitx_own (cl.get _) cl.hd ha hn htk hm) I.kIn J e (fun z => nomatch z) h
end
end L2

namespace L2
open PySem PySem.Spec PyProof.Rows

/-! ### room -/
structure Room (k : Nat) (A : Around) : Prop where
  hd : A.handled = none
  dp : A.depth + 3 * k + 5 < recursionLimit
  un : A.units + 16 * k + 200 < cLine
theorem Room.mono {j k : Nat} {A : Around} (r : Room k A) (h : j ≤ k) : Room j A := ⟨r.hd, by have := r.dp; omega, by have := r.un; omega⟩
theorem Room.deeper {k : Nat} {A : Around} (r : Room (k + 1) A) (env : Env) : Room k (A.deeper env) :=
  ⟨r.hd, by have := r.dp; show A.depth + 1 + 3 * k + 5 < _; omega, by have := r.un; show A.units + 3 + 16 * k + 200 < _; omega⟩
theorem Room.in1 {k : Nat} {A : Around} (r : Room (k + 1) A) : Room k A.in1 :=
  ⟨r.hd, by have := r.dp; show A.depth + 3 * k + 5 < _; omega, by have := r.un; show A.units + 1 + 16 * k + 200 < _; omega⟩
theorem Room.depth {k : Nat} {A : Around} (r : Room k A) : A.depth < recursionLimit := by have := r.dp; omega
theorem Room.units {k : Nat} {A : Around} (r : Room k A) : A.units + 64 < cLine := by have := r.un; omega
/-! ### argument lists and displays -/
def tNil : TA := fun _ H Q => Q [] H
def tCons (ta : TE) (tr : TA) : TA := fun σ H Q => ta σ H fun x H1 => tr σ H1 fun xs H2 => Q (x :: xs) H2
section
variable {X : Cx} {e : Expr} {es : List Expr} {te : TE} {t : TA} {pos : Pos}
theorem pa_nil : PA X [] tNil := fun _ _ _ _ H Q I h => Calls.spliced_nil ⟨[], H, I, .nil, h⟩
theorem pa_cons (ha : PE X e te) (hr : PA X es t) (hs : starEach (e :: es) X.env = (false, eval e X.env) :: starEach es X.env := by rfl) : PA X (e :: es) (tCons te t) := by
  intro pos pins s σ H Q I h
  rw [hs]
  show wpAny _ _ (spliced ((false, eval e X.env) :: backTo pos (starEach es X.env))) _ _ s
  refine Calls.spliced_cons (thn (ha pins s σ H _ I h) fun u s1 ⟨x, H1, I1, r1, q1⟩ => ?_)
  exact thn (hr pos pins s1 σ H1 _ I1 q1) fun us s2 ⟨xs, H2, I2, r2, q2⟩ => ⟨x :: xs, H2, I2, .cons r1 r2, q2⟩

/-- a tuple, a list of written items -/
def tTup (t : TA) : TE := fun σ H Q => t σ H fun xs H1 => xs.length ≤ sizeLine ∧ ∀ p, H1 p = none → Q (.ref p) (upd H1 p (.tup xs))
def tLst (t : TA) : TE := fun σ H Q => t σ H fun xs H1 => xs.length ≤ sizeLine ∧ ∀ p, H1 p = none → Q (.ref p) (upd H1 p (.lst xs))
theorem pe_tup {x1} (h : PA X es t) : PE X (.Tuple es x1 pos) (tTup t) := by
  intro pins s σ H Q I hq
  refine wpAny_Tuple_spliced (thn (h pos pins s σ H _ I hq) fun us s1 ⟨xs, H1, I1, r, z, q⟩ => ⟨by rw [← r.length]; exact z, ?_⟩)
  have hf : H1 s1.heap.objs.size = none := I1.hok.fresh (Nat.le_refl _)
  refine ⟨.ref s1.heap.objs.size, upd H1 s1.heap.objs.size (.tup xs), I1.laid (t' := s1.toks) (fun b u e => Heap.get?_push_of_some _ e) (Nat.le_refl _) ?_, rfl, q _ hf⟩
  exact ⟨z, us, r, ⟨_, Heap.get?_push_size _ rfl, rfl, _, rfl⟩⟩
theorem pe_lst (h : PA X es t) : PE X (.List es pos) (tLst t) := by
  intro pins s σ H Q I hq
  refine wpAny_List_spliced (thn (h pos pins s σ H _ I hq) fun us s1 ⟨xs, H1, I1, r, z, q⟩ => ⟨by rw [← r.length]; exact z, ?_⟩)
  have hf : H1 s1.heap.objs.size = none := I1.hok.fresh (Nat.le_refl _)
  refine ⟨.ref s1.heap.objs.size, upd H1 s1.heap.objs.size (.lst xs), I1.laid (t' := s1.toks) (fun b u e => Heap.get?_push_of_some _ e) (Nat.le_refl _) ?_, rfl, q _ hf⟩
  exact ⟨z, us, 0, r, Heap.get?_push_size _ rfl⟩
end

/-! ### what a def promises -/
/-- a def's promise: the bound arguments in the parameters' order, the heap, the wanted end, the wanted exception -/
abbrev Sp := List V → Hp → VK → XK → Prop
/-- how an exception lies behind a call (file 08 gives it): the callers' frames, abstract heap and state ahead of the call, the wish, the exception, the state -/
abbrev CXT := List Env → Hp → Shared → XK → Value → Shared → Prop

/-- the state at a call -/
structure Env0 (P : Program) (w : World) (K : PySem.W.Frag) (mg : Str → Option Value) (base : Heap) (A : Around) (outer : List Env) (s : Shared) (H : Hp) : Prop where
  frames : A.frames = some outer
  mod : Mod K mg base
  bs : ∀ b o, base.get? b = some o → s.heap.get? b = some o ∧ H b = none
  bsz : base.objs.size ≤ s.heap.objs.size
  funs : s.heap.FunFrames base outer
  frf : ∀ b ∈ frs outer, H b = none
  hok : HOk P w H s.heap
  bare : AllBare s.gens
/-- a call's end -/
def CE (outer : List Env) (P : Program) (w : World) (H : Hp) (s : Shared) (Q : VK) (u : Value) (s' : Shared) : Prop :=
  ∃ v H', s'.os = s.os ∧ AllBare s'.gens ∧ Un (frs outer) [] H H' s.heap s'.heap ∧ HOk P w H' s'.heap ∧ RelV v u ∧ Q v H'
def CR (CX : CXT) (outer : List Env) (P : Program) (w : World) (H : Hp) (s : Shared) (Q : VK) (E : XK) (r : Result) (s' : Shared) : Prop :=
  match r with
  | .ok (.ret u) => CE outer P w H s Q u s'
  | .ok _ => False
  | .error e => CX outer H s E e s'
structure FnOk (P : Program) (w : World) (K : PySem.W.Frag) (mg : Str → Option Value) (base : Heap) (CX : CXT) (k : Nat) (f : Addr) (fd : FuncData) (ps : List Str) (sp : Sp) : Prop where
  len : ∀ vs H Q E, sp vs H Q E → vs.length = ps.length
  run : ∀ (A : Around) (outer : List Env) (s : Shared) (H : Hp) (args : Args) (us : List Value) (vs : List V) (Q : VK) (E : XK), Room k A → Env0 P w K mg base A outer s H → BindsTo s fd args (ps.zip us) → Vals vs us → sp vs H Q E →
    codeAny (model P w) A (.call (.ref f) args) (CR CX outer P w H s Q E) s
theorem FnOk.mono {P : Program} {w : World} {K : PySem.W.Frag} {mg : Str → Option Value} {base : Heap} {CX : CXT} {j k : Nat} {f : Addr} {fd : FuncData} {ps : List Str} {sp : Sp} (F : FnOk P w K mg base CX j f fd ps sp) (h : j ≤ k) :
    FnOk P w K mg base CX k f fd ps sp := ⟨F.len, fun A outer s H args us vs Q E hr => F.run A outer s H args us vs Q E (hr.mono h)⟩
/-- a weaker promise -/
theorem FnOk.imp {P : Program} {w : World} {K : PySem.W.Frag} {mg : Str → Option Value} {base : Heap} {CX : CXT} {k : Nat} {f : Addr} {fd : FuncData} {ps : List Str} {sp sp' : Sp} (F : FnOk P w K mg base CX k f fd ps sp)
    (h : ∀ vs H Q E, sp' vs H Q E → sp vs H Q E) : FnOk P w K mg base CX k f fd ps sp' :=
  ⟨fun vs H Q E q => F.len vs H Q E (h _ _ _ _ q), fun A outer s H args us vs Q E hr he hb hv hs => F.run A outer s H args us vs Q E hr he hb hv (h _ _ _ _ hs)⟩

theorem Env0.in1 {P : Program} {w : World} {K : PySem.W.Frag} {mg : Str → Option Value} {base : Heap} {A : Around} {outer : List Env} {s : Shared} {H : Hp} (e : Env0 P w K mg base A outer s H) :
    Env0 P w K mg base A.in1 outer s H := ⟨e.frames, e.mod, e.bs, e.bsz, e.funs, e.frf, e.hok, e.bare⟩

section
variable {X : Cx} {pins : List (Addr × Obj)} {σ : St} {H : Hp} {s s' : Shared}
/-- from a body: what a callee wants -/
theorem Inv.env0 (I : Inv X pins σ H s) : Env0 X.prog X.w X.K X.mg X.base X.A X.stack s H :=
  ⟨I.ok.frames, I.ok.mod, I.bs, Nat.le_trans I.ok.bsz I.sz, I.stack, I.stkFree, I.hok, I.bare⟩
/-- behind a call -/
theorem Inv.after {Q : VK} {u : Value} (I : Inv X pins σ H s) (h : CE X.stack X.prog X.w H s Q u s') : EP X pins σ Q u s' := by
  obtain ⟨v, H', os, bare, un, hok, r, q⟩ := h
  obtain ⟨hh, g, d, t, os'⟩ := s'
  obtain rfl : os' = s.os := os
  exact ⟨v, H', I.call (h' := hh) (g' := g) (d' := d) (t' := t) (ch := []) un hok bare (fun b z => absurd z (by simp)), r, q⟩
end

/-! ### calls -/
/-- f(..): the written arguments, then the defaults dvs; E: what is wanted of an exception -/
def tCall (sp : Sp) (dvs : List V) (E : XK) (t : TA) : TE := fun σ H Q => t σ H fun vs H1 => sp (vs ++ dvs) H1 Q E
/-- how the parameters are bound: us the positional arguments, kw the keywords' values by name, ds the defaults that fill up -/
def Binds (K : PySem.W.Frag) (fd : FuncData) (ps : List Str) (ds : List Value) : Prop :=
  ∀ (s : Shared) (us : List Value), K.In s.heap → (us ++ ds).length = ps.length → BindsTo s fd ⟨us, []⟩ (ps.zip (us ++ ds))
/-- every parameter is given -/
theorem Binds.all {K : PySem.W.Frag} {fd : FuncData} {ps : List Str} (h : ∀ us : List Value, us.length = ps.length → bindArgs fd ⟨us, []⟩ = pure (ps.zip us)) : Binds K fd ps [] := fun s us _ hl => by
  rw [List.append_nil] at hl ⊢
  exact .of_eq (h us hl)

/-- an exception of a callee reaches what this body wants of exceptions -/
def Passes (CX : CXT) (X : Cx) (E : XK) : Prop := ∀ (pins : List (Addr × Obj)) (σ : St) (H : Hp) (s : Shared) (e : Value) (s' : Shared), Inv X pins σ H s → CX X.stack H s E e s' → X.xe e s'

section
variable {X : Cx} {CX : CXT} {k : Nat} {f C : Addr} {fd : FuncData} {ps : List Str} {sp : Sp} {dvs : List V} {ds : List Value} {E : XK} {x m : Str} {p pos apos : Pos} {e o : Expr} {es : List Expr} {ta : TE} {t : TA}

/-- the callee runs -/
theorem run_fn {pins : List (Addr × Obj)} {σ : St} {H : Hp} {s : Shared} {Q : VK} {us : List Value} {vs : List V} (F : FnOk X.prog X.w X.K X.mg X.base CX k f fd ps sp) (hr : Room k X.A) (hb : Binds X.K fd ps ds) (hd : Vals dvs ds) (hx : Passes CX X E)
    (I : Inv X pins σ H s) (r : Vals vs us) (h : sp (vs ++ dvs) H Q E) : wpAny (model X.prog X.w) X.A (call (.ref f) us) (EP X pins σ Q) X.xe s := by
  have r2 : Vals (vs ++ dvs) (us ++ ds) := r.append hd
  have hl : (us ++ ds).length = ps.length := by rw [← r2.length]; exact F.len _ _ _ _ h
  refine wpAny_call (codeAny_mono (F.run X.A X.stack s H ⟨us, []⟩ (us ++ ds) (vs ++ dvs) Q E hr I.env0 (hb s us I.kIn hl) r2 h) fun r s' hq => ?_)
  cases r with
  | error e => exact hx pins σ H s e s' I hq
  | ok fl =>
    cases fl with
    | ret u => exact I.after hq
    | next => exact False.elim hq
    | brk => exact False.elim hq
    | cont => exact False.elim hq

theorem pe_call (F : FnOk X.prog X.w X.K X.mg X.base CX k f fd ps sp) (hr : Room k X.A) (hg : Gl X x) (hm : X.mg x = some (.ref f)) (hk : PySem.W.keepIn X.K (.ref f) = true) (hb : Binds X.K fd ps ds) (hd : Vals dvs ds) (hx : Passes CX X E)
    (ha : PA X (e :: es) t) (hdb : (x == ("__debug__" : Str)) = false := by decide) (he : starEach (e :: es) X.env = (false, eval e X.env) :: starEach es X.env := by rfl) (hpl : (backTo pos (starEach es X.env)).any (·.1) = false := by rfl) :
    PE X (.Call (.Name x p) (e :: es) [] pos) (tCall sp dvs E t) := by
  intro pins s σ H Q I h
  refine wpAny_Call_Name_kw (ld_glob I hg hm ?_ hdb)
  refine PySem.W.callWith_K (h₀ := X.base) I.ok.mod.kin hk (thn (ha pos pins s σ H _ I h) fun us s1 ⟨vs, H1, I1, r, q⟩ => ⟨I1.kIn, ?_⟩) he hpl
  exact run_fn F hr hb hd hx I1 r q
/-- what a class must have to be made -/
structure Mk (K : PySem.W.Frag) (C f : Addr) : Prop where
  makes : PySem.W.makesIn K C = true
  init : PySem.W.findIn K (.ref C) "__init__" = some (some (.ref f))
  fn : PySem.W.isFn K (.ref f) = true
  kp : PySem.W.keepIn K (.ref C) = true

end

/-! ### keywords -/
section
variable {X : Cx} {CX : CXT} {k : Nat} {f C : Addr} {fd : FuncData} {ps ks : List Str} {sp : Sp} {E : XK} {x m : Str} {p pos apos kpos : Pos} {e o : Expr} {es : List Expr} {kws : List Keyword} {te ta : TE} {t tk : TA} {nm : Option Str}
/-- how a call with keywords binds: g puts the positional values us and the keywords' values ws (names ks) in the parameters' order, defaults among them -/
structure KBinds (K : PySem.W.Frag) (fd : FuncData) (ps ks : List Str) (g : List Value → List Value → List Value) (gV : List V → List V → List V) : Prop where
  to : ∀ (s : Shared) (us ws : List Value), K.In s.heap → (g us ws).length = ps.length → BindsTo s fd ⟨us, ks.zip ws⟩ (ps.zip (g us ws))
  rel : ∀ {vs : List V} {us : List Value} {zs : List V} {ws : List Value}, Vals vs us → Vals zs ws → Vals (gV vs zs) (g us ws)
variable {g : List Value → List Value → List Value} {gV : List V → List V → List V}
end

/-! ### a def's body keeps its promise -/
/-- names: the parameters first -/
structure FnScope (N P : List Str) (sc : Scope) : Prop where
  kind : sc.kind = .function
  co : sc.isCoroutine = false
  gen : sc.isGenerator = false
  nd : N.Nodup
  pre : N.take P.length = P
  par : ∀ x ∈ P, sc.names.lookup x = some .local ∨ sc.names.lookup x = some .cell
  nofree : ∀ y ∈ sc.names, y.2 ≠ .free

theorem bindL_out {kindOf : Str → Option NameKind} {x : Str} : ∀ {binds : List (Str × Value)} {m : Str → Option Value}, (∀ v, (x, v) ∉ binds) → bindL kindOf binds m x = m x
  | [], _, _ => rfl
  | (n, v) :: r, m, h => by
    unfold bindL
    rw [bindL_out fun w hw => h w (List.mem_cons_of_mem _ hw)]
    split
    · have : x ≠ n := by rintro rfl; exact h v List.mem_cons_self
      simp [this]
    · rfl
theorem bindC_out {kindOf : Str → Option NameKind} {x : Str} : ∀ {binds : List (Str × Value)} {m : Str → Option Value}, (∀ v, (x, v) ∉ binds) → bindC kindOf binds m x = m x
  | [], _, _ => rfl
  | (n, v) :: r, m, h => by
    unfold bindC
    rw [bindC_out fun w hw => h w (List.mem_cons_of_mem _ hw)]
    split
    · rfl
    · have : x ≠ n := by rintro rfl; exact h v List.mem_cons_self
      simp [this]
theorem bindL_get {kindOf : Str → Option NameKind} {x : Str} {v : Value} : ∀ {P : List Str} {vs : List Value} {i : Nat} {m : Str → Option Value}, P.Nodup → P[i]? = some x → vs[i]? = some v → kindOf x = some .local →
    bindL kindOf (P.zip vs) m x = some v
  | [], _, _, _, _, h, _, _ => by simp at h
  | _ :: _, [], _, _, _, _, h, _ => by simp at h
  | p :: P, w :: vs, 0, m, nd, h1, h2, hk => by
    simp at h1 h2; subst h1; subst h2
    show bindL kindOf ((p, w) :: P.zip vs) m p = _
    unfold bindL
    rw [bindL_out fun v hv => (List.nodup_cons.mp nd).1 (List.of_mem_zip hv).1, if_pos hk]
    simp
  | p :: P, w :: vs, i + 1, m, nd, h1, h2, hk => by
    show bindL kindOf ((p, w) :: P.zip vs) m x = _
    unfold bindL
    exact bindL_get (i := i) (List.nodup_cons.mp nd).2 (by simpa using h1) (by simpa using h2) hk
theorem bindC_get {kindOf : Str → Option NameKind} {x : Str} {v : Value} : ∀ {P : List Str} {vs : List Value} {i : Nat} {m : Str → Option Value}, P.Nodup → P[i]? = some x → vs[i]? = some v → kindOf x ≠ some .local →
    bindC kindOf (P.zip vs) m x = some v
  | [], _, _, _, _, h, _, _ => by simp at h
  | _ :: _, [], _, _, _, _, h, _ => by simp at h
  | p :: P, w :: vs, 0, m, nd, h1, h2, hk => by
    simp at h1 h2; subst h1; subst h2
    show bindC kindOf ((p, w) :: P.zip vs) m p = _
    unfold bindC
    rw [bindC_out fun v hv => (List.nodup_cons.mp nd).1 (List.of_mem_zip hv).1, if_neg hk]
    simp
  | p :: P, w :: vs, i + 1, m, nd, h1, h2, hk => by
    show bindC kindOf ((p, w) :: P.zip vs) m x = _
    unfold bindC
    exact bindC_get (i := i) (List.nodup_cons.mp nd).2 (by simpa using h1) (by simpa using h2) hk

/-- the names' values at the entry -/
def start (N : List Str) (vs : List V) : St := vs.map some ++ List.replicate (N.length - vs.length) none

/-- the context of a def's body, at its entry; an exception leaves the frame, then lies as CX says -/
def cxOf (CX : CXT) (P : Program) (w : World) (K : PySem.W.Frag) (mg : Str → Option Value) (base : Heap) (N : List Str) (qual : Str) (scope : Scope) (f : Addr) (cd : Value) (A : Around) (outer : List Env) (s : Shared) (H : Hp) (E : XK) : Cx where
  prog := P
  w := w
  K := K
  mg := mg
  base := base
  A := A.deeper (envOfC qual scope s.heap.objs.size f cd)
  N := N
  s₀ := s
  H₀ := H
  env := envOfC qual scope s.heap.objs.size f cd
  outer := outer
  stack := envOfC qual scope s.heap.objs.size f cd :: outer
  ex := []
  calm := true
  fn := fun _ => true
  pn := []
  xe := fun e s' => wpAny (model P w) (A.deeper (envOfC qual scope s.heap.objs.size f cd)) (leaving (envOfC qual scope s.heap.objs.size f cd) e) (fun _ s'' => CX outer H s E e s'') (fun e' s'' => CX outer H s E e' s'') s'

theorem cell_has {sc : Scope} {n : Nat} {x : Str} (h : sc.names.lookup x = some .cell) : ∃ c, (cellsFrom n sc.names []).lookup x = some c := by
  have q := PySem.W.cellsFrom_some sc.names n [] (.inl h)
  exact Option.isSome_iff_exists.mp q

theorem inv_start {CX : CXT} {P : Program} {w : World} {K : PySem.W.Frag} {mg : Str → Option Value} {base : Heap} {N ps : List Str} {qual : Str} {scope : Scope} {f : Addr} {cd : Value} {A : Around} {outer : List Env} {s s1 : Shared} {H : Hp} {E : XK} {us : List Value} {vs : List V}
    (S : FnScope N ps scope) (hd : A.handled = none) (e0 : Env0 P w K mg base A outer s H) (hl : vs.length = ps.length) (r : Vals vs us)
    (x : InCallC s s.heap.objs.size (bindL (envOfC qual scope s.heap.objs.size f cd).kindOf (ps.zip us) fun _ => none) (cellsFrom (s.heap.objs.size + 1) scope.names []) (bindC (envOfC qual scope s.heap.objs.size f cd).kindOf (ps.zip us) fun _ => none) s1) :
    Inv (cxOf CX P w K mg base N qual scope f cd A outer s H E) [] (start N vs) H s1 := by
  have hpl : ps.length ≤ N.length := by have := congrArg List.length S.pre; rw [List.length_take] at this; omega
  obtain ⟨h1, tk, rfl, hk⟩ := x.done
  have noA : ∀ b : Addr, b ∉ (cxOf CX P w K mg base N qual scope f cd A outer s H E).ex := fun b z => absurd (show b ∈ ([] : List Addr) from z) (by simp)
  refine ⟨⟨e0.mod, S.kind, rfl, rfl, Nat.le_refl _, fun y z c h1 h2 => ?_, fun y hy => ?_, fun y c _ h => ?_, fun _ => hd, Around.frames_deeper e0.frames, .inr ⟨rfl, rfl⟩, fun b z => absurd z (noA b), e0.bs, e0.bsz, fun b _ _ => noA b, fun b z => absurd z (noA b), e0.funs, e0.frf⟩,
    rfl, e0.bare, Un.kept hk, ⟨_, x.toInCall.ns, fun i y v h1 h2 h3 => ?_⟩, fun y c h => ⟨_, x.cell y c h⟩, e0.hok.fresh (Nat.le_refl _), fun y c h => ?_, fun p hp => absurd (show p ∈ ([] : List (Addr × Obj)) from hp) (by simp), e0.hok.kept hk, ?_⟩
  · exact name_of_addr x.apart (PySem.mem_of_lookup h1) (PySem.mem_of_lookup h2)
  · have hy : scope.names.lookup y = some .cell ∨ scope.names.lookup y = some .free := hy
    rcases hy with hy | hy
    · exact cell_has hy
    · exact absurd rfl (S.nofree _ (PySem.mem_of_lookup hy))
  · exact Nat.le_of_lt (x.above y c (PySem.mem_of_lookup h))
  · have hi : i < vs.length := by
      unfold start at h2
      by_cases hi : i < vs.length
      · exact hi
      · rw [List.getElem?_append_right (by simpa using hi)] at h2
        rw [List.getElem?_replicate] at h2
        split at h2 <;> cases h2
    have ha : vs[i]? = some v := by
      unfold start at h2
      rw [List.getElem?_append_left (by simpa using hi), List.getElem?_map] at h2
      cases e : vs[i]? with
      | none => rw [e] at h2; cases h2
      | some a => rw [e] at h2; cases h2; rfl
    obtain ⟨u, hu, rv⟩ := r.get ha
    have hp : ps[i]? = some y := by
      rw [← S.pre, List.getElem?_take_of_lt (by omega)]; exact h1
    have ndP : ps.Nodup := by rw [← S.pre]; exact S.nd.sublist (List.take_sublist _ _)
    refine ⟨u, rv, ?_⟩
    rcases S.par y (List.mem_of_getElem? hp) with k | k
    · exact .inl ⟨k, bindL_get ndP hp hu k⟩
    · obtain ⟨c, e⟩ := cell_has (n := s.heap.objs.size + 1) k
      refine .inr ⟨.inl k, c, e, ?_⟩
      have q := x.cell y c e
      rw [bindC_get ndP hp hu (by show scope.names.lookup y ≠ _; rw [k]; decide)] at q
      exact q
  · exact e0.hok.fresh (Nat.le_of_lt (x.above y c (PySem.mem_of_lookup h)))
  · unfold start
    show _ = N.length
    rw [List.length_append, List.length_map, List.length_replicate]
    omega

/-- THE RULE: a def (or a method) of the text, by its body. The body's reading t is chosen for each entry; it is run at the parameters' values -/
theorem fn_of {CX : CXT} {P : Program} {w : World} {K : PySem.W.Frag} {mg : Str → Option Value} {base : Heap} {k : Nat} {f : Addr} {name qual : Str} {params : Arguments} {body : List Stmt} {scope : Scope} {dV kV doc pm cdv ct oc : Value} {an od : Option Addr}
    {osl : Array (Option Value)} {N ps : List Str} {sp : Sp} (lk : K.lookup f = some ⟨oc, od, .func (PySem.W.fnOf name qual params body scope dV kV doc pm an cdv ct), osl⟩) (hcd : PySem.W.codeIn K cdv qual = true) (S : FnScope N ps scope)
    (len : ∀ vs H Q E, sp vs H Q E → vs.length = ps.length)
    (hbody : ∀ (A : Around) (outer : List Env) (s : Shared) (H : Hp) (vs : List V) (Q : VK) (E : XK), Room k (A.deeper (envOfC qual scope s.heap.objs.size f cdv)) → sp vs H Q E →
      ∃ t, PSs (cxOf CX P w K mg base N qual scope f cdv A outer s H E) body t ∧ t { nx := fun _ H' => Q .non H', rt := Q } (start N vs) H) :
    FnOk P w K mg base CX (k + 1) f (PySem.W.fnOf name qual params body scope dV kV doc pm an cdv ct) ps sp := by
  refine ⟨len, fun A outer s H args us vs Q E hr e0 hb r hsp => ?_⟩
  have hl := len _ _ _ _ hsp
  have KX : K.In s.heap := e0.mod.kin.keeps fun b o e => (e0.bs b o e).1
  have lim : s.heap.NoLimit := e0.mod.nolimit.keeps fun b o e => (e0.bs b o e).1
  have hkind : ∀ y ∈ ps.zip us, scope.names.lookup y.1 = some .local ∨ (scope.names.lookup y.1 = some .cell ∧ ((cellsFrom (s.heap.objs.size + 1) scope.names []).lookup y.1).isSome = true) := fun ⟨n, v⟩ hy => by
    rcases S.par n (List.of_mem_zip hy).1 with q | q
    · exact .inl q
    · exact .inr ⟨q, PySem.W.cellsFrom_some _ _ _ (.inl q)⟩
  refine codeAny_call_function hr.depth (KX _ _ lk) rfl S.co S.gen rfl (PySem.W.codeRec_of KX hcd) (hb _ _ _ _ ?_)
  refine wpAny_newFunctionEnv_cells S.kind hkind fun env he s1 x => ?_
  subst he
  refine ⟨lim.keeps x.toInCall.keep, codeAny_func ?_⟩
  obtain ⟨t, ht, hq⟩ := hbody A outer s H vs Q E (hr.deeper _) hsp
  have I : Inv (cxOf CX P w K mg base N qual scope f cdv A outer s H E) [] (start N vs) H s1 := inv_start S hr.hd e0 hl r x
  refine wpAny_mono (ht [] s1 (start N vs) H _ I hq) (fun fl s' hs => ?_) fun e s' hs => hs
  have fin : ∀ {σ' : St} {H' : Hp} {v : V} {u : Value}, Inv (cxOf CX P w K mg base N qual scope f cdv A outer s H E) [] σ' H' s' → RelV v u → Q v H' → CE outer P w H s Q u s' :=
    fun {σ' H' v u} J rv q => ⟨v, H', J.os, J.bare, J.base, J.hok, rv, q⟩
  cases fl with
  | ret u =>
    obtain ⟨v, σ', H', J, rv, q⟩ := hs
    exact fin J rv q
  | next =>
    obtain ⟨σ', H', J, q⟩ := hs
    exact fin (v := V.non) (u := Value.none) J rfl q
  | brk =>
    obtain ⟨_, _, _, q⟩ := hs
    exact False.elim q
  | cont =>
    obtain ⟨_, _, _, q⟩ := hs
    exact False.elim q
end L2

namespace L2
open PySem PySem.Spec PyProof.Rows
section
variable {X : Cx} {x : Str} {p pos : Pos} {e : Expr} {es : List Expr} {t : TA} {id T : String} {r : List V → Hp → VK → Prop}

def tCB (r : List V → Hp → VK → Prop) (t : TA) : TE := fun σ H Q => t σ H fun vs H1 => r vs H1 Q
/-- f(e, ..), f a built-in function -/
theorem pe_callB (hc : CallR X (.builtin id) r) (hg : Gl X x) (hm : X.mg x = none) (hv : bootBuiltins x = some (.builtin id)) (ha : PA X (e :: es) t) (hn : x ≠ "__name__" := by decide) (hdb : (x == ("__debug__" : Str)) = false := by decide)
    (he : starEach (e :: es) X.env = (false, eval e X.env) :: starEach es X.env := by rfl) (hpl : (backTo pos (starEach es X.env)).any (·.1) = false := by rfl) : PE X (.Call (.Name x p) (e :: es) [] pos) (tCB r t) := by
  intro pins s σ H Q I h
  refine wpAny_Call_Name_kw (ld_blt I hg hm hv ?_ hn hdb)
  exact PyProof.Rows.callWith_builtin1 (thn (ha pos pins s σ H _ I h) fun us s1 ⟨vs, H1, I1, r1, q1⟩ => hc pins s1 σ H1 vs us Q I1 r1 q1) he hpl
/-- T(e, ..), T a built-in type -/
theorem pe_callTy (hc : CallR X (.type T) r) (hg : Gl X x) (hm : X.mg x = none) (hv : bootBuiltins x = some (.type T)) (ha : PA X (e :: es) t) (hn : x ≠ "__name__" := by decide) (hdb : (x == ("__debug__" : Str)) = false := by decide)
    (he : starEach (e :: es) X.env = (false, eval e X.env) :: starEach es X.env := by rfl) (hpl : (backTo pos (starEach es X.env)).any (·.1) = false := by rfl) : PE X (.Call (.Name x p) (e :: es) [] pos) (tCB r t) := by
  intro pins s σ H Q I h
  refine wpAny_Call_Name_kw (ld_blt I hg hm hv ?_ hn hdb)
  exact PyProof.Rows.callWith_type1 (thn (ha pos pins s σ H _ I h) fun us s1 ⟨vs, H1, I1, r1, q1⟩ => hc pins s1 σ H1 vs us Q I1 r1 q1) he hpl
end
end L2

namespace HT
open PySem PyProof.Rows

section
open PySem.SeqAt
open PySem.AutoSeq1 (wpAny_loadPart')
open PySem.MeetsSeq PySem.MeetsSeq2 PySem.MeetsSeq3

end

section
variable {prog : Program} {w : World} {A : Around} {E : Value → Shared → Prop} {s : Shared}

/-- t + u, t not empty -/
theorem cat_tup {t b : Addr} {vs ws : List Value} {Q : Value → Shared → Prop} (ht : IsTup s.heap t vs.toArray) (hb : IsTup s.heap b ws.toArray) (hv : vs ≠ [])
    (h1 : ws = [] → Q (.ref t) s) (h2 : ws ≠ [] → Q (.ref s.heap.objs.size) { s with heap := s.heap.push { cls := .type "tuple", data := .seq (vs ++ ws).toArray } })
    (hsz : vs.length + ws.length ≤ sizeLine) : wpAny (model prog w) A (binaryOp .Add (.ref t) (.ref b)) Q E s := by
  obtain ⟨⟨cls, dd, data, sl⟩, ho, hc, n, hd⟩ := id ht
  obtain ⟨⟨cls2, dd2, data2, sl2⟩, ho2, hc2, n2, hd2⟩ := id hb
  simp only at hc hd hc2 hd2
  subst hc hd hc2 hd2
  have e : vs.toArray ++ ws.toArray = (vs ++ ws).toArray := by simp
  by_cases hw : ws = []
  · exact concat_meets ⟨_, ho, rfl⟩ ⟨_, ho2, rfl⟩ noFill_tuple_add seq_tuple_add PySem.F.slot_tuple_add PySem.F.entry_tuple_add (PySem.F.args_tuple_add_2 _ _)
      (tuple_addW1 t b vs.toArray ws.toArray n n2 dd dd2 sl sl2 (by simpa using hv) (by simp [hw])) ⟨ho, ho2, h1 hw⟩
  · refine concat_meets ⟨_, ho, rfl⟩ ⟨_, ho2, rfl⟩ noFill_tuple_add seq_tuple_add PySem.F.slot_tuple_add PySem.F.entry_tuple_add (PySem.F.args_tuple_add_2 _ _)
      (tuple_addW2 t b vs.toArray ws.toArray n n2 dd dd2 sl sl2 (by simpa using hv) (by simpa using hw) (by rw [List.size_toArray, List.size_toArray]; exact hsz)) ⟨ho, ho2, ?_⟩
    rw [e]
    exact h2 hw

/-! ### t[a:b], not the whole -/
/-- a slice's bound as a place among n (d where it is left out) -/
def sIx (n d : Nat) : Option Int → Nat
  | none => d
  | some v => if v < 0 then (v + (n : Int)).toNat else min v.toNat n
theorem sIx_none (n d : Nat) : sIx n d none = d := rfl
theorem sIx_nat (n d k : Nat) : sIx n d (some (k : Int)) = min k n := by
  show (if (k : Int) < 0 then ((k : Int) + (n : Int)).toNat else min (k : Int).toNat n) = min k n
  rw [if_neg (by omega), Int.toNat_natCast]
theorem sIx_le (n d : Nat) (hd : d ≤ n) (o : Option Int) : sIx n d o ≤ n := by
  cases o with
  | none => exact hd
  | some v =>
    show (if v < 0 then (v + (n : Int)).toNat else min v.toNat n) ≤ n
    by_cases hv : v < 0
    · rw [if_pos hv]; omega
    · rw [if_neg hv]; exact Nat.min_le_right _ _
theorem clip_eq (v : Int) (n d : Nat) : (if v < 0 then max (v + (n : Int)) 0 else min v (n : Int)) = ((sIx n d (some v) : Nat) : Int) := by
  show (if v < 0 then max (v + (n : Int)) 0 else min v (n : Int)) = (((if v < 0 then (v + (n : Int)).toNat else min v.toNat n) : Nat) : Int)
  by_cases hv : v < 0
  · simp only [if_pos hv]; omega
  · simp only [if_neg hv]; omega
theorem adjust_gen (lo hi : Option Int) (n : Nat) : Builtin.Slice.sliceAdjust lo hi 1 (n : Int) = (((sIx n 0 lo : Nat) : Int), ((sIx n n hi : Nat) : Int)) := by
  have h1 : ¬ ((1 : Int) < 0) := by omega
  unfold Builtin.Slice.sliceAdjust
  simp only [h1, if_false]
  refine Prod.ext ?_ ?_
  · cases lo with
    | none => rfl
    | some v => exact clip_eq v n 0
  · cases hi with
    | none => rfl
    | some v => exact clip_eq v n n
theorem places_gen (i j : Nat) : Builtin.Slice.slicePlaces (i : Int) (j : Int) 1 = j - i := by
  unfold Builtin.Slice.slicePlaces
  have h1 : (1 : Int) > 0 := by omega
  simp only [h1, if_true, Int.ediv_one]
  split <;> omega
theorem slicePart_ {v : Value} {o : Option Int} {Q : Option Int → Shared → Prop} (p : IsPart v o) (h : Q o s) : wpAny (model prog w) A (Builtin.Slice.slicePartIndex v) Q E s := by
  cases p with
  | none => exact slicePart_none h
  | int i t => exact slicePart_int h
theorem sliceApplied_gen {sl : Addr} {vl vu : Value} {lo hi : Option Int} {n : Nat} {Q : Int × Int × Nat → Shared → Prop} (hs : s.heap.IsSliceOf sl vl vu .none) (pl : IsPart vl lo) (pu : IsPart vu hi)
    (h : Q (((sIx n 0 lo : Nat) : Int), 1, sIx n n hi - sIx n 0 lo) s) : wpAny (model prog w) A (Builtin.Slice.sliceApplied (.ref sl) (pure (n : Int))) Q E s := by
  obtain ⟨os, hos, hcs, hds⟩ := id hs
  unfold Builtin.Slice.sliceApplied Builtin.Slice.sliceFields
  refine wpAny_bind (wpAny_bind (wpAny_field hos hds (x := vl) rfl (wpAny_bind (wpAny_field hos hds (x := vu) rfl (wpAny_bind (wpAny_field hos hds (x := .none) rfl (wpAny_pure ?_)))))))
  refine wpAny_bind (slicePart_none ?_)
  show wpAny _ _ (if ((1 : Int) == 0) = true then _ else _) _ _ s
  rw [if_neg (by decide)]
  refine wpAny_bind (slicePart_ pl (wpAny_bind (slicePart_ pu (wpAny_bind (wpAny_pure ?_)))))
  show wpAny _ _ (match Builtin.Slice.sliceAdjust lo hi 1 (n : Int) with | (lo, hi) => pure (lo, (1 : Int), Builtin.Slice.slicePlaces lo hi 1)) _ _ s
  rw [adjust_gen lo hi n]
  show wpAny _ _ (pure (((sIx n 0 lo : Nat) : Int), (1 : Int), Builtin.Slice.slicePlaces ((sIx n 0 lo : Nat) : Int) ((sIx n n hi : Nat) : Int) 1)) _ _ s
  rw [places_gen]
  exact wpAny_pure h
theorem pick_gen (xs : Array Value) (i k : Nat) : ((List.range k).filterMap fun (m : Nat) => xs[((i : Int) + (m : Int) * 1).toNat]?).toArray = ((xs.toList.drop i).take k).toArray := by
  have e : (fun (m : Nat) => xs[((i : Int) + (m : Int) * 1).toNat]?) = fun m => xs[i + m]? := by
    funext m
    have : ((i : Int) + (m : Int) * 1).toNat = i + m := by omega
    rw [this]
  rw [e]
  have := pick_run xs i k
  rw [List.filterMap_map] at this
  have e2 : ((fun x => xs[x]?) ∘ fun x => i + x) = fun m => xs[i + m]? := rfl
  rw [e2] at this
  rw [this]

theorem getItem_tuple_cut {t sl : Addr} {items : Array Value} {vl vu : Value} {lo hi : Option Int} {Q : Value → Shared → Prop} (ht : IsTup s.heap t items) (hs : s.heap.IsSliceOf sl vl vu .none) (pl : IsPart vl lo) (pu : IsPart vu hi)
    (hw : ¬ (sIx items.size 0 lo = 0 ∧ sIx items.size items.size hi = items.size))
    (h : Q (.ref s.heap.objs.size) { s with heap := s.heap.push { cls := .type "tuple", data := .seq ((items.toList.drop (sIx items.size 0 lo)).take (sIx items.size items.size hi - sIx items.size 0 lo)).toArray } })
    (hsz : items.size ≤ sizeLine) : wpAny (model prog w) A (getItem (.ref t) (.ref sl)) Q E s := by
  have htake : sizeOk (.seq ((items.toList.drop (sIx items.size 0 lo)).take (sIx items.size items.size hi - sIx items.size 0 lo)).toArray) := by
    show ((items.toList.drop (sIx items.size 0 lo)).take (sIx items.size items.size hi - sIx items.size 0 lo)).toArray.size ≤ sizeLine
    rw [List.size_toArray, List.length_take, List.length_drop, Array.length_toList]
    omega
  have hj : sIx items.size items.size hi ≤ items.size := sIx_le _ _ (Nat.le_refl _) hi
  obtain ⟨os, hos, hcs, hds⟩ := id hs
  have hTs : s.TypeIs (.ref sl) "slice" := ⟨os, hos, hcs⟩
  unfold getItem
  try with_reducible refine wpAny_holding ?_
  first | refine wpAny_bind (wpAny_pure ?_) | skip
  refine wpAny_bind (wpAny_sequenceKey ht.typeIs (by decide) ?_)
  refine wpAny_bind (wpAny_callSpecial?_slot (name := Str.ofString "__getitem__") ht.typeIs PyProof.Rows.slot_tuple_getitem
    (wpAny_call_entry PyProof.Rows.slot_tuple_getitem ht.typeIs entry_tuple_getitem ?_ (args_tuple_getitem _ _)))
  show wpAny _ _ (Builtin.Tuple.tupleItemsOf (.ref t) >>= _) _ _ s
  refine wpAny_bind (tupleItemsOf_ ht ?_)
  refine wpAny_bind (wpAny_typeOf hTs ?_)
  rw [if_pos (by decide)]
  refine wpAny_bind (sliceApplied_gen hs pl pu ?_)
  have hno : ¬ ((((sIx items.size 0 lo : Nat) : Int) == 0 && (1 : Int) == 1 && (sIx items.size items.size hi - sIx items.size 0 lo) == items.size) = true) := by
    intro q
    rw [Bool.and_eq_true, Bool.and_eq_true] at q
    have q1 : ((sIx items.size 0 lo : Nat) : Int) = 0 := eq_of_beq q.1.1
    have q2 : sIx items.size items.size hi - sIx items.size 0 lo = items.size := eq_of_beq q.2
    exact hw ⟨by omega, by omega⟩
  show wpAny _ _ (if (((sIx items.size 0 lo : Nat) : Int) == 0 && (1 : Int) == 1 && (sIx items.size items.size hi - sIx items.size 0 lo) == items.size) = true then _ else _) _ _ s
  rw [if_neg hno, pick_gen]
  first
    | exact wpAny_bind (m := Builtin.Tuple.tupleExact _) (wpAny_newObj_type (wpAny_pure ⟨_, rfl, wpAny_pure h⟩) htake)
    | exact wpAny_bind (m := Builtin.Tuple.tupleExact _) (wpAny_newObj_type (wpAny_bind (wpAny_pure (wpAny_pure ⟨_, rfl, wpAny_pure h⟩))) htake)
    | exact wpAny_bind (wpAny_bind (m := Builtin.Tuple.tupleExact _) (wpAny_newObj_type (wpAny_pure (wpAny_pure ⟨_, rfl, wpAny_pure h⟩)) htake))
    | exact wpAny_bind (wpAny_bind (m := Builtin.Tuple.tupleExact _) (wpAny_newObj_type (wpAny_pure ⟨_, rfl, wpAny_pure h⟩) htake))
end
end HT

namespace L2
open PySem PySem.Spec PyProof.Rows

/-! ### the parts of a slice -/
abbrev TO := St → Hp → (Option Int → Hp → Prop) → Prop
/-- a slice's part (left out, or an int) -/
def PO (X : Cx) (e : Option Expr) (t : TO) : Prop :=
  ∀ (pins : List (Addr × Obj)) (s : Shared) (σ : St) (H : Hp) (Q : Option Int → Hp → Prop), Inv X pins σ H s → t σ H Q →
    wpAny (model X.prog X.w) X.A (evalPart e X.env) (fun u s' => ∃ o H', Inv X pins σ H' s' ∧ IsPart u o ∧ Q o H') X.xe s
def tNoPart : TO := fun _ H Q => Q none H
def tPart (t : TE) : TO := fun σ H Q => t σ H fun x H1 => ∃ i, x = .int i ∧ Q (some i) H1

section
variable {X : Cx} {e : Expr} {te : TE} {lo hi : Option Expr} {tl th : TO} {pos p2 : Pos}

theorem po_none : PO X none tNoPart := by
  intro pins s σ H Q I h
  rw [evalPart_none]
  exact wpAny_pure ⟨none, H, I, .none, h⟩
theorem po_some (h : PE X e te) : PO X (some e) (tPart te) := by
  intro pins s σ H Q I hw
  rw [evalPart_some]
  refine thn (h pins s σ H _ I hw) fun u s1 ⟨x, H1, I1, r1, q1⟩ => ?_
  obtain ⟨i, rfl, q⟩ := q1
  obtain ⟨t, rfl⟩ := r1
  exact ⟨some i, H1, I1, .int i t, q⟩

/-- what a slice of a value is, by values: the slice object stands at sl -/
def SlR (X : Cx) (r : V → Option Int → Option Int → Hp → VK → Prop) : Prop :=
  ∀ (pins : List (Addr × Obj)) (s : Shared) (σ : St) (H : Hp) (x : V) (v vl vu : Value) (lo hi : Option Int) (sl : Addr) (Q : VK), Inv X pins σ H s → RelV x v → s.heap.IsSliceOf sl vl vu .none → IsPart vl lo → IsPart vu hi → r x lo hi H Q →
    ∃ T id, typeLookup (.type T) "__getitem__" = pure (some (.builtin id)) ∧ s.TypeIs v T ∧ wpAny (model X.prog X.w) X.A (getItem v (.ref sl)) (EP X pins σ Q) X.xe s
theorem SlR.or {r r' : V → Option Int → Option Int → Hp → VK → Prop} (h : SlR X r) (h' : SlR X r') : SlR X (fun x lo hi H Q => r x lo hi H Q ∨ r' x lo hi H Q) := by
  intro pins s σ H x v vl vu lo hi sl Q I rx hs pl pu q
  rcases q with q | q
  · exact h pins s σ H x v vl vu lo hi sl Q I rx hs pl pu q
  · exact h' pins s σ H x v vl vu lo hi sl Q I rx hs pl pu q
def tSl (r : V → Option Int → Option Int → Hp → VK → Prop) (te : TE) (tl th : TO) : TE := fun σ H Q => te σ H fun x H1 => tl σ H1 fun l H2 => th σ H2 fun u H3 => r x l u H3 Q
/-- a[lo:hi], any a -/
theorem pe_slice {r : V → Option Int → Option Int → Hp → VK → Prop} (hr : SlR X r) (he : PE X e te) (hl : PO X lo tl) (hu : PO X hi th) : PE X (.Subscript e (.Slice lo hi none p2) pos) (tSl r te tl th) := by
  intro pins s σ H Q I h
  refine Subscript_ (thn (he pins s σ H _ I h) fun v s1 ⟨x, H1, I1, r1, q1⟩ => ?_)
  refine wpAny_Slice (thn (hl pins s1 σ H1 _ I1 q1) fun vl s2 ⟨l, H2, I2, pl, q2⟩ => thn (hu pins s2 σ H2 _ I2 q2) fun vu s3 ⟨u, H3, I3, pu, q3⟩ => ?_)
  rw [evalPart_none]
  refine wpAny_pure ?_
  have I4 : Inv X pins σ H3 { s3 with heap := s3.heap.push { cls := .type "slice", data := .fields #[vl, vu, .none] } } := I3.kept (t' := s3.toks) fun b ob q => Heap.get?_push_of_some _ q
  obtain ⟨T, id, hT, ht, hg⟩ := hr pins { s3 with heap := s3.heap.push { cls := .type "slice", data := .fields #[vl, vu, .none] } } σ H3 x v vl vu l u s3.heap.objs.size Q I4 r1 (Heap.IsSliceOf.new ..) pl pu q3
  show wpAny (model X.prog X.w) X.A (subscriptTail e (.Slice lo hi none p2) v (.ref s3.heap.objs.size)) (EP X pins σ Q) X.xe { s3 with heap := s3.heap.push { cls := .type "slice", data := .fields #[vl, vu, .none] } }
  exact tail_any (ops := [.ref s3.heap.objs.size, v]) ht hT hg (by with_unfolding_all rfl)

/-- the items of xs[lo:hi] -/
def cutV (xs : List V) (lo hi : Option Int) : List V := (xs.drop (HT.sIx xs.length 0 lo)).take (HT.sIx xs.length xs.length hi - HT.sIx xs.length 0 lo)
theorem cutV_length (xs : List V) (lo hi : Option Int) : (cutV xs lo hi).length ≤ xs.length := by
  unfold cutV
  rw [List.length_take, List.length_drop]
  omega
/-- t[lo:hi], not the whole of it (the whole would be t itself) -/
def rSlT (K : PySem.W.Frag) : V → Option Int → Option Int → Hp → VK → Prop := fun x lo hi H Q => ∃ a xs, x = .ref a ∧ SqT K H a xs ∧
  ¬ (HT.sIx xs.length 0 lo = 0 ∧ HT.sIx xs.length xs.length hi = xs.length) ∧ ∀ p, H p = none → Q (.ref p) (upd H p (.tup (cutV xs lo hi)))
theorem sl_tup : SlR X (rSlT X.K) := by
  intro pins s σ H x v vl vu lo hi sl Q I rx hs pl pu h
  obtain ⟨a, xs, rfl, hx, hw, q⟩ := h
  cases rx
  obtain ⟨its, r, ht, hz⟩ := I.tuple hx
  have hlen : its.toArray.size = xs.length := by rw [List.size_toArray]; exact r.length.symm
  refine ⟨"tuple", _, PyProof.Rows.slot_tuple_getitem.lookup, ht.typeIs, ?_⟩
  refine HT.getItem_tuple_cut ht hs pl pu (by rw [hlen]; exact hw) ?_ (by rw [hlen]; exact hz)
  rw [hlen]
  refine ⟨.ref s.heap.objs.size, _, I.laid (t' := s.toks) (o := .tup (cutV xs lo hi)) (fun b ob q => Heap.get?_push_of_some _ q) (Nat.le_refl _) ?_, rfl, q _ (I.hok.fresh (Nat.le_refl _))⟩
  exact ⟨Nat.le_trans (cutV_length xs lo hi) hz, _, (r.drop (HT.sIx xs.length 0 lo)).take (HT.sIx xs.length xs.length hi - HT.sIx xs.length 0 lo), IsTup.new _ _⟩

/-! ### t < u, t + u -/
/-- t + u, t not empty: u empty gives t itself -/
def rCatT (K : PySem.W.Frag) : R2 := fun x y H Q => ∃ a b xs ys, x = .ref a ∧ y = .ref b ∧ SqT K H a xs ∧ SqT K H b ys ∧ xs ≠ [] ∧ xs.length + ys.length ≤ sizeLine ∧
  (ys = [] → Q (.ref a) H) ∧ (ys ≠ [] → ∀ p, H p = none → Q (.ref p) (upd H p (.tup (xs ++ ys))))
theorem Vals.nil_iff {xs : List V} {us : List Value} (r : Vals xs us) : us = [] ↔ xs = [] := by
  cases r with
  | nil => simp
  | cons _ _ => simp
theorem op_catT : OpR X (binaryOp .Add) (rCatT X.K) := by
  intro pins s σ H x y v u Q I rx ry h
  obtain ⟨a, b, xs, ys, rfl, rfl, ha, hb, hx, hz, q1, q2⟩ := h
  cases rx
  cases ry
  obtain ⟨its, r1, p1, _⟩ := I.tuple ha
  obtain ⟨its2, r2, p2, _⟩ := I.tuple hb
  refine HT.cat_tup p1 p2 (fun z => hx (r1.nil_iff.mp z)) (fun z => ⟨.ref a, H, I, rfl, q1 (r2.nil_iff.mp z)⟩) (fun z => ?_) (by rw [← r1.length, ← r2.length]; exact hz)
  refine ⟨.ref s.heap.objs.size, _, I.laid (t' := s.toks) (o := .tup (xs ++ ys)) (fun b ob q => Heap.get?_push_of_some _ q) (Nat.le_refl _) ?_, rfl, q2 (fun w => z (r2.nil_iff.mpr w)) _ (I.hok.fresh (Nat.le_refl _))⟩
  exact ⟨by rw [List.length_append]; exact hz, _, r1.append r2, IsTup.new _ _⟩
end
end L2

namespace L2
open PySem PySem.Spec PyProof.Rows

/-! ### places -/
/-- the place that an index of any sign means -/
def ixN (n : Nat) (i : Int) : Option Nat := if 0 ≤ i then (if i < n then some i.toNat else none) else if -(n : Int) ≤ i then some (i + n).toNat else none
def atI {α : Type} (xs : List α) (i : Int) : Option α := (ixN xs.length i).bind fun j => xs[j]?
theorem ixN_seq {n : Nat} {i : Int} {j : Nat} (h : ixN n i = some j) : seqIndex? i n = some j ∧ j < n ∧ -(n : Int) ≤ i ∧ i < n := by
  unfold ixN at h
  by_cases h0 : 0 ≤ i
  · rw [if_pos h0] at h
    by_cases h1 : i < n
    · rw [if_pos h1] at h
      have e : i.toNat = j := Option.some.inj h
      exact ⟨by rw [seqIndex_of h0 h1, e], by omega, by omega, h1⟩
    · rw [if_neg h1] at h; cases h
  · rw [if_neg h0] at h
    by_cases h1 : -(n : Int) ≤ i
    · rw [if_pos h1] at h
      have e : (i + n).toNat = j := Option.some.inj h
      exact ⟨by rw [seqIndex_neg (by omega) h1, e], by omega, h1, by omega⟩
    · rw [if_neg h1] at h; cases h
theorem atI_get {α : Type} {xs : List α} {i : Int} {v : α} (h : atI xs i = some v) : ∃ j, seqIndex? i xs.length = some j ∧ xs[j]? = some v ∧ j < xs.length ∧ -(xs.length : Int) ≤ i ∧ i < xs.length := by
  unfold atI at h
  cases e : ixN xs.length i with
  | none => rw [e] at h; cases h
  | some j =>
    rw [e] at h
    obtain ⟨h1, h2, h3, h4⟩ := ixN_seq e
    exact ⟨j, h1, h, h2, h3, h4⟩
theorem atI_nat {α : Type} {xs : List α} {j : Nat} {v : α} (h : xs[j]? = some v) : atI xs (j : Int) = some v := by
  have hj : j < xs.length := (List.getElem?_eq_some_iff.mp h).1
  have e : ixN xs.length (j : Int) = some j := by
    unfold ixN
    rw [if_pos (by omega), if_pos (by omega)]; simp
  unfold atI; rw [e]; exact h
/-! ### what may be subscripted -/
/-- what stands as an index of a plain subscript -/
def PlainIx (b : Expr) : Prop := ∀ o i, subscripted b false o i = operate [o, i] (getItem o i)
/-- a subscript by values -/
def IxR (X : Cx) (r : R2) : Prop :=
  ∀ (value slice : Expr) (pins : List (Addr × Obj)) (s : Shared) (σ : St) (H : Hp) (x y : V) (v u : Value) (Q : VK), Inv X pins σ H s → RelV x v → RelV y u → r x y H Q →
    subscripted slice false v u = operate [v, u] (getItem v u) → wpAny (model X.prog X.w) X.A (subscriptTail value slice v u) (EP X pins σ Q) X.xe s
/-- a call of a builtin's method by values: the receiver, the arguments -/
def MtR (X : Cx) (id : String) (r : V → List V → Hp → VK → Prop) : Prop :=
  ∀ (pins : List (Addr × Obj)) (s : Shared) (σ : St) (H : Hp) (x : V) (xs : List V) (v : Value) (us : List Value) (Q : VK), Inv X pins σ H s → RelV x v → Vals xs us → r x xs H Q →
    wpAny (model X.prog X.w) X.A (call (.builtin id) (v :: us)) (EP X pins σ Q) X.xe s
section
variable {X : Cx} {a b : Expr} {ta tb : TE} {pos : Pos}
theorem IxR.or {r r' : R2} (h : IxR X r) (h' : IxR X r') : IxR X (fun x y H Q => r x y H Q ∨ r' x y H Q) := by
  intro value slice pins s σ H x y v u Q I rx ry q hs
  rcases q with q | q
  · exact h value slice pins s σ H x y v u Q I rx ry q hs
  · exact h' value slice pins s σ H x y v u Q I rx ry q hs
theorem MtR.or {id : String} {r r' : V → List V → Hp → VK → Prop} (h : MtR X id r) (h' : MtR X id r') : MtR X id (fun x xs H Q => r x xs H Q ∨ r' x xs H Q) := by
  intro pins s σ H x xs v us Q I rx rs q
  rcases q with q | q
  · exact h pins s σ H x xs v us Q I rx rs q
  · exact h' pins s σ H x xs v us Q I rx rs q
/-- a[b] -/
theorem pe_ix {r : R2} (hr : IxR X r) (ha : PE X a ta) (hb : PE X b tb) (hs : PlainIx b) : PE X (.Subscript a b pos) (tOp r ta tb) := by
  intro pins s σ H Q I h
  exact Subscript_ (binT ha hb I h fun v u s2 x y H2 I2 rx ry q => hr a b pins s2 σ H2 x y v u Q I2 rx ry q (hs _ _))

def rIxL (K : PySem.W.Frag) : R2 := fun x y H Q => ∃ p xs i v, x = .ref p ∧ y = .int i ∧ SqL K H p xs ∧ atI xs i = some v ∧ Q v H
def rIxT (K : PySem.W.Frag) : R2 := fun x y H Q => ∃ p xs i v, x = .ref p ∧ y = .int i ∧ SqT K H p xs ∧ atI xs i = some v ∧ Q v H
def rIxS : R2 := fun x y H Q => ∃ z i c, x = .str z ∧ y = .int i ∧ z.length ≤ sizeLine ∧ atI z.cps.toList i = some c ∧ Q (.str ⟨#[c]⟩) H
theorem ix_list : IxR X (rIxL X.K) := by
  intro value slice pins s σ H x y v u Q I rx ry h hs
  obtain ⟨p, xs, i, z, rfl, rfl, hq, he, q⟩ := h
  cases rx
  obtain ⟨t, rfl⟩ := ry
  obtain ⟨its, r, pl, hz⟩ := I.list hq
  obtain ⟨j, h1, h2, h3, h4, h5⟩ := atI_get he
  obtain ⟨w, ew, rw'⟩ := r.get h2
  have hl := r.length
  have hn := line63
  have fin : EP X pins σ Q w s := ⟨z, H, I, rw', q⟩
  by_cases h0 : 0 ≤ i
  · have hj : i.toNat = j := by
      rw [seqIndex_of h0 h5] at h1
      exact Option.some.inj h1
    exact item_listR pl.isList h0 (by omega) (by rw [hj]; simpa using ew) fin hs
  · have hj : (i + (its.toArray.size : Int)).toNat = j := by
      rw [seqIndex_neg (by omega) h4] at h1
      rw [List.size_toArray, ← hl]
      exact Option.some.inj h1
    exact subscriptTail_builtinR (x := w) pl.isList.typeIs slot_list_getitem.lookup
      (wpAny_getItem_list_neg (Q := fun r s' => r = w ∧ EP X pins σ Q r s') pl.isList (by omega) (by rw [List.size_toArray] <;> omega) (by omega) (by rw [hj]; simpa using ew) ⟨rfl, fin⟩) hs
theorem ix_tup : IxR X (rIxT X.K) := by
  intro value slice pins s σ H x y v u Q I rx ry h hs
  obtain ⟨p, xs, i, z, rfl, rfl, hq, he, q⟩ := h
  cases rx
  obtain ⟨t, rfl⟩ := ry
  obtain ⟨its, r, pl, hz⟩ := I.tuple hq
  obtain ⟨j, h1, h2, h3, h4, h5⟩ := atI_get he
  obtain ⟨w, ew, rw'⟩ := r.get h2
  have hl := r.length
  have hn := line63
  have fin : EP X pins σ Q w s := ⟨z, H, I, rw', q⟩
  exact subscriptTail_builtinR (x := w) pl.typeIs slot_tuple_getitem.lookup
    (getItem_tuple (j := j) (Q := fun r s' => r = w ∧ EP X pins σ Q r s') pl (by omega) (by omega) (by rw [List.size_toArray, ← hl]; exact h1) (by simpa using ew) ⟨rfl, fin⟩) hs
theorem ix_str : IxR X rIxS := by
  intro value slice pins s σ H x y v u Q I rx ry h hs
  obtain ⟨z, i, c, rfl, rfl, hz, he, q⟩ := h
  obtain ⟨t, rfl⟩ := rx
  obtain ⟨t', rfl⟩ := ry
  obtain ⟨j, h1, h2, h3, h4, h5⟩ := atI_get he
  have hl : z.cps.toList.length = z.length := by simp [Str.length]
  rw [hl] at h1 h4 h5
  have hn := line63
  exact tail_any (typeIs_str s z t) slot_str_getitem.lookup (getItem_str (c := c) (by
    have e1 : decide (i < -(2 ^ 63 : Int)) = false := decide_eq_false (by omega)
    have e2 : decide (i ≥ 2 ^ 63) = false := decide_eq_false (by omega)
    rw [e1, e2, Bool.or_false]) (by rw [h1]; simpa using h2) ⟨.str ⟨#[c]⟩, H, I.tok _, ⟨_, rfl⟩, q⟩) hs
/-! ### xs[i] = v, any sign -/
/-- the list's object behind a store -/
theorem mapSeq_set (its : List Value) (n j : Nat) (u : Value) : Obj.mapSeq (·.setIfInBounds j u) { cls := .type "list", data := .seq its.toArray n } = { cls := .type "list", data := .seq (its.set j u).toArray n } := by
  simp [Obj.mapSeq]
theorem Inv.lst {pins : List (Addr × Obj)} {σ : St} {H : Hp} {s : Shared} {p : Addr} {xs : List V} (I : Inv X pins σ H s) (h : H p = some (.lst xs)) :
    ∃ (its : List Value) (n : Nat), Vals xs its ∧ s.heap.get? p = some { cls := .type "list", data := .seq its.toArray n } ∧ xs.length ≤ sizeLine := by
  obtain ⟨z, its, n, r, e⟩ := I.hok p _ h
  exact ⟨its, n, r, e, z⟩
/-- the list at p is written by an update of its object -/
theorem Inv.lstUpd {pins : List (Addr × Obj)} {σ : St} {H : Hp} {s : Shared} {p : Addr} {xs ys : List V} {its its' : List Value} {n n' : Nat} {f : Obj → Obj} (I : Inv X pins σ H s) (h : H p = some (.lst xs))
    (ho : s.heap.get? p = some { cls := .type "list", data := .seq its.toArray n }) (hf : f { cls := .type "list", data := .seq its.toArray n } = { cls := .type "list", data := .seq its'.toArray n' }) (r : Vals ys its') (hz : ys.length ≤ sizeLine) (t : Nat) :
    Inv X pins σ (upd H p (.lst ys)) { s with heap := s.heap.update p f, toks := t } := by
  have e : (s.heap.update p f).get? p = some { cls := .type "list", data := .seq its'.toArray n' } := by
    rw [Heap.get?_update_self f ho (by rw [hf] <;> rfl), hf]
  refine I.write (x := p) (e := p) (by rw [h]; trivial) (.inl rfl) (fun b u hb q => (Heap.get?_update_other _ _ (Ne.symm hb)).trans q) ⟨_, e⟩ ?_
  exact ⟨hz, its', n', r, e⟩
def rSetL : V → V → V → Hp → (Hp → Prop) → Prop := fun o i v H Q => ∃ p xs k j, o = .ref p ∧ i = .int k ∧ H p = some (.lst xs) ∧ ixN xs.length k = some j ∧ Q (upd H p (.lst (xs.set j v)))
theorem set_list : PSet X rSetL := by
  intro pins s σ H o i v ov iv u Q I ro ri rv h
  obtain ⟨p, xs, k, j, rfl, rfl, hp, hj, q⟩ := h
  cases ro
  obtain ⟨t, rfl⟩ := ri
  obtain ⟨its, n, r, ho, hz⟩ := I.lst hp
  obtain ⟨h1, h2, h3, h4⟩ := ixN_seq hj
  have hl := r.length
  have hn := line63
  have I' : Inv X pins σ (upd H p (.lst (xs.set j v))) { s with heap := s.heap.update p (Obj.mapSeq (·.setIfInBounds j u)) } :=
    I.lstUpd hp ho (mapSeq_set its n j u) (r.set rv j) (by rw [List.length_set]; exact hz) s.toks
  by_cases h0 : 0 ≤ k
  · have hk : k.toNat = j := by
      rw [seqIndex_of h0 h4] at h1
      exact Option.some.inj h1
    exact PySem.W.ki_setAt ho h0 (by omega) (by rw [List.size_toArray, ← hl]; exact h4) (by rw [hk]; exact ⟨_, I', q⟩)
  · have hk : (k + (its.toArray.size : Int)).toNat = j := by
      rw [seqIndex_neg (by omega) h3] at h1
      rw [List.size_toArray, ← hl]
      exact Option.some.inj h1
    exact PySem.W.ki_setBack ho (by omega) (by rw [List.size_toArray, ← hl]; exact h3) (by omega) (by rw [hk]; exact ⟨_, I', q⟩)

/-! ### slices -/
theorem slice_bounds (lo hi : Option Int) (n : Nat) : (sliceBounds lo hi none n).1 = ((HT.sIx n 0 lo : Nat) : Int) ∧ (sliceBounds lo hi none n).2.1 = ((HT.sIx n n hi : Nat) : Int) ∧ (sliceBounds lo hi none n).2.2 = 1 := by
  refine ⟨?_, ?_, rfl⟩
  · cases lo with
    | none => simp [sliceBounds, HT.sIx]
    | some i =>
      simp only [sliceBounds, HT.sIx, Option.getD_none, show (1 : Int) > 0 by decide, if_true]
      by_cases h : i < 0
      · simp only [h, if_true] <;> omega
      · simp only [h, if_false] <;> omega
  · cases hi with
    | none => simp [sliceBounds, HT.sIx]
    | some i =>
      simp only [sliceBounds, HT.sIx, Option.getD_none, show (1 : Int) > 0 by decide, if_true]
      by_cases h : i < 0
      · simp only [h, if_true] <;> omega
      · simp only [h, if_false] <;> omega
theorem slicePick_cut (its : List Value) (lo hi : Option Int) : slicePick its.toArray lo hi none = ((its.drop (HT.sIx its.length 0 lo)).take (HT.sIx its.length its.length hi - HT.sIx its.length 0 lo)).toArray := by
  obtain ⟨h1, h2, h3⟩ := slice_bounds lo hi its.toArray.size
  unfold slicePick
  rw [h1, h2, h3]
  simp only [sliceRange_one, pick_run, List.size_toArray] <;> rfl
/-- xs[lo:hi] of a list: a new list -/
def rSlL (K : PySem.W.Frag) : V → Option Int → Option Int → Hp → VK → Prop := fun x lo hi H Q => ∃ a xs, x = .ref a ∧ SqL K H a xs ∧ ∀ p, H p = none → Q (.ref p) (upd H p (.lst (cutV xs lo hi)))
theorem sl_list : SlR X (rSlL X.K) := by
  intro pins s σ H x v vl vu lo hi sl Q I rx hs pl pu h
  obtain ⟨a, xs, rfl, hx, q⟩ := h
  cases rx
  obtain ⟨its, r, ht, hz⟩ := I.list hx
  have hlen := r.length
  refine ⟨"list", _, slot_list_getitem.lookup, ht.isList.typeIs, ?_⟩
  refine wpAny_getItem_list_slice ht.isList hs pl pu .none (by simp) ?_ (by rw [List.size_toArray] <;> omega)
  rw [slicePick_cut, ← hlen]
  refine ⟨.ref s.heap.objs.size, _, I.laid (t' := s.toks) (o := .lst (cutV xs lo hi)) (fun b ob q => Heap.get?_push_of_some _ q) (Nat.le_refl _) ?_, rfl, q _ (I.hok.fresh (Nat.le_refl _))⟩
  exact ⟨Nat.le_trans (cutV_length xs lo hi) hz, _, 0, (r.drop (HT.sIx xs.length 0 lo)).take (HT.sIx xs.length xs.length hi - HT.sIx xs.length 0 lo), Heap.get?_push_size _ rfl⟩

/-! ### in, not in: flat items -/
def flatV : V → Bool
  | .non => true
  | .bl _ => true
  | .int _ => true
  | .str _ => true
  | _ => false
/-- == of flat values -/
def eqV : V → V → Bool
  | .non, .non => true
  | .bl a, .bl b => a == b
  | .bl a, .int b => (if a then 1 else 0) == b
  | .int a, .bl b => a == (if b then 1 else 0)
  | .int a, .int b => a == b
  | .str a, .str b => a == b
  | _, _ => false
theorem eqAt_V {A : Around} {s : Shared} {y x : V} {u v : Value} (ry : RelV y u) (rx : RelV x v) (fy : flatV y = true) (fx : flatV x = true) : SeqAt.EqAt A s u v (eqV y x) := by
  cases y with
  | non =>
    cases ry
    cases x with
    | non => cases rx; exact SeqAt.EqAt.same _
    | bl b => cases rx; exact SeqAt.EqAt.none_bool b
    | int b => obtain ⟨t, rfl⟩ := rx; exact SeqAt.EqAt.none_int b t
    | str b => obtain ⟨t, rfl⟩ := rx; exact SeqAt.EqAt.none_str b t
    | _ => exact absurd (show false = true from fx) Bool.false_ne_true
  | bl a =>
    cases ry
    cases x with
    | non => cases rx; exact SeqAt.EqAt.bool_none a
    | bl b => cases rx; exact SeqAt.EqAt.bool_bool a b
    | int b => obtain ⟨t, rfl⟩ := rx; exact SeqAt.EqAt.bool_int a b t
    | str b => obtain ⟨t, rfl⟩ := rx; exact SeqAt.EqAt.bool_str a b t
    | _ => exact absurd (show false = true from fx) Bool.false_ne_true
  | int a =>
    obtain ⟨t', rfl⟩ := ry
    cases x with
    | non => cases rx; exact SeqAt.EqAt.int_none a t'
    | bl b => cases rx; exact SeqAt.EqAt.int_bool a t' b
    | int b => obtain ⟨t, rfl⟩ := rx; exact SeqAt.EqAt.int_int a t' b t
    | str b => obtain ⟨t, rfl⟩ := rx; exact SeqAt.EqAt.int_str a t' b t
    | _ => exact absurd (show false = true from fx) Bool.false_ne_true
  | str a =>
    obtain ⟨t', rfl⟩ := ry
    cases x with
    | non => cases rx; exact SeqAt.EqAt.str_none a t'
    | bl b => cases rx; exact SeqAt.EqAt.str_bool a t' b
    | int b => obtain ⟨t, rfl⟩ := rx; exact SeqAt.EqAt.str_int a t' b t
    | str b => obtain ⟨t, rfl⟩ := rx; exact SeqAt.EqAt.str_str a t' b t
    | _ => exact absurd (show false = true from fx) Bool.false_ne_true
  | _ => exact absurd (show false = true from fy) Bool.false_ne_true
/-- the items' answers, read off the values (a value's own answer does not lean on its token) -/
def eqU (x : V) (u : Value) : Bool := match u with
  | .none => eqV .non x
  | .bool b => eqV (.bl b) x
  | .int i _ => eqV (.int i) x
  | .str z _ => eqV (.str z) x
  | _ => false
theorem eqU_of {x y : V} {u : Value} (r : RelV y u) (f : flatV y = true) : eqU x u = eqV y x := by
  cases y with
  | non => cases r; rfl
  | bl b => cases r; rfl
  | int i => obtain ⟨t, rfl⟩ := r; rfl
  | str z => obtain ⟨t, rfl⟩ := r; rfl
  | _ => exact absurd (show false = true from f) Bool.false_ne_true
theorem any_eqU {x : V} : ∀ {xs : List V} {us : List Value}, Vals xs us → xs.all flatV = true → us.any (eqU x) = xs.any fun y => eqV y x
  | _, _, .nil, _ => rfl
  | y :: xs, u :: us, .cons r t, f => by
    rw [List.all_cons, Bool.and_eq_true] at f
    rw [List.any_cons, List.any_cons, eqU_of r f.1, any_eqU t f.2]
theorem mem_eqAt {A : Around} {s : Shared} {x : V} {v : Value} (rx : RelV x v) (fx : flatV x = true) : ∀ {xs : List V} {us : List Value}, Vals xs us → xs.all flatV = true → ∀ u ∈ us, SeqAt.EqAt A s u v (eqU x u)
  | _, _, .nil, _ => fun u hu => by cases hu
  | y :: xs, u :: us, .cons r t, f => fun u' hu => by
    rw [List.all_cons, Bool.and_eq_true] at f
    rcases List.mem_cons.mp hu with rfl | hu
    · rw [eqU_of r f.1]; exact eqAt_V r rx f.1 fx
    · exact mem_eqAt rx fx t f.2 u' hu
def inV (x : V) (xs : List V) : Bool := xs.any fun y => eqV y x
/-- x in a list or tuple of flat items -/
def rIn (K : PySem.W.Frag) (neg : Bool) : R2 := fun x y H Q => ∃ p xs, y = .ref p ∧ (SqL K H p xs ∨ SqT K H p xs) ∧ flatV x = true ∧ xs.all flatV = true ∧ Q (.bl (if neg then !inV x xs else inV x xs)) H
theorem op_in_seq : OpR X (compareOp .In) (rIn X.K false) := by
  intro pins s σ H x y v u Q I rx ry h
  obtain ⟨p, xs, rfl, hq, fx, fs, q⟩ := h
  cases ry
  rcases hq with hq | hq
  · obtain ⟨its, r, pl, hz⟩ := I.list hq
    refine SeqAt.in_listAt (eqU x) pl.isList (fun w hw => mem_eqAt rx fx r fs w (by simpa using hw)) ⟨.bl _, H, I, rfl, ?_⟩
    rw [show its.toArray.any (eqU x) = its.any (eqU x) by simp, any_eqU r fs]
    exact q
  · obtain ⟨its, r, pl, hz⟩ := I.tuple hq
    refine SeqAt.in_tupleAt (eqU x) pl (fun w hw => mem_eqAt rx fx r fs w (by simpa using hw)) ⟨.bl _, H, I, rfl, ?_⟩
    rw [show its.toArray.any (eqU x) = its.any (eqU x) by simp, any_eqU r fs]
    exact q
theorem op_notIn_seq : OpR X (compareOp .NotIn) (rIn X.K true) := by
  intro pins s σ H x y v u Q I rx ry h
  obtain ⟨p, xs, rfl, hq, fx, fs, q⟩ := h
  cases ry
  rcases hq with hq | hq
  · obtain ⟨its, r, pl, hz⟩ := I.list hq
    refine SeqAt.notIn_listAt (eqU x) pl.isList (fun w hw => mem_eqAt rx fx r fs w (by simpa using hw)) ⟨.bl _, H, I, rfl, ?_⟩
    rw [show its.toArray.any (eqU x) = its.any (eqU x) by simp, any_eqU r fs]
    exact q
  · obtain ⟨its, r, pl, hz⟩ := I.tuple hq
    refine SeqAt.notIn_tupleAt (eqU x) pl (fun w hw => mem_eqAt rx fx r fs w (by simpa using hw)) ⟨.bl _, H, I, rfl, ?_⟩
    rw [show its.toArray.any (eqU x) = its.any (eqU x) by simp, any_eqU r fs]
    exact q
/-! ### len, list(x), tuple(x) of any list or tuple that is read -/
theorem call_len_seq : CallR X (.builtin "len") (fun xs H Q => ∃ p ys, xs = [.ref p] ∧ (SqL X.K H p ys ∨ SqT X.K H p ys) ∧ Q (.int ys.length) H) := by
  intro pins s σ H xs us Q I r h
  obtain ⟨p, ys, rfl, hq, q⟩ := h
  obtain ⟨u, rfl, rx⟩ := vals1 r
  cases rx
  have hn := line63
  rcases hq with hq | hq
  · obtain ⟨its, r', pl, hz⟩ := I.list hq
    have hlen := r'.length
    exact Calls.call_len_list pl.isList (by simp only [List.size_toArray] <;> omega) ⟨.int ys.length, H, I.tok _, ⟨s.toks + 1, by rw [List.size_toArray, hlen]⟩, q⟩
  · obtain ⟨its, r', pl, hz⟩ := I.tuple hq
    have hlen := r'.length
    exact len_tuple pl (by simp only [List.size_toArray] <;> omega) ⟨.int ys.length, H, I.tok _, ⟨s.toks + 1, by rw [List.size_toArray, hlen]⟩, q⟩
theorem call_len_str : CallR X (.builtin "len") (fun xs H Q => ∃ z, xs = [.str z] ∧ z.length ≤ sizeLine ∧ Q (.int z.length) H) := by
  intro pins s σ H xs us Q I r h
  obtain ⟨z, rfl, hz, q⟩ := h
  obtain ⟨u, rfl, t, rfl⟩ := vals1 r
  have hn := line63
  exact len_str (by omega) ⟨.int z.length, H, I.tok _, ⟨_, rfl⟩, q⟩
theorem CallR.or {f : Value} {r r' : List V → Hp → VK → Prop} (h : CallR X f r) (h' : CallR X f r') : CallR X f (fun xs H Q => r xs H Q ∨ r' xs H Q) := by
  intro pins s σ H xs us Q I rs q
  rcases q with q | q
  · exact h pins s σ H xs us Q I rs q
  · exact h' pins s σ H xs us Q I rs q
theorem call_list_of : CallR X (.type "list") (fun xs H Q => ∃ p ys, xs = [.ref p] ∧ (SqL X.K H p ys ∨ SqT X.K H p ys) ∧ ∀ l, H l = none → Q (.ref l) (upd H l (.lst ys))) := by
  intro pins s σ H xs us Q I r h
  obtain ⟨p, ys, rfl, hq, q⟩ := h
  obtain ⟨u, rfl, rx⟩ := vals1 r
  cases rx
  have fin : ∀ (its : List Value), Vals ys its → ys.length ≤ sizeLine → ∀ (h' : Heap) (c' : Nat), (∀ b o', s.heap.get? b = some o' → h'.get? b = some o') →
      h'.get? s.heap.objs.size = some { cls := .type "list", dict := none, data := .seq its.toArray c', slots := #[] } → EP X pins σ Q (.ref s.heap.objs.size) { s with heap := h' } := fun its r' hz h' c' kp e =>
    ⟨.ref s.heap.objs.size, _, I.laid (t' := s.toks) kp (Nat.le_refl _) (show ObjOk X.prog X.w _ h' _ (.lst ys) from ⟨hz, its, c', r', e⟩), rfl, q _ (I.hok.fresh (Nat.le_refl _))⟩
  rcases hq with hq | hq
  · obtain ⟨its, r', pl, hz⟩ := I.list hq
    have hlen := r'.length
    obtain ⟨o, ho, hc, n, hd⟩ := pl.isList
    exact call_list_seq p (.inl rfl) ho hc hd (fun h' c' kp e => fin its r' hz h' c' kp e) (by simp only [List.size_toArray] <;> omega)
  · obtain ⟨its, r', pl, hz⟩ := I.tuple hq
    have hlen := r'.length
    obtain ⟨o, ho, hc, n, hd⟩ := pl
    exact call_list_seq p (.inr rfl) ho hc hd (fun h' c' kp e => fin its r' hz h' c' kp e) (by simp only [List.size_toArray] <;> omega)
theorem call_tuple_of : CallR X (.type "tuple") (fun xs H Q => ∃ p ys, xs = [.ref p] ∧ ((SqL X.K H p ys ∧ ∀ l, H l = none → Q (.ref l) (upd H l (.tup ys))) ∨ (SqT X.K H p ys ∧ Q (.ref p) H))) := by
  intro pins s σ H xs us Q I r h
  obtain ⟨p, ys, rfl, h⟩ := h
  obtain ⟨u, rfl, rx⟩ := vals1 r
  cases rx
  rcases h with ⟨hq, q⟩ | ⟨hq, q⟩
  · obtain ⟨its, r', pl, hz⟩ := I.list hq
    have hlen := r'.length
    refine call_tuple_list pl.isList (fun h' kp => ?_) (by simp only [List.size_toArray] <;> omega)
    have I1 : Inv X pins σ H { s with heap := h' } := I.kept (t' := s.toks) kp
    have I2 : Inv X pins σ (upd H h'.objs.size (.tup ys)) { s with heap := h'.push { cls := .type "tuple", data := .seq its.toArray } } :=
      I1.laid (t' := s.toks) (fun b o e => Heap.get?_push_of_some _ e) (Nat.le_refl _) (show ObjOk X.prog X.w _ _ _ (.tup ys) from ⟨hz, its, r', IsTup.new _ _⟩)
    exact ⟨.ref h'.objs.size, _, I2, rfl, q _ (I1.hok.fresh (Nat.le_refl _))⟩
  · obtain ⟨its, r', pl, hz⟩ := I.tuple hq
    exact call_tuple_same pl ⟨.ref p, H, I, rfl, q⟩

/-! ### the call of a builtin's method: o.m(..) -/
/-- the value is of that builtin type -/
def tyV (K : PySem.W.Frag) (T : String) (x : V) (H : Hp) : Prop := match x with
  | .str _ => T = "str"
  | .int _ => T = "int"
  | .ref p => (T = "list" ∧ ∃ xs, SqL K H p xs) ∨ (T = "tuple" ∧ ∃ o, K.lookup p = some o ∧ o.cls = .type "tuple" ∧ o.dict = none) ∨
      (T = "dict" ∧ ((∃ kvs, H p = some (.dK kvs)) ∨ ∃ kvs, H p = some (.dT kvs))) ∨ (T = "set" ∧ ∃ S n, H p = some (.set S n))
  | _ => False
theorem tyV_is {pins : List (Addr × Obj)} {σ : St} {H : Hp} {s : Shared} {T : String} {x : V} {v : Value} (I : Inv X pins σ H s) (r : RelV x v) (ty : tyV X.K T x H) :
    s.TypeIs v T ∧ ∀ a, v = .ref a → ∃ ob, s.heap.get? a = some ob ∧ ob.dict = none := by
  cases x with
  | str z =>
    obtain ⟨t, rfl⟩ := r
    cases (show T = "str" from ty)
    exact ⟨typeIs_str s z t, fun _ e => nomatch e⟩
  | int i =>
    obtain ⟨t, rfl⟩ := r
    cases (show T = "int" from ty)
    exact ⟨typeIs_int s i t, fun _ e => nomatch e⟩
  | ref p =>
    cases r
    rcases ty with ⟨rfl, xs, hq⟩ | ⟨rfl, o, hk, hc, hd⟩ | ⟨rfl, hk⟩ | ⟨rfl, S, n, hk⟩
    · obtain ⟨its, _, pl, _⟩ := I.list hq
      refine ⟨pl.isList.typeIs, fun a e => ?_⟩
      cases e
      obtain ⟨o, n, e, c, hd, _⟩ := pl
      exact ⟨o, e, hd⟩
    · refine ⟨⟨o, I.kIn p o hk, hc⟩, fun a e => ?_⟩
      cases e
      exact ⟨o, I.kIn _ o hk, hd⟩
    · have z : ∃ o, s.heap.get? p = some o ∧ o.ExactDict := by
        rcases hk with ⟨kvs, hk⟩ | ⟨kvs, hk⟩
        · obtain ⟨_, _, _, _, o, _, _, e, ex, _⟩ := I.hok p _ hk
          exact ⟨o, e, ex⟩
        · obtain ⟨_, _, _, _, o, _, _, e, ex, _⟩ := I.hok p _ hk
          exact ⟨o, e, ex⟩
      obtain ⟨o, e, ex⟩ := z
      refine ⟨⟨o, e, ex.1⟩, fun a e2 => ?_⟩
      cases e2
      exact ⟨o, e, ex.2.1⟩
    · obtain ⟨o, _, _, _, e, ex, _⟩ := I.hok p _ hk
      refine ⟨⟨o, e, ex.1⟩, fun a e2 => ?_⟩
      cases e2
      exact ⟨o, e, ex.2.1⟩
  | _ => exact False.elim ty
def tBM (K : PySem.W.Frag) (T : String) (r : V → List V → Hp → VK → Prop) (to : TE) (t : TA) : TE := fun σ H Q => to σ H fun x H1 => tyV K T x H1 ∧ t σ H1 fun xs H2 => r x xs H2 Q
variable {o e : Expr} {es : List Expr} {to : TE} {t : TA} {name : Str} {apos cpos : Pos} {T id : String} {r : V → List V → Hp → VK → Prop}
theorem pe_bm (pa : PlainAttrs T) (slot : Slot T name id) (hty : typeOf (.builtin id) = pure (.type "method_descriptor")) (hm : MtR X id r) (ho : PE X o to) (ha : PA X (e :: es) t)
    (hbase : attributeBase o name X.env (eval o X.env) = eval o X.env := by rfl)
    (hfew : ((backTo cpos (starEach (e :: es) X.env)).all (fun x => !x.1) && (backToKw cpos (keywordEach [] X.env)).all (fun x => x.1.isSome)
      && decide ((e :: es).length + ([] : List Keyword).length + (if ([] : List Keyword).isEmpty then 0 else 1) < 30)) = true := by rfl)
    (hline : (apos.endLine == cpos.line) = true := by rfl) (hs : starEach (e :: es) X.env = (false, eval e X.env) :: starEach es X.env := by rfl) (hplain : (backTo cpos (starEach es X.env)).any (·.1) = false := by rfl) :
    PE X (.Call (.Attribute o name apos) (e :: es) [] cpos) (tBM X.K T r to t) := by
  intro pins s σ H Q I h
  refine wpAny_Call_method_late hbase hfew hline rfl (thn (ho pins s σ H _ I h) fun v s1 ⟨x, H1, I1, r1, ty, q1⟩ => ?_)
  obtain ⟨h1, h2⟩ := tyV_is I1 r1 ty
  refine ⟨T, id, pa, slot, hty, h1, h2, ?_⟩
  have hA := ha cpos pins s1 σ H1 _ I1 q1
  rw [hs] at hA ⊢
  refine Calls.callWith_builtin (by show (false || (backTo cpos (starEach es X.env)).any (·.1)) = false; rw [hplain] <;> rfl) (Calls.evalArgs_plain ?_)
  exact thn hA fun us s2 ⟨vs, H2, I2, r2, q2⟩ => hm pins s2 σ H2 x vs v us Q I2 r1 r2 q2
/- xs.append(e), list.index on a module's tuple .. are MtR facts of 06m -/
end
end L2

namespace L2
open PySem PySem.Spec PyProof.Rows

def MtM (X : Cx) (id : String) (r : V → List V → Hp → VK → Prop) : Prop :=
  ∀ (pins : List (Addr × Obj)) (s : Shared) (σ : St) (H : Hp) (x : V) (xs : List V) (v : Value) (us : List Value) (Q : VK), Inv X pins σ H s → RelV x v → Vals xs us → r x xs H Q →
    wpAny (model X.prog X.w) X.A (call (.builtin id) (v :: us)) (EP X pins σ Q) X.xe s

/-! ### lists of values -/
theorem Vals.one : ∀ {x : V} {us : List Value}, Vals [x] us → ∃ u, us = [u] ∧ RelV x u
  | _, _, .cons r .nil => ⟨_, rfl, r⟩
theorem Vals.two : ∀ {x y : V} {us : List Value}, Vals [x, y] us → ∃ u v, us = [u, v] ∧ RelV x u ∧ RelV y v
  | _, _, _, .cons r (.cons q .nil) => ⟨_, _, rfl, r, q⟩
theorem Vals.zero : ∀ {us : List Value}, Vals [] us → us = []
  | _, .nil => rfl
theorem Vals.eraseIdx : ∀ {xs : List V} {us : List Value} (i : Nat), Vals xs us → Vals (xs.eraseIdx i) (us.eraseIdx i)
  | _, _, _, .nil => .nil
  | _, _, 0, .cons _ t => t
  | _, _, i + 1, .cons r t => .cons r (Vals.eraseIdx i t)
theorem Vals.reverse {xs : List V} {us : List Value} (h : Vals xs us) : Vals xs.reverse us.reverse := by
  induction h with
  | nil => exact .nil
  | cons r t ih => rw [List.reverse_cons, List.reverse_cons]; exact Vals.append ih (.cons r .nil)
theorem Vals.rep {xs : List V} {us : List Value} (h : Vals xs us) : ∀ k : Nat, Vals (List.replicate k xs).flatten (List.replicate k us).flatten
  | 0 => .nil
  | k + 1 => by
    rw [List.replicate_succ, List.replicate_succ, List.flatten_cons, List.flatten_cons]
    exact Vals.append h (Vals.rep h k)
theorem len_erase {α : Type} : ∀ (l : List α) (i : Nat), (l.eraseIdx i).length ≤ l.length
  | [], _ => Nat.le_refl _
  | _ :: _, 0 => Nat.le_succ _
  | _ :: r, i + 1 => Nat.succ_le_succ (len_erase r i)
theorem foldl_rep (its : List Value) : ∀ (k : Nat) (acc : List Value),
    List.foldl (fun x1 x2 => x1 ++ x2) acc.toArray (List.replicate k its.toArray) = (acc ++ (List.replicate k its).flatten).toArray
  | 0, acc => by simp
  | k + 1, acc => by
    have e : acc.toArray ++ its.toArray = (acc ++ its).toArray := by simp
    have e2 : (acc ++ its) ++ (List.replicate k its).flatten = acc ++ (List.replicate (k + 1) its).flatten := by
      rw [List.replicate_succ, List.flatten_cons, List.append_assoc]
    rw [← e2, ← foldl_rep its k (acc ++ its), ← e, List.replicate_succ, List.foldl_cons]

section
variable {X : Cx} {pins : List (Addr × Obj)} {σ : St} {H : Hp} {s : Shared} {l b : Addr} {xs ys zs : List V}

/-! ### the two steps: a tracked list is rewritten, a new list is laid -/
theorem Inv.lset {its its' : List Value} {n : Nat} {f : Array Value → Array Value} {t' : Nat} (I : Inv X pins σ H s) (hH : H l = some (.lst xs))
    (e : s.heap.get? l = some { cls := .type "list", data := .seq its.toArray n }) (hf : f its.toArray = its'.toArray) (hv : Vals ys its') (hz : ys.length ≤ sizeLine) :
    Inv X pins σ (upd H l (.lst ys)) { s with heap := s.heap.update l (Obj.mapSeq f), toks := t' } := by
  have q := PySem.IsL.update e f
  rw [hf] at q
  refine I.write (x := l) (e := l) (by rw [hH]; exact trivial) (.inl rfl) (fun b' u hb hu => (Heap.get?_update_other s.heap (Obj.mapSeq f) (Ne.symm hb)).trans hu) ⟨_, q⟩ ?_
  exact ⟨hz, its', _, hv, q⟩
theorem Inv.lnew {its : List Value} {t' : Nat} (I : Inv X pins σ H s) (hv : Vals ys its) (hz : ys.length ≤ sizeLine) :
    Inv X pins σ (upd H s.heap.objs.size (.lst ys)) { s with heap := s.heap.push { cls := .type "list", data := .seq its.toArray }, toks := t' } :=
  I.laid (fun _ _ q => Heap.get?_push_of_some _ q) (Nat.le_refl _) ⟨hz, its, 0, hv, Heap.get?_push_size _ rfl⟩
theorem Inv.fresh (I : Inv X pins σ H s) : H s.heap.objs.size = none := I.hok.fresh (Nat.le_refl _)
theorem Inv.lstM (I : Inv X pins σ H s) (hH : H l = some (.lst xs)) : xs.length ≤ sizeLine ∧ ∃ (its : List Value) (n : Nat), Vals xs its ∧ xs.length = its.length ∧ s.heap.get? l = some { cls := .type "list", data := .seq its.toArray n } := by
  obtain ⟨z, its, n, r, e⟩ := I.hok l _ hH
  exact ⟨z, its, n, r, r.length, e⟩

theorem notLongL {n : Nat} (h : n ≤ sizeLine) : Builtin.List.listTooLong n = false := by
  unfold Builtin.List.listTooLong
  exact decide_eq_false (by omega)
end

section
variable {X : Cx}

/-! ### methods -/
def rAppend : V → List V → Hp → VK → Prop := fun x vs H Q => ∃ l xs y, x = .ref l ∧ vs = [y] ∧ H l = some (.lst xs) ∧ xs.length < sizeLine ∧ Q .non (upd H l (.lst (xs ++ [y])))
theorem mt_append : MtM X "list.append" rAppend := by
  intro pins s σ H x vs v us Q I rx rv h
  obtain ⟨l, xs, y, rfl, rfl, hH, hz, q⟩ := h
  cases rx
  obtain ⟨u, rfl, ru⟩ := rv.one
  obtain ⟨z, its, n, r, hl, e⟩ := I.lstM hH
  refine call_meets F.slot_list_append ⟨_, e, rfl⟩ F.entry_list_append (F.args_list_append_2 _ _) (PySem.list_append l its.toArray n u (by rw [List.size_toArray]; omega)) ⟨e, ?_⟩
  refine ⟨.non, _, I.lset (its' := its ++ [u]) hH e (by simp) (r.append (.cons ru .nil)) ?_, rfl, q⟩
  rw [List.length_append, List.length_singleton]
  omega

def rExtend : V → List V → Hp → VK → Prop := fun x vs H Q => ∃ l b xs zs, x = .ref l ∧ vs = [.ref b] ∧ H l = some (.lst xs) ∧ H b = some (.lst zs) ∧ xs.length + zs.length ≤ sizeLine ∧ Q .non (upd H l (.lst (xs ++ zs)))
theorem mt_extend : MtM X "list.extend" rExtend := by
  intro pins s σ H x vs v us Q I rx rv h
  obtain ⟨l, b, xs, zs, rfl, rfl, hH, hB, hz, q⟩ := h
  cases rx
  obtain ⟨u, rfl, ru⟩ := rv.one
  cases ru
  obtain ⟨z, its, n, r, hl, e⟩ := I.lstM hH
  obtain ⟨z2, its2, n2, r2, hl2, e2⟩ := I.lstM hB
  have hsz : its.toArray.size + its2.toArray.size ≤ sizeLine := by rw [List.size_toArray, List.size_toArray]; omega
  have hlong : ¬ (!its.toArray.isEmpty && Builtin.List.listTooLong (its.toArray.size + its2.toArray.size)) = true := by
    rw [notLongL hsz, Bool.and_false]
    exact Bool.false_ne_true
  refine call_meets F.slot_list_extend ⟨_, e, rfl⟩ F.entry_list_extend (F.args_list_extend_2 _ _)
    (AutoSeq1.list_extend_list_list_0 l its.toArray n b its2.toArray n2 hlong (by rw [List.size_toArray]; omega) (by omega)) ⟨e, e2, ?_⟩
  refine ⟨.non, _, I.lset (its' := its ++ its2) hH e (by simp) (r.append r2) ?_, rfl, q⟩
  rw [List.length_append]
  omega

def rPopAt : V → List V → Hp → VK → Prop := fun x vs H Q => ∃ l xs i k y, x = .ref l ∧ vs = [.int i] ∧ H l = some (.lst xs) ∧ -(2 ^ 63) ≤ i ∧ i < 2 ^ 63 ∧ seqIndex? i xs.length = some k ∧ xs[k]? = some y ∧ Q y (upd H l (.lst (xs.eraseIdx k)))
theorem mt_popAt : MtM X "list.pop" rPopAt := by
  intro pins s σ H x vs v us Q I rx rv h
  obtain ⟨l, xs, i, k, y, rfl, rfl, hH, h1, h2, hk, hy, q⟩ := h
  cases rx
  obtain ⟨u, rfl, ru⟩ := rv.one
  obtain ⟨t, rfl⟩ := ru
  obtain ⟨z, its, n, r, hl, e⟩ := I.lstM hH
  obtain ⟨w, hw, rw'⟩ := r.get hy
  refine call_meets F.slot_list_pop ⟨_, e, rfl⟩ F.entry_list_pop (F.args_list_pop_2 _ _)
    (MeetsSeq.list_pop_at l its.toArray n i t k w (fitsIndex_both h1 h2) (by rw [List.size_toArray, ← hl]; exact hk) (by rw [← Array.getElem?_toList]; exact hw) (by rw [List.size_toArray]; omega)) ⟨e, ?_⟩
  refine ⟨y, _, I.lset (its' := its.eraseIdx k) hH e ?_ (r.eraseIdx k) ?_, rw', q⟩
  · show its.toArray.eraseIdxIfInBounds k = (its.eraseIdx k).toArray
    rw [List.eraseIdxIfInBounds_toArray]
  · have := len_erase xs k
    omega

/-! ### list + list, list += list, list * int -/
/-- a list times an int (a negative one is nothing) -/
def rRep : R2 := fun x y H Q => ∃ l k xs, x = .ref l ∧ y = .int k ∧ H l = some (.lst xs) ∧ -(2 ^ 63) ≤ k ∧ k < 2 ^ 63 ∧ xs.length * k.toNat ≤ sizeLine ∧
  ∀ p, H p = none → Q (.ref p) (upd H p (.lst (List.replicate k.toNat xs).flatten))
theorem len_rep {α : Type} (xs : List α) (k : Nat) : (List.replicate k xs).flatten.length = k * xs.length := by
  induction k with
  | zero => simp
  | succ k ih => rw [List.replicate_succ, List.flatten_cons, List.length_append, ih, Nat.succ_mul, Nat.add_comm]
theorem op_rep : OpR X (binaryOp .Mult) rRep := by
  intro pins s σ H x y v u Q I rx ry h
  obtain ⟨l, k, xs, rfl, rfl, hH, h1, h2, hz, q⟩ := h
  cases rx
  obtain ⟨t, rfl⟩ := ry
  obtain ⟨z, its, n, r, hl, e⟩ := I.lstM hH
  have hlen : its.toArray.size * k.toNat ≤ sizeLine := by rw [List.size_toArray, ← hl]; exact hz
  have hcap : ¬ its.toArray.size * k.toNat > (2 ^ 63 - 1) / 8 := by
    have : (sizeLine : Nat) ≤ (2 ^ 63 - 1) / 8 := by decide
    omega
  have hfit : ¬ (!Builtin.List.listFitsIndex k) = true := by
    rw [fitsIndex_both h1 h2]
    exact Bool.false_ne_true
  have hlong : ¬ Builtin.List.listTooLong (its.toArray.size * k.toNat) = true := by
    rw [notLongL hlen]
    exact Bool.false_ne_true
  have hnew : List.foldl (fun x1 x2 => x1 ++ x2) #[] (List.replicate (if its.toArray.isEmpty = true then 0 else k.toNat) its.toArray) = (List.replicate k.toNat its).flatten.toArray := by
    have f0 : ∀ m : Nat, List.foldl (fun x1 x2 => x1 ++ x2) #[] (List.replicate m its.toArray) = (List.replicate m its).flatten.toArray := fun m => by
      have := foldl_rep its m []
      rw [List.nil_append] at this
      exact this
    rw [f0]
    cases its with
    | nil => simp
    | cons a r' => rw [if_neg (by simp)]
  refine wpAny_binaryOp_repeat_ref (T := "list") (U := "int") (by decide) ⟨_, e, rfl⟩ (fun s' => typeIs_int s' k t) noFill_list_mul F.fills_int_mul F.slot_int_rmul repeat_list F.slot_int_index.lookup
    (call_meets F.slot_int_rmul (typeIs_int s k t) F.entry_int_rmul (F.args_int_rmul_2 _ _) (int___rmul___int_list k t l its.toArray n)
      ⟨e, rfl, ⟨_, e, rfl⟩, call_meets F.slot_list_mul ⟨_, e, rfl⟩ F.entry_list_mul (F.args_list_mul_2 _ _) (AutoListH.list___mul___list_int_3 l its.toArray n k t hfit hcap hlong) ⟨e, ?_⟩⟩)
  rw [hnew]
  exact ⟨.ref _, _, I.lnew (t' := s.toks) (r.rep k.toNat) (by rw [len_rep, Nat.mul_comm]; exact hz), rfl, q _ I.fresh⟩

/-! ### del xs[i] -/
end

/-! ### xs[a:b] = ys -/
section
variable {prog : Program} {w : World} {A : Around} {E : Value → Shared → Prop} {s : Shared}
end

section
variable {X : Cx}
end
end L2

namespace Att
open PySem PySem.W PySem.Calls PyProof.Rows

/-! ### the script -/
theorem ints_of_wellAll {P : Params} {h : Heap} : ∀ (ns : List Int) (vs : List Value), WellAll P h vs (ns.map WData.int) → IntsAre vs ns := by
  intro ns
  induction ns with
  | nil =>
    intro vs w
    rw [List.map_nil] at w
    cases w
    exact .nil
  | cons n ns ih =>
    intro vs w
    rw [List.map_cons] at w
    cases w with
    | cons a b =>
      cases a
      exact .cons _ _ (ih _ b)

theorem script_of {l : OpenLaw} {n : Nat} (hn : l.most = some n) {P : Params} {h : Heap} {args : List WData} {vals : List Value}
    (hpre : l.row.toRowW.claim.pre args = true) (hwl : WellAll P h vals args) :
    ∃ a vs ns, vals = [Value.ref a] ∧ args = [WData.list (ns.map WData.int)] ∧ h.get? a = some { cls := .type "list", data := .seq vs.toArray } ∧ IntsAre vs ns ∧ ns.length ≤ n := by
  have hsh : WShape.hasAll [] args [.list .int] = true := (pre_splitW hpre).1
  have hc : l.pre.holds [] { args := args } = true := (pre_splitW hpre).2
  obtain ⟨d, r, rfl, h1, h2⟩ := hasAllW_cons hsh
  obtain rfl := hasAllW_nil h2
  obtain ⟨xs, rfl, h3⟩ := hasW_list h1
  obtain ⟨ns, rfl⟩ := items_int h3
  have hlen : ns.length ≤ n := by
    unfold OpenLaw.pre at hc
    have h4 : (WTm.not (.lt (.lit (.int (n : Int))) (.len (.arg 0)))).holds [] { args := [.list (ns.map .int)] } = true := by
      have h4 := (holds_andW hc).1
      rw [hn] at h4
      exact h4
    have h5 := condW_of h4 (w_not (w_lt w_lit (w_len_list (w_arg rfl))))
    rw [List.length_map] at h5
    refine Nat.le_of_not_lt fun q => ?_
    have q' : (n : Int) < ((ns.length : Nat) : Int) := by omega
    first
      | (rw [decide_eq_true q'] at h5; exact absurd h5 (by decide))
      | (simp at h5; omega)
  cases hwl with
  | cons w1 w2 =>
    cases w2
    cases w1 with
    | list ho hall => exact ⟨_, _, ns, rfl, rfl, ho, ints_of_wellAll ns _ hall, hlen⟩

theorem post_true (l : OpenLaw) (args : List WData) : l.row.toRowW.claim.post args (.bool true) args = true :=
  postW_of (r := l.row.toRowW) (X := (true == true))
    (show WShape.has [] (.bool true) .bool = true by first | rfl | decide | simp [WShape.has, WShape.arms, WShape.armsAll])
    (show (WTm.eq .res (.lit (.bool true))).value [] { args := args, res := some (.bool true), after := args } = some (.bool (true == true)) from w_eq_bool (w_res rfl) w_lit) rfl

/-! ### the attachment: holds_open's last premise (the goal 'hc' behind k_head) from a wpAny of the law's body -/
/-- the same from a codeAny of the CALL (for a layer whose function contracts speak of calls) -/
theorem attach_call {l : OpenLaw} {n : Nat} {q : Program} {loose : List Str} {XP : (Str → Option Value) → Heap → Prop} {YP : World → Heap → Prop} {d : DefRec}
    (hn : l.most = some n) (hdf : d.params.defaults = [])
    (call : ∀ (w : World) (s₀ s₁ : Shared) (mg mb : Str → Option Value) (fa : Addr) (o : Obj) (pm cd doc : Value) (a : Addr) (vs : List Value) (ns : List Int),
      Ground q loose [] XP w s₀ mg mb s₁.heap → YP w s₁.heap →
      s₁.heap.get? fa = some o → o.data = .func (docDef d.name d.params d.body d.scope pm cd doc) → s₁.heap.CodeRec cd d.name → mg d.name = some (.ref fa) →
      s₁.heap.get? a = some { cls := .type "list", data := .seq vs.toArray } → IntsAre vs ns → ns.length ≤ n → s₁.gens = #[] →
      codeAny (model l.prog w) callerA (.call (.ref fa) ⟨[.ref a], []⟩) (fun r s' => r = .ok (.ret (.bool true)) ∧ OldK s₁.heap s'.heap ∧ s'.os = s₁.os ∧ AllBare s'.gens) s₁) :
    WalkO q loose XP YP l.row.toRowW d [] (fun f vs => PySem.call f vs) := by
  intro w s₀ s₁ mg mb G Y fa o pm cd doc dV kV ho hd hcd hD hmg hg args vals as hpre hlay hrd hwl hlo
  obtain rfl : dV = .none := Dflts.none hD hdf
  obtain rfl : kV = .none := Dflts.noKw hD
  obtain ⟨a, vs, ns, rfl, rfl, hobj, hints, hlen⟩ := script_of hn hpre hwl
  refine enter_call (codeAny_mono (call w s₀ s₁ mg mb fa o pm cd doc a vs ns G Y ho (fd_plain hd) hcd hmg hobj hints hlen hg) fun r s' hq => ?_)
  obtain ⟨rfl, h2, h3, h4⟩ := hq
  exact ⟨.inl ⟨.bool true, .bool true, [], rfl, fun _ => rfl, .bool true, post_true l _, fun _ => ⟨List.Pairwise.nil, fun _ hm => (nomatch hm)⟩⟩, h2, h3, h4⟩

/-! ### rules over ANY heap (no ledger) from facts about the written part K: the library's own take a ledger (News) for what they write -/
section
variable {prog : Program} {w : World} {A : Around} {E : Value → Shared → Prop} {s : Shared} {K : Frag}

/-! the whole heap as the ledger: makes every rule that writes through a ledger a rule over any heap -/
end
end Att

namespace L2
open PySem PySem.Spec PyProof.Rows

theorem vals_ints : ∀ {vs : List Value} {ns : List Int}, IntsAre vs ns → Vals (ns.map V.int) vs
  | _, _, .nil => .nil
  | _, _, .cons n t h => .cons ⟨t, rfl⟩ (vals_ints h)

/-- nothing is tracked but the script, known to the object (or it is an object of the module) -/
def Only (H : Hp) : Prop := ∀ b, H b = none ∨ ∃ o xs, H b = some (.frz o (.lst xs))

/-- THE HEAD: the law's promise, at the heap behind the top. F, the promise of the law's def, may use that base is part of the heap (so K.In base, base.Ns mainGlobals mg stand in Mod) -/
theorem law_call {P : Program} {w : World} {K : PySem.W.Frag} {mg mb : Str → Option Value} {CX : CXT} {k : Nat} {fa a : Addr} {fd : FuncData} {x : Str} {sp : Sp} {s₁ : Shared} {vs : List Value} {ns : List Int}
    (KX : K.In s₁.heap) (hns : s₁.heap.Ns mainGlobals mg) (hb : s₁.heap.Ns builtinsNs mb) (hbb : ∀ x : Str, x ≠ "__name__" → mb x = bootBuiltins x) (hlim : s₁.heap.NoLimit) (hg : s₁.gens = #[])
    (ha : s₁.heap.get? a = some { cls := .type "list", data := .seq vs.toArray }) (hi : IntsAre vs ns) (hl : ns.length ≤ sizeLine) (hr : Room k callerA)
    (F : ∀ base : Heap, K.In base → base.Ns mainGlobals mg → FnOk P w K mg base CX k fa fd [x] sp) (hbind : ∀ (s : Shared) (u : Value), BindsTo s fd ⟨[u], []⟩ [(x, u)])
    (hsp : ∀ H : Hp, Only H → SqL K H a (ns.map V.int) → sp [.ref a] H (fun v _ => v = .bl true) fun _ _ _ => False)
    (hCX : ∀ H e s', CX [] H s₁ (fun _ _ _ => False) e s' → False) :
    codeAny (model P w) callerA (.call (.ref fa) ⟨[.ref a], []⟩) (fun r s' => r = .ok (.ret (.bool true)) ∧ OldK s₁.heap s'.heap ∧ s'.os = s₁.os ∧ AllBare s'.gens) s₁ := by
  have rv := vals_ints hi
  have lenV := hi.length
  -- from an abstract heap in which nothing but the script may be tracked
  have core : ∀ H : Hp, Only H → SqL K H a (ns.map V.int) → HOk P w H s₁.heap → (∀ b, H b ≠ none → b = a) → (H a ≠ none → K.lookup a = none) →
      codeAny (model P w) callerA (.call (.ref fa) ⟨[.ref a], []⟩) (fun r s' => r = .ok (.ret (.bool true)) ∧ OldK s₁.heap s'.heap ∧ s'.os = s₁.os ∧ AllBare s'.gens) s₁ := by
    intro H hO hS hok hA hK
    have base_of : ∀ {b : Addr} {o : Obj}, s₁.heap.get? b = some o → H b = none → (hidT s₁.heap H).get? b = some o := fun e n => hidT_get e n
    have noA : ∀ {b : Addr} {o : Obj} {es : Array DictEntry} {ep : Nat}, s₁.heap.get? b = some o → o.data = .dict es ep → H b = none := fun {b o es ep} e d => by
      cases q : H b with
      | none => rfl
      | some u =>
        have e' : b = a := hA b (by rw [q]; simp)
        subst e'
        rw [ha] at e; cases e
        have d' : Data.seq vs.toArray _ = Data.dict es ep := d
        cases d'
    have nsK : ∀ {b : Addr} {m : Str → Option Value}, s₁.heap.Ns b m → (hidT s₁.heap H).Ns b m := fun {b m} ⟨o, es, ep, e, d, r⟩ => ⟨o, es, ep, base_of e (noA e d), d, r⟩
    have hKb : K.In (hidT s₁.heap H) := fun b o e => base_of (KX b o e) (by
      cases q : H b with
      | none => rfl
      | some u =>
        have e' : b = a := hA b (by rw [q]; simp)
        subst e'
        rw [hK (by rw [q]; simp)] at e; cases e)
    have hM : Mod K mg (hidT s₁.heap H) := ⟨hKb, nsK hns, ⟨mb, nsK hb, hbb⟩, let ⟨mc, h1, h2⟩ := hlim; ⟨mc, nsK h1, h2⟩⟩
    have e0 : Env0 P w K mg (hidT s₁.heap H) callerA [] s₁ H := ⟨rfl, hM, fun b o e => of_hidT e, Nat.le_of_eq (hidT_size _ _), trivial, fun b hb => absurd (show b ∈ ([] : List Addr) from hb) (by simp), hok, .of_eq hg⟩
    refine codeAny_mono ((F _ hKb (nsK hns)).run callerA [] s₁ H ⟨[.ref a], []⟩ [.ref a] [.ref a] _ _ hr e0 (hbind s₁ (.ref a)) (.cons rfl .nil) (hsp H hO hS)) fun r s' h => ?_
    cases r with
    | error e => exact (hCX H e s' h).elim
    | ok fl =>
      cases fl with
      | next => exact False.elim h
      | brk => exact False.elim h
      | cont => exact False.elim h
      | ret u =>
        obtain ⟨v, H', os, bare, un, hok', r', q⟩ := h
        have q' : v = .bl true := q
        subst q'
        obtain rfl : u = Value.bool true := r'
        refine ⟨rfl, OldK.of_keep fun b o e => ?_, os, bare⟩
        cases q : H b with
        | none => exact un.keep b o e q (by intro z; exact absurd (show b ∈ ([] : List Addr) from z) (by simp)) (by simp)
        | some u =>
          rcases hO b with z | ⟨ob, xs, z⟩
          · rw [q] at z; cases z
          · have z2 := un.frzs b ob _ z
            obtain ⟨e1, _⟩ := hok b _ z
            obtain ⟨e2, _⟩ := hok' b _ z2
            rw [e] at e1; cases e1
            exact e2
  cases hk : K.lookup a with
  | some o =>
    -- the script is one of the module's own objects
    have e := KX a o hk
    rw [ha] at e
    cases e
    refine core (fun _ => none) (fun _ => .inl rfl) (.inr ⟨_, vs.toArray, _, hk, rfl, rfl, rfl, by rw [List.size_toArray, lenV]; exact hl, by simpa using rv⟩) (fun b u z => by have z' : (none : Option HO) = some u := z; cases z') (fun b z => absurd rfl z) fun z => absurd rfl z
  | none =>
    refine core (fun b => if b = a then some (.frz { cls := .type "list", data := .seq vs.toArray } (.lst (ns.map V.int))) else none) (fun b => ?_) (.inl (.inr ⟨{ cls := .type "list", data := .seq vs.toArray }, if_pos rfl⟩)) (fun b u z => ?_) (fun b z => ?_) fun _ => hk
    · by_cases hb : b = a
      · exact .inr ⟨_, _, if_pos hb⟩
      · exact .inl (if_neg hb)
    · by_cases hb : b = a
      · have z' := (if_pos hb).symm.trans z
        cases z'
        subst hb
        exact ⟨ha, by rw [List.length_map]; exact hl, vs, _, rv, ha⟩
      · have z' := (if_neg hb).symm.trans z
        cases z'
    · by_cases hb : b = a
      · exact hb
      · exact absurd (if_neg hb) z
end L2

namespace L2
open PySem PySem.Spec PyProof.Rows

abbrev KOf {K : PySem.W.Frag} {h : Heap} (_ : K.In h) : PySem.W.Frag := K

/-- the goal that k_head leaves (case hc), from the law's promise. F gives the function object fd (K's own) once, then the promise over every base -/
theorem walk_of {l : PySem.W.OpenLaw} {n k : Nat} {q : Program} {loose : List Str} {XP : (Str → Option Value) → Heap → Prop} {YP : World → Heap → Prop} {d : DefRec} {K : Params → PySem.W.Frag} {CX : World → CXT} {sp : World → Sp} {x : Str}
    (hn : l.most = some n) (hn2 : n ≤ sizeLine) (hdf : d.params.defaults = []) (hr : Room k callerA)
    (hY : ∀ (w : World) (h : Heap), YP w h → (K w.params).In h)
    (F : ∀ (w : World) (mg : Str → Option Value) (fa : Addr) (h : Heap), (K w.params).In h → h.Ns mainGlobals mg → mg d.name = some (.ref fa) →
      ∃ fd : FuncData, (∀ (s : Shared) (u : Value), BindsTo s fd ⟨[u], []⟩ [(x, u)]) ∧
        ∀ base : Heap, (K w.params).In base → base.Ns mainGlobals mg → FnOk l.prog w (K w.params) mg base (CX w) k fa fd [x] (sp w))
    (hsp : ∀ (w : World) (H : Hp) (a : Addr) (ns : List Int), ns.length ≤ n → Only H → SqL (K w.params) H a (ns.map V.int) → sp w [.ref a] H (fun v _ => v = .bl true) fun _ _ _ => False)
    (hCX : ∀ (w : World) (H : Hp) (s : Shared) (e : Value) (s' : Shared), CX w [] H s (fun _ _ _ => False) e s' → False) :
    PySem.W.WalkO q loose XP YP l.row.toRowW d [] (fun f vs => PySem.call f vs) := by
  refine Att.attach_call hn hdf fun w s₀ s₁ mg mb fa o pm cd doc a vs ns G Y ho hd hcd hmg hobj hints hlen hg => ?_
  have KX := hY w _ Y
  obtain ⟨fd, hb, hF⟩ := F w mg fa _ KX G.T.g hmg
  exact law_call KX G.T.g G.T.b G.T.builtins G.T.nolimit hg hobj hints (Nat.le_trans hlen hn2) hr hF hb (fun H hO hS => hsp w H a ns hlen hO hS) fun H e s' => hCX w H s₁ e s'
end L2


/-! SHORT WORDS over the layer: a def of the text, its body, what a loop and a test want. -/
namespace L2
open PySem PySem.Spec PyProof.Rows

/-! ### the text by places -/
def defArgs (s : Stmt) : Arguments := match s with
  | .FunctionDef _ a _ _ _ _ _ _ _ _ => a
  | _ => { posonlyargs := [], args := [], vararg := none, kwonlyargs := [], kw_defaults := [], kwarg := none, defaults := [] }
def defBody (s : Stmt) : List Stmt := match s with
  | .FunctionDef _ _ b _ _ _ _ _ _ _ => b
  | _ => []
def defScope (s : Stmt) : Scope := match s with
  | .FunctionDef _ _ _ _ _ _ sc _ _ _ => sc
  | _ => { kind := .function, names := [], isGenerator := false, isCoroutine := false }

/-! ### no exception leaves a def -/
abbrev CX0 : CXT := fun _ _ _ _ _ _ => False
abbrev E0 : XK := fun _ _ _ => False
/-! ### a def (or method) of the text as it stands behind the top -/
structure Fun (K : PySem.W.Frag) (x qual : Str) (st : Stmt) (f : Addr) (fd : FuncData) : Prop where
  ex : ∃ (oc : Value) (od : Option Addr) (kV doc pm : Value) (an : Option Addr) (cdv ct : Value) (osl : Array (Option Value)),
    fd = PySem.W.fnOf x qual (defArgs st) (defBody st) (defScope st) .none kV doc pm an cdv ct ∧ K.lookup f = some ⟨oc, od, .func fd, osl⟩ ∧ PySem.W.codeIn K cdv qual = true
  kp : PySem.W.keepIn K (.ref f) = true
section
variable {P : Program} {w : World} {K : PySem.W.Frag} {mg : Str → Option Value} {base : Heap}
/-- THE RULE for a def: its body as a term of rules, and the reading of that term -/
theorem Fun.ok {x qual : Str} {st : Stmt} {f : Addr} {fd : FuncData} {N ps : List Str} {k : Nat} {sp : Sp} (F : Fun K x qual st f fd) (S : FnScope N ps (defScope st)) (len : ∀ vs H Q E, sp vs H Q E → vs.length = ps.length)
    (hbody : ∀ (cdv : Value) (A : Around) (outer : List Env) (s : Shared) (H : Hp) (vs : List V) (Q : VK) (E : XK), Room k (A.deeper (envOfC qual (defScope st) s.heap.objs.size f cdv)) → sp vs H Q E →
      ∃ t, PSs (cxOf CX0 P w K mg base N qual (defScope st) f cdv A outer s H E).nox (defBody st) t ∧ t { nx := fun _ H' => Q .non H', rt := Q } (start N vs) H) : FnOk P w K mg base CX0 (k + 1) f fd ps sp := by
  obtain ⟨oc, od, kV, doc, pm, an, cdv, ct, osl, rfl, lk, hcd⟩ := F.ex
  refine fn_of lk hcd S len fun A outer s H vs Q E hr hsp => ?_
  obtain ⟨t, h, q⟩ := hbody cdv A outer s H vs Q E hr hsp
  exact ⟨t, h.nox, q⟩
/-- how its arguments bind (no defaults): h is «fun _ _ _ _ _ _ us hl => match us, hl with | [_, _], _ => rfl», one _ a parameter -/
theorem Fun.binds {x qual : Str} {st : Stmt} {f : Addr} {fd : FuncData} {ps : List Str} (F : Fun K x qual st f fd)
    (h : ∀ (kV doc pm : Value) (an : Option Addr) (cdv ct : Value) (us : List Value), us.length = ps.length → bindArgs (PySem.W.fnOf x qual (defArgs st) (defBody st) (defScope st) .none kV doc pm an cdv ct) ⟨us, []⟩ = pure (ps.zip us)) : Binds K fd ps [] := by
  obtain ⟨oc, od, kV, doc, pm, an, cdv, ct, osl, rfl, lk, hcd⟩ := F.ex
  exact .all (h kV doc pm an cdv ct)
theorem fun_mk {x qual : Str} {st : Stmt} {f : Addr} {oc : Value} {od an : Option Addr} {osl : Array (Option Value)} {kV doc pm cdv ct : Value} (l : K.lookup f = some ⟨oc, od, .func (PySem.W.fnOf x qual (defArgs st) (defBody st) (defScope st) .none kV doc pm an cdv ct), osl⟩)
    (c : PySem.W.codeIn K cdv qual = true) (k : PySem.W.keepIn K (.ref f) = true) : Fun K x qual st f (PySem.W.fnOf x qual (defArgs st) (defBody st) (defScope st) .none kV doc pm an cdv ct) := ⟨⟨oc, od, kV, doc, pm, an, cdv, ct, osl, rfl, l, c⟩, k⟩
end
/-! ### expressions in short: the name that stands in the i-th slot -/
section
variable {X : Cx}
theorem pv (i : Nat) {x : Str} {pos : Pos} (hN : X.N[i]? = some x := by rfl) (hv : Vis X.env.scope x := by first | exact Or.inl rfl | exact Or.inr (Or.inl rfl) | exact Or.inr (Or.inr rfl)) (hd : (x == ("__debug__" : Str)) = false := by decide)
    (hcd : (x == ("__classdict__" : Str)) = false := by decide) : PE X (.Name x pos) (tVar i) := pe_var hN hv hd hcd
end

/-! ### tests -/
theorem iteF {A B : Prop} (h : B) : if false = true then A else B := by
  rw [if_neg Bool.false_ne_true]
  exact h
theorem iteT {A B : Prop} (h : A) : if true = true then A else B := by
  rw [if_pos rfl]
  exact h
theorem ite2 {c A B : Prop} [Decidable c] (h1 : c → A) (h2 : ¬ c → B) : if c then A else B := by
  by_cases h : c
  · rw [if_pos h]
    exact h1 h
  · rw [if_neg h]
    exact h2 h
/-! ### heaps -/
/-- all that was tracked is as it was -/
def Same (H H' : Hp) : Prop := ∀ b o, H b = some o → H' b = some o
theorem Same.refl (H : Hp) : Same H H := fun _ _ h => h
theorem Same.trans {H H1 H2 : Hp} (a : Same H H1) (b : Same H1 H2) : Same H H2 := fun c o h => b c o (a c o h)
theorem Same.free {H H' : Hp} (e : Same H H') {l : Addr} (h : H' l = Option.none) : H l = Option.none := by
  cases q : H l with
  | none => rfl
  | some o =>
    rw [e l o q] at h
    cases h
theorem Same.seq {K : PySem.W.Frag} {H H' : Hp} {a : Addr} {xs : List V} (e : Same H H') (h : SqL K H a xs) : SqL K H' a xs := by
  rcases h with (h | ⟨o, h⟩) | h
  · exact .inl (.inl (e _ _ h))
  · exact .inl (.inr ⟨o, e _ _ h⟩)
  · exact .inr h

end L2
namespace L2
open PySem PySem.Spec PyProof.Rows

/-! ### a comprehension's block -/
/-- the closure of a block: the cells of the names that are free in it -/
def clFrom (env : Env) : List (Str × NameKind) → List (Str × Addr) → List (Str × Addr)
  | [], acc => acc
  | (n, k) :: r, acc => if k == .free then clFrom env r ((n, (env.cells.lookup n).getD 0) :: acc) else clFrom env r acc
theorem closure_eq {env : Env} : ∀ (names : List (Str × NameKind)) (acc : List (Str × Addr)) (f : Str × NameKind → List (Str × Addr) → Sem (ForInStep (List (Str × Addr)))),
    (∀ n k cs, f (n, k) cs = if k == .free then (do let c ← cellOf env n; pure (.yield ((n, c) :: cs))) else pure (.yield cs)) →
    (∀ x ∈ names, x.2 = .free → ∃ c, env.cells.lookup x.1 = some c) → (forIn names acc f : Sem _) = pure (clFrom env names acc)
  | [], acc, f, _, _ => rfl
  | (n, k) :: r, acc, f, hf, h => by
    rw [List.forIn_cons, hf]
    unfold clFrom
    by_cases hk : (k == .free) = true
    · rw [if_pos hk, if_pos hk]
      obtain ⟨c, e⟩ := h (n, k) List.mem_cons_self (beq_iff_eq.mp hk)
      have e' : env.cells.lookup n = some c := e
      unfold cellOf
      rw [e']
      show (forIn r ((n, c) :: acc) f : Sem _) = _
      exact closure_eq r _ f hf fun x hx => h x (List.mem_cons_of_mem _ hx)
    · rw [if_neg hk, if_neg hk]
      show (forIn r acc f : Sem _) = _
      exact closure_eq r _ f hf fun x hx => h x (List.mem_cons_of_mem _ hx)
theorem closure_of {env : Env} {scope : Scope} (h : ∀ x ∈ scope.names, x.2 = .free → ∃ c, env.cells.lookup x.1 = some c) : closureFor scope env = pure (clFrom env scope.names []) := by
  unfold closureFor
  have e := closure_eq scope.names [] (fun x cs => if x.2 == .free then (do let c ← cellOf env x.1; pure (.yield ((x.1, c) :: cs))) else pure (.yield cs)) (fun _ _ _ => rfl) h
  show (forIn scope.names [] _ >>= fun cs => pure cs) = _
  exact (bind_pure_comp_id e)
where
  bind_pure_comp_id {α : Type} {a : α} {t : Sem α} (e : t = pure a) : (t >>= fun x => pure x) = pure a := by rw [e]; rfl
theorem clFrom_look {env : Env} {x : Str} {c : Addr} : ∀ (names : List (Str × NameKind)) (acc : List (Str × Addr)), (∀ y ∈ names, y.2 = .free → ∃ c, env.cells.lookup y.1 = some c) →
    (∀ c, acc.lookup x = some c → env.cells.lookup x = some c) → (clFrom env names acc).lookup x = some c → env.cells.lookup x = some c
  | [], acc, _, ha, h => ha c h
  | (n, k) :: r, acc, hn, ha, h => by
    unfold clFrom at h
    have hr : ∀ y ∈ r, y.2 = .free → ∃ c, env.cells.lookup y.1 = some c := fun y hy => hn y (List.mem_cons_of_mem _ hy)
    by_cases hk : (k == .free) = true
    · rw [if_pos hk] at h
      obtain ⟨c', e⟩ := hn (n, k) List.mem_cons_self (beq_iff_eq.mp hk)
      have e' : env.cells.lookup n = some c' := e
      rw [e'] at h
      refine clFrom_look r _ hr (fun c2 q => ?_) h
      rw [List.lookup_cons] at q
      cases hb : x == n with
      | true => rw [hb] at q; cases q; rw [beq_iff_eq.mp hb]; exact e'
      | false => rw [hb] at q; exact ha c2 q
    · rw [if_neg hk] at h
      exact clFrom_look r _ hr ha h
theorem clFrom_has {env : Env} {x : Str} : ∀ (names : List (Str × NameKind)) (acc : List (Str × Addr)), ((x, NameKind.free) ∈ names ∨ ∃ c, acc.lookup x = some c) → ∃ c, (clFrom env names acc).lookup x = some c
  | [], acc, h => h.elim (fun z => by cases z) id
  | (n, k) :: r, acc, h => by
    unfold clFrom
    by_cases hk : (k == .free) = true
    · rw [if_pos hk]
      refine clFrom_has r _ ?_
      cases hb : x == n with
      | true => exact .inr ⟨_, by rw [List.lookup_cons, hb]⟩
      | false =>
        rcases h with h | ⟨c, h⟩
        · rcases List.mem_cons.mp h with e | e
          · injection e with e1 _
            rw [e1] at hb; simp at hb
          · exact .inl e
        · exact .inr ⟨c, by rw [List.lookup_cons, hb]; exact h⟩
    · rw [if_neg hk]
      refine clFrom_has r _ ?_
      rcases h with h | h
      · rcases List.mem_cons.mp h with e | e
        · injection e with _ e2
          rw [← e2] at hk; exact absurd rfl hk
        · exact .inl e
      · exact .inr h
/-! the cells of a block: its own, then the closure's -/
theorem cells_look {x : Str} {c : Addr} : ∀ (names : List (Str × NameKind)) (n : Nat) (acc : List (Str × Addr)), (cellsFrom n names acc).lookup x = some c → acc.lookup x = some c ∨ (n ≤ c ∧ (x, NameKind.cell) ∈ names)
  | [], _, _, h => .inl h
  | (y, k) :: r, n, acc, h => by
    unfold cellsFrom at h
    by_cases hk : (k == .cell) = true
    · rw [if_pos hk] at h
      rcases cells_look r _ _ h with q | ⟨q1, q2⟩
      · rw [List.lookup_cons] at q
        cases hb : x == y with
        | true => rw [hb] at q; cases q; exact .inr ⟨Nat.le_refl _, by rw [beq_iff_eq.mp hb, beq_iff_eq.mp hk]; exact List.mem_cons_self⟩
        | false => rw [hb] at q; exact .inl q
      · exact .inr ⟨by omega, List.mem_cons_of_mem _ q2⟩
    · rw [if_neg hk] at h
      rcases cells_look r _ _ h with q | ⟨q1, q2⟩
      · exact .inl q
      · exact .inr ⟨q1, List.mem_cons_of_mem _ q2⟩
theorem cells_own {x : Str} {lo : Nat} : ∀ (names : List (Str × NameKind)) (n : Nat) (acc : List (Str × Addr)), lo ≤ n → ((x, NameKind.cell) ∈ names ∨ ∃ c, acc.lookup x = some c ∧ lo ≤ c) → ∃ c, (cellsFrom n names acc).lookup x = some c ∧ lo ≤ c
  | [], _, _, _, h => h.elim (fun z => by cases z) id
  | (y, k) :: r, n, acc, hn, h => by
    unfold cellsFrom
    by_cases hk : (k == .cell) = true
    · rw [if_pos hk]
      refine cells_own r _ _ (by omega) ?_
      cases hb : x == y with
      | true => exact .inr ⟨n, by rw [List.lookup_cons, hb], hn⟩
      | false =>
        rcases h with h | ⟨c, h, hc⟩
        · rcases List.mem_cons.mp h with e | e
          · injection e with e1 _
            rw [e1] at hb; simp at hb
          · exact .inl e
        · exact .inr ⟨c, by rw [List.lookup_cons, hb]; exact h, hc⟩
    · rw [if_neg hk]
      refine cells_own r _ _ hn ?_
      rcases h with h | h
      · rcases List.mem_cons.mp h with e | e
        · injection e with _ e2
          rw [← e2] at hk; exact absurd rfl hk
        · exact .inl e
      · exact .inr h
theorem cells_keep {x : Str} : ∀ (names : List (Str × NameKind)) (n : Nat) (acc : List (Str × Addr)), (x, NameKind.cell) ∉ names → (cellsFrom n names acc).lookup x = acc.lookup x
  | [], _, _, _ => rfl
  | (y, k) :: r, n, acc, h => by
    unfold cellsFrom
    have hr : (x, NameKind.cell) ∉ r := fun z => h (List.mem_cons_of_mem _ z)
    by_cases hk : (k == .cell) = true
    · rw [if_pos hk, cells_keep r _ _ hr, List.lookup_cons]
      cases hb : x == y with
      | true => exact absurd (by rw [beq_iff_eq.mp hb, beq_iff_eq.mp hk]; exact List.mem_cons_self) h
      | false => rfl
    · rw [if_neg hk]; exact cells_keep r _ _ hr
theorem cells_inj : ∀ (names : List (Str × NameKind)) (n : Nat) (acc : List (Str × Addr)), (∀ x c, acc.lookup x = some c → c < n) → (∀ x y c, acc.lookup x = some c → acc.lookup y = some c → x = y) →
    ∀ x y c, (cellsFrom n names acc).lookup x = some c → (cellsFrom n names acc).lookup y = some c → x = y
  | [], _, _, _, h => h
  | (z, k) :: r, n, acc, hlt, h => by
    unfold cellsFrom
    by_cases hk : (k == .cell) = true
    · rw [if_pos hk]
      refine cells_inj r (n + 1) _ (fun x c e => ?_) fun x y c e1 e2 => ?_
      · rw [List.lookup_cons] at e
        cases hb : x == z with
        | true => rw [hb] at e; cases e; exact Nat.lt_succ_self _
        | false => rw [hb] at e; exact Nat.lt_succ_of_lt (hlt x c e)
      · rw [List.lookup_cons] at e1 e2
        cases hb : x == z with
        | true =>
          rw [hb] at e1; cases e1
          cases hb2 : y == z with
          | true => rw [beq_iff_eq.mp hb, beq_iff_eq.mp hb2]
          | false => rw [hb2] at e2; exact absurd (hlt y _ e2) (Nat.lt_irrefl _)
        | false =>
          rw [hb] at e1
          cases hb2 : y == z with
          | true => rw [hb2] at e2; cases e2; exact absurd (hlt x _ e1) (Nat.lt_irrefl _)
          | false => rw [hb2] at e2; exact h x y c e1 e2
    · rw [if_neg hk]; exact cells_inj r n _ hlt h
theorem push_cells_is {x : Str} {c : Addr} : ∀ (names : List (Str × NameKind)) (h : Heap) (acc : List (Str × Addr)), (∀ y c, acc.lookup y = some c → ∃ v, h.IsCell c v) →
    (cellsFrom h.objs.size names acc).lookup x = some c → ∃ v, (pushCells h names).IsCell c v
  | [], h, acc, ha, e => ha x c e
  | (y, k) :: r, h, acc, ha, e => by
    unfold cellsFrom at e
    unfold pushCells
    by_cases hk : (k == .cell) = true
    · rw [if_pos hk] at e ⊢
      rw [show h.objs.size + 1 = (h.push { cls := .type "cell", data := .cell none }).objs.size from (Heap.size_push ..).symm] at e
      refine push_cells_is r _ _ (fun z c' q => ?_) e
      rw [List.lookup_cons] at q
      cases hb : z == y with
      | true => rw [hb] at q; cases q; exact ⟨none, _, Heap.get?_push_size _ rfl, rfl⟩
      | false =>
        rw [hb] at q
        obtain ⟨v, w⟩ := ha z c' q
        exact ⟨v, w.keeps fun b o e => Heap.get?_push_of_some _ e⟩
    · rw [if_neg hk] at e ⊢
      exact push_cells_is r _ _ ha e

section
variable {M : Model} {A : Around} {E : Value → Shared → Prop} {s : Shared}
/-- the environment of a comprehension's block -/
theorem newEnv_comp {scope : Scope} {globals : Addr} {cl : List (Str × Addr)} {qual : Str} {env : Env} {Q : Env → Shared → Prop}
    (h : Q { scope, locals := s.heap.objs.size, globals, cells := cellsFrom (s.heap.objs.size + 1) scope.names cl, qual, func := none, code := env.code, frame := env.frame, builtins := env.builtins }
      { s with heap := pushCells (s.heap.push { cls := .type "dict", data := .dict #[] }) scope.names }) :
    wpAny M A (newFunctionEnv scope globals cl [] qual none .none (some env)) Q E s := by
  simp only [newFunctionEnv, Option.isSome_some, if_true]
  refine wpAny_bind (wpAny_alloc ?_)
  refine wpAny_bind (wpAny_layCells _ (fun name kind cells => by cases hkc : kind == NameKind.cell <;> simp [hkc]) _ _ _ _ ?_)
  rw [show ({ s with heap := s.heap.push { cls := .type "dict", data := .dict #[] } } : Shared).heap.objs.size = s.heap.objs.size + 1 from Heap.size_push ..]
  refine wpAny_bind ?_
  rw [List.forIn_nil]
  exact wpAny_pure (wpAny_pure h)
end
section
variable {prog : Program} {w : World} {A : Around} {R : Result → Shared → Prop} {s : Shared}
/-- the loop of a list comprehension of one clause, whatever its target -/
theorem compLoop_any {elt target iter : Expr} {ifs : List Expr} {scope : Scope} {pos : Pos} {it acc : Value} {env : Env} (I : Nat → Shared → Prop)
    (turn : ∀ n s, I n s → wpAny (model prog w) A (pyNext it) (fun r s₁ => match r with
      | none => R (.ok .next) s₁
      | some v => wpAny (model prog w) A (letOwnedTupleGo target it v) (fun _ s₁' => wpAny (model prog w) A (assign target env v) (fun _ s₂ =>
          wpAny (model prog w) A (forIn ifs true fun c r => if r = true then do let ok ← isTrue c env (eval c env); pure (ForInStep.yield ok) else pure (ForInStep.yield r)) (fun ok s₃ =>
            if ok = true then wpAny (model prog w) A (eval elt env) (fun x s₄ =>
              wpAny (model prog w) A (call (.builtin "list.append") [acc, x]) (fun _ s₅ => ∃ m, m < n ∧ I m s₅) (fun _ _ => False) s₄) (fun _ _ => False) s₃
            else ∃ m, m < n ∧ I m s₃) (fun _ _ => False) s₂) (fun _ _ => False) s₁') (fun _ _ => False) s₁) (fun _ _ => False) s)
    (n : Nat) (h : I n s) :
    codeAny (model prog w) A (.compLoop (.ListComp elt [⟨target, iter, ifs, 0⟩] scope pos) 0 it acc env) R s := by
  refine codeAny_loop rfl I (fun n s hI => ?_) n h
  show wpAny _ A ((compTurn (.ListComp elt [⟨target, iter, ifs, 0⟩] scope pos) 0 it acc env).onRaise (fun x => do noteFrame x env; theTreesLotGoes x)) _ _ s
  refine wpAny_noted ?_
  rw [compTurn_list]
  refine wpAny_bind (wpAny_standAt (wpAny_bind (wpAny_mono (turn n s hI) (fun r s₁ h₁ => ?_) fun _ _ h' => h'.elim)))
  cases r with
  | none => exact wpAny_pure h₁
  | some v =>
    refine wpAny_bind (wpAny_mono h₁ (fun _ s₁' h₁' => ?_) fun _ _ h' => h'.elim)
    refine wpAny_bind (wpAny_mono h₁' (fun _ s₂ h₂ => wpAny_bind (wpAny_mono h₂ (fun ok s₃ h₃ => ?_) fun _ _ h' => h'.elim)) fun _ _ h' => h'.elim)
    cases ok with
    | false => exact wpAny_pure ⟨rfl, h₃⟩
    | true =>
      exact wpAny_bind (wpAny_bind (wpAny_mono h₃ (fun x s₄ h₄ => wpAny_bind (wpAny_mono h₄ (fun _ s₅ h₅ => wpAny_pure (wpAny_pure ⟨rfl, h₅⟩)) fun _ _ h' => h'.elim)) fun _ _ h' => h'.elim))
end
end L2
namespace L2
open PySem PySem.Spec PyProof.Rows

/-- the context of a comprehension's block; no exception leaves it -/
def cxC (X : Cx) (Nc : List Str) (scope : Scope) (C : Addr) (fp : List Addr) (s : Shared) (H : Hp) : Cx where
  prog := X.prog
  w := X.w
  K := X.K
  mg := X.mg
  base := X.base
  A := X.A
  N := Nc
  s₀ := s
  H₀ := H
  env := compEnvC scope (cellsFrom (C + 1) scope.names (clFrom X.env scope.names [])) C X.env
  outer := X.stack
  stack := X.stack
  ex := fp
  fn := fun x => scope.names.contains (x, NameKind.cell)
  calm := X.calm
  pn := []
  xe := fun _ _ => False

/-- the names of a block: ix tells of each the outer slot that it is read from, or none (its own) -/
structure CompScope (X : Cx) (Nc : List Str) (ix : List (Option Nat)) (scope : Scope) : Prop where
  kind : scope.kind = .function
  nd : Nc.Nodup
  len : ix.length = Nc.length
  loc : ∀ x ∈ scope.names, x.2 = .local → scope.names.lookup x.1 = some .local
  free : ∀ x ∈ scope.names, x.2 = .free → X.env.kindOf x.1 = some .cell ∨ X.env.kindOf x.1 = some .free
  once : ∀ x, (x, NameKind.free) ∈ scope.names → (x, NameKind.cell) ∉ scope.names
  out : ∀ (i j : Nat) (x : Str), ix[i]? = some (some j) → Nc[i]? = some x → X.N[j]? = some x ∧ scope.names.lookup x = some .free

/-- the names' values at the block's entry -/
def startC (ix : List (Option Nat)) (σ : St) : St := ix.map fun o => o.bind fun j => (σ[j]?).bind id

theorem relabel_look {env : Env} {x : Str} : ∀ {names : List (Str × NameKind)} {k : NameKind}, names.lookup x = some k →
    (names.map fun (n, k) => if (k == NameKind.free && env.scope.kind == .function && env.kindOf n == some .cell) then (n, NameKind.cell) else (n, k)).lookup x =
      some (if (k == NameKind.free && env.scope.kind == .function && env.kindOf x == some .cell) then NameKind.cell else k)
  | [], _, h => by simp at h
  | (n, k') :: r, k, h => by
    show List.lookup x ((if (k' == NameKind.free && env.scope.kind == .function && env.kindOf n == some .cell) = true then (n, NameKind.cell) else (n, k')) :: _) = _
    cases hx : x == n with
    | true =>
      simp only [List.lookup_cons, hx] at h
      cases h
      have e := beq_iff_eq.mp hx
      subst e
      split <;> simp [List.lookup_cons]
    | false =>
      simp only [List.lookup_cons, hx] at h
      have ih := relabel_look (env := env) (names := r) h
      split <;> (simp only [List.lookup_cons, hx]; exact ih)
theorem relabel_none {env : Env} {x : Str} : ∀ {names : List (Str × NameKind)}, names.lookup x = none →
    (names.map fun (n, k) => if (k == NameKind.free && env.scope.kind == .function && env.kindOf n == some .cell) then (n, NameKind.cell) else (n, k)).lookup x = none
  | [], _ => rfl
  | (n, k') :: r, h => by
    show List.lookup x ((if (k' == NameKind.free && env.scope.kind == .function && env.kindOf n == some .cell) = true then (n, NameKind.cell) else (n, k')) :: _) = _
    cases hx : x == n with
    | true => simp only [List.lookup_cons, hx] at h; cases h
    | false =>
      simp only [List.lookup_cons, hx] at h
      have ih := relabel_none (env := env) (names := r) h
      split <;> (simp only [List.lookup_cons, hx]; exact ih)

section
variable {X : Cx} {pins : List (Addr × Obj)} {σ : St} {H : Hp} {s : Shared} {Nc : List Str} {ix : List (Option Nat)} {scope : Scope} {fp : List Addr}

theorem CompScope.cells (S : CompScope X Nc ix scope) (I : Inv X pins σ H s) : ∀ x ∈ scope.names, x.2 = .free → ∃ c, X.env.cells.lookup x.1 = some c := fun x hx hf => I.ok.has x.1 (S.free x hx hf)

/-- where a cell of the block comes from -/
theorem cell_from (S : CompScope X Nc ix scope) (I : Inv X pins σ H s) {C : Addr} {x : Str} {c : Addr} (e : (cellsFrom (C + 1) scope.names (clFrom X.env scope.names [])).lookup x = some c) :
    X.env.cells.lookup x = some c ∨ (C + 1 ≤ c ∧ (x, NameKind.cell) ∈ scope.names) := by
  rcases cells_look _ _ _ e with q | q
  · exact .inl (clFrom_look _ _ (S.cells I) (fun _ z => by simp at z) q)
  · exact .inr q

theorem inv_comp (S : CompScope X Nc ix scope) (I : Inv X pins σ H s) (hfp : ∀ b ∈ fp, FpOk X pins H b) (ho : ∀ b ∈ fp, ∃ o, s.heap.get? b = some o) {t' : Nat} :
    Inv (cxC X Nc scope (s.heap.objs.size + 1) fp s H) [] (startC ix σ) (upd H s.heap.objs.size (.lst []))
      { s with heap := pushCells ((s.heap.push { cls := .type "list", dict := none, data := .seq ([] : List Value).toArray }).push { cls := .type "dict", data := .dict #[] }) scope.names, toks := t' } := by
  have keep : ∀ b o, s.heap.get? b = some o → (pushCells ((s.heap.push { cls := .type "list", dict := none, data := .seq ([] : List Value).toArray }).push { cls := .type "dict", data := .dict #[] }) scope.names).get? b = some o :=
    fun b o e => pushCells_keeps _ _ b o (Heap.get?_push_of_some _ (Heap.get?_push_of_some _ e))
  have hD : (pushCells ((s.heap.push { cls := .type "list", dict := none, data := .seq ([] : List Value).toArray }).push { cls := .type "dict", data := .dict #[] }) scope.names).get? s.heap.objs.size =
      some { cls := .type "list", dict := none, data := .seq ([] : List Value).toArray } := pushCells_keeps _ _ _ _ (Heap.get?_push_of_some _ (Heap.get?_push_size _ rfl))
  have hsz : (s.heap.push { cls := .type "list", dict := none, data := .seq ([] : List Value).toArray }).objs.size = s.heap.objs.size + 1 := Heap.size_push ..
  have fresh : ∀ a : Addr, s.heap.objs.size ≤ a → H a = none := fun a h => I.hok.fresh h
  have hcc : ∀ x c, X.env.cells.lookup x = some c → c < s.heap.objs.size := fun x c e => let ⟨_, q⟩ := I.cell x c e; q.lt
  have clt : ∀ x c, (clFrom X.env scope.names []).lookup x = some c → c < s.heap.objs.size + 1 + 1 := fun x c e =>
    Nat.lt_succ_of_lt (Nat.lt_succ_of_lt (hcc x c (clFrom_look _ _ (S.cells I) (fun _ z => by simp at z) e)))
  have cinj : ∀ x y c, (clFrom X.env scope.names []).lookup x = some c → (clFrom X.env scope.names []).lookup y = some c → x = y := fun x y c e1 e2 =>
    I.ok.inj x y c (clFrom_look _ _ (S.cells I) (fun _ z => by simp at z) e1) (clFrom_look _ _ (S.cells I) (fun _ z => by simp at z) e2)
  refine ⟨⟨I.ok.mod, S.kind, I.ok.glob, I.ok.blt, Nat.le_succ _, cells_inj _ _ _ clt cinj, fun x hx => ?has, fun x c hf e => ?cab, I.ok.hd, I.ok.frames, .inl rfl, fun b hb => ?exf, I.bs, Nat.le_trans I.ok.bsz I.sz, fun b o e hb => ?noex, fun b hb hs => ?exfs, I.stack, I.stkFree⟩,
    rfl, I.bare, Un.laid keep (Nat.le_refl _) (fresh _ (Nat.le_refl _)), ⟨fun _ => none, ?ns, fun i x v e1 e2 e3 => ?loc⟩, fun x c e => ?cell, ?free, fun x c e => ?freeC, fun p hp => absurd (show p ∈ ([] : List (Addr × Obj)) from hp) (by simp), I.hok.laid keep (Nat.le_refl _) ?obj, ?len⟩
  case has =>
    have hx : (relabel scope X.env).names.lookup x = some .cell ∨ (relabel scope X.env).names.lookup x = some .free := hx
    show ∃ c, (cellsFrom (s.heap.objs.size + 1 + 1) scope.names (clFrom X.env scope.names [])).lookup x = some c
    cases hk : scope.names.lookup x with
    | none =>
      rw [show (relabel scope X.env).names.lookup x = none from relabel_none hk] at hx
      rcases hx with z | z <;> cases z
    | some k =>
      have hm := PySem.mem_of_lookup hk
      rw [show (relabel scope X.env).names.lookup x = _ from relabel_look hk] at hx
      cases k with
      | cell => obtain ⟨c, e, _⟩ := cells_own (x := x) (lo := 0) scope.names (s.heap.objs.size + 1 + 1) (clFrom X.env scope.names []) (Nat.zero_le _) (.inl hm); exact ⟨c, e⟩
      | free =>
        obtain ⟨c, e⟩ := clFrom_has (env := X.env) (x := x) scope.names [] (.inl hm)
        exact ⟨c, by rw [cells_keep _ _ _ (S.once x hm)]; exact e⟩
      | _ => rcases hx with z | z <;> simp at z
  case cab =>
    have hm : (x, NameKind.cell) ∈ scope.names := List.contains_iff_mem.mp hf
    obtain ⟨c', e', hc⟩ := cells_own (x := x) (lo := s.heap.objs.size + 1 + 1) scope.names (s.heap.objs.size + 1 + 1) (clFrom X.env scope.names []) (Nat.le_refl _) (.inl hm)
    have e2 : (cellsFrom (s.heap.objs.size + 1 + 1) scope.names (clFrom X.env scope.names [])).lookup x = some c := e
    rw [e'] at e2; cases e2
    exact Nat.le_trans (Nat.le_trans (Nat.le_succ _) (Nat.le_succ _)) hc
  case exf =>
    obtain ⟨o, eo⟩ := ho b hb
    have hlt := Heap.lt_size eo
    refine ⟨Nat.ne_of_lt (Nat.lt_succ_of_lt hlt), fun x c e => ?_⟩
    rcases cell_from S I e with q | ⟨q, _⟩
    · exact (hfp b hb).2.2.2.2.1 x c q
    · exact Nat.ne_of_gt (Nat.lt_of_lt_of_le (Nat.lt_succ_of_lt (Nat.lt_succ_of_lt hlt)) q)
  case noex =>
    obtain ⟨_, _, _, q, _⟩ := hfp b hb
    rcases q with q | q
    · exact I.ok.noex b o e q
    · exact absurd (Nat.lt_of_lt_of_le (Nat.lt_of_lt_of_le (Heap.lt_size e) I.ok.bsz) q) (Nat.lt_irrefl _)
  case exfs =>
    obtain ⟨_, q1, q2, _⟩ := hfp b hb
    rcases List.mem_cons.mp (I.stkSub b hs) with z | z
    · exact q1 z
    · exact q2 z
  case ns =>
    refine Heap.Ns.keeps (h := (s.heap.push { cls := .type "list", dict := none, data := .seq ([] : List Value).toArray }).push { cls := .type "dict", data := .dict #[] }) ?_ (pushCells_keeps _ _)
    have q := Heap.Ns.new (s.heap.push { cls := .type "list", dict := none, data := .seq ([] : List Value).toArray }) (.type "dict")
    rw [hsz] at q
    exact q
  case loc =>
    have e2' : (ix.map fun o => o.bind fun j => (σ[j]?).bind id)[i]? = some (some v) := e2
    rw [List.getElem?_map] at e2'
    cases ei : ix[i]? with
    | none => rw [ei] at e2'; cases e2'
    | some o =>
      rw [ei] at e2'
      cases o with
      | none => simp at e2'
      | some j =>
        obtain ⟨hN, hfr⟩ := S.out i j x ei e1
        have ej : σ[j]? = some (some v) := by
          cases q : σ[j]? with
          | none => simp [q] at e2'
          | some y => simp [q] at e2'; rw [e2']
        have hm := PySem.mem_of_lookup hfr
        have hvis : Vis X.env.scope x := by
          rcases S.free (x, .free) hm rfl with z | z
          · exact .inr (.inl z)
          · exact .inr (.inr z)
        obtain ⟨m0, hn0, hl0⟩ := I.loc
        obtain ⟨u, r, l⟩ := hl0 j x v hN ej hvis
        refine ⟨u, r, ?_⟩
        have hk : X.env.kindOf x = some .cell ∨ X.env.kindOf x = some .free := S.free (x, .free) hm rfl
        rcases l with ⟨z, _⟩ | ⟨_, c, ec, hcell⟩
        · rcases hk with y | y <;> (rw [z] at y; cases y)
        · refine .inr ⟨?_, c, ?_, hcell.keeps keep⟩
          · show (relabel scope X.env).names.lookup x = _ ∨ (relabel scope X.env).names.lookup x = _
            rw [show (relabel scope X.env).names.lookup x = _ from relabel_look hfr]
            split
            · exact .inl rfl
            · exact .inr rfl
          · show (cellsFrom (s.heap.objs.size + 1 + 1) scope.names (clFrom X.env scope.names [])).lookup x = some c
            rw [cells_keep _ _ _ (S.once x hm)]
            obtain ⟨c', e'⟩ := clFrom_has (env := X.env) (x := x) scope.names [] (.inl hm)
            have q := clFrom_look _ _ (S.cells I) (fun _ z => by simp at z) e'
            rw [ec] at q; cases q
            exact e'
  case cell =>
    have q := push_cells_is (x := x) (c := c) scope.names ((s.heap.push { cls := .type "list", dict := none, data := .seq ([] : List Value).toArray }).push { cls := .type "dict", data := .dict #[] }) (clFrom X.env scope.names [])
      (fun y c' e' => by
        obtain ⟨v, z⟩ := I.cell y c' (clFrom_look _ _ (S.cells I) (fun _ z => by simp at z) e')
        exact ⟨v, z.keeps fun b o e => Heap.get?_push_of_some _ (Heap.get?_push_of_some _ e)⟩)
    rw [Heap.size_push, hsz] at q
    exact q e
  case free =>
    show upd H s.heap.objs.size (.lst []) (s.heap.objs.size + 1) = none
    rw [upd_ne (Nat.succ_ne_self _)]
    exact fresh _ (Nat.le_succ _)
  case freeC =>
    rcases cell_from S I e with q | ⟨q, _⟩
    · rw [upd_ne (Nat.ne_of_lt (hcc x c q))]
      exact I.freeC x c q
    · have h1 : s.heap.objs.size < c := Nat.lt_of_lt_of_le (Nat.lt_succ_of_lt (Nat.lt_succ_self _)) q
      rw [upd_ne (Nat.ne_of_gt h1)]
      exact fresh c (Nat.le_of_lt h1)
  case obj => exact ⟨Nat.zero_le _, [], 0, .nil, hD⟩
  case len =>
    show (startC ix σ).length = Nc.length
    unfold startC
    rw [List.length_map, S.len]
end

/-- the tests of a clause -/
def PTs (X : Cx) (ifs : List Expr) (t : TT) : Prop :=
  ∀ (pins : List (Addr × Obj)) (s : Shared) (σ : St) (H : Hp) (Q : Bool → Hp → Prop), Inv X pins σ H s → t σ H Q →
    wpAny (model X.prog X.w) X.A (forIn ifs true fun c r => if r = true then do let ok ← isTrue c X.env (eval c X.env); pure (ForInStep.yield ok) else pure (ForInStep.yield r)) (TP X pins σ Q) X.xe s
def tYes : TT := fun _ H Q => Q true H
theorem pts_nil {X : Cx} : PTs X [] tYes := fun _ _ _ H _ I h => wpAny_tests_nil ⟨H, I, h⟩
theorem pts_one {X : Cx} {c : Expr} {t : TT} (h : PT X c t) : PTs X [c] t := fun pins s σ H Q I hw => wpAny_tests_one (h pins s σ H Q I hw)

/-- a comprehension's turns, its list at D. W: the invariant, by the turn and a measure, over the block's names -/
def lcRun (J : It) (g : TG) (tt : TT) (te : TE) (D : Addr) (σ : St) (H : Hp) (Q : VK) : Prop := ∃ W : Nat → Nat → St → Hp → Prop, (∃ m, W 0 m σ H) ∧ ∀ i m σ' H', W i m σ' H' →
  (J.stop i H' ∧ Q (.ref D) H') ∨ (J.go i H' ∧ ∀ x H2, J.yld i H' x H2 → g x σ' H2 fun σ3 H3 => tt σ3 H3 fun b H4 =>
    if b = true then te σ3 H4 fun v H5 => ∃ xs, H5 D = some (.lst xs) ∧ xs.length < sizeLine ∧ ∃ m', m' < m ∧ W (i + 1) m' σ3 (upd H5 D (.lst (xs ++ [v])))
    else ∃ m', m' < m ∧ W (i + 1) m' σ3 H4)
/-- a list comprehension of one clause -/
def tLC (wi : TI) (ix : List (Option Nat)) (g : TG) (tt : TT) (te : TE) : TE := fun σ H Q => wi σ H fun J H1 => ∀ D, H1 D = none → lcRun J g tt te D (startC ix σ) (upd H1 D (.lst [])) Q

section
variable {X : Cx} {tg elt iter : Expr} {ifs : List Expr} {scope : Scope} {pos : Pos} {wi : TI} {g : TG} {tt : TT} {te : TE} {Nc : List Str} {ix : List (Option Nat)}

/-- the block, run: from the state behind the iterator to that behind the last turn -/
theorem comp_run {pins : List (Addr × Obj)} {σ : St} {H : Hp} {s : Shared} {it : Addr} {fp : List Addr} {tn : Nat → Heap → Prop} {J : It} {Q : VK} {R : Value → Addr → Result → Shared → Prop}
    (hc : X.calm = true) (S : CompScope X Nc ix scope) (I : Inv X pins σ H s) (T : Turn X.prog X.w X.K tg J fp it tn) (st : tn 0 s.heap) (f : ∀ b ∈ fp, FpOk X pins H b)
    (hg : PG (cxC X Nc scope (s.heap.objs.size + 1) fp s H) tg g) (ht : PTs (cxC X Nc scope (s.heap.objs.size + 1) fp s H) ifs tt) (he : PE (cxC X Nc scope (s.heap.objs.size + 1) fp s H) elt te)
    (h : ∀ D, H D = none → ∃ W : Nat → Nat → St → Hp → Prop, (∃ m, W 0 m (startC ix σ) (upd H D (.lst []))) ∧ ∀ i m σ' H', W i m σ' H' →
      (J.stop i H' ∧ Q (.ref D) H') ∨ (J.go i H' ∧ ∀ x H2, J.yld i H' x H2 → g x σ' H2 fun σ3 H3 => tt σ3 H3 fun b H4 =>
        if b = true then te σ3 H4 fun v H5 => ∃ xs, H5 D = some (.lst xs) ∧ xs.length < sizeLine ∧ ∃ m', m' < m ∧ W (i + 1) m' σ3 (upd H5 D (.lst (xs ++ [v])))
        else ∃ m', m' < m ∧ W (i + 1) m' σ3 H4))
    (hR : ∀ σ' H' s', Inv (cxC X Nc scope (s.heap.objs.size + 1) fp s H) [] σ' H' s' → (∀ b ∈ fp, H' b = none) → Q (.ref s.heap.objs.size) H' → R (.ref s.heap.objs.size) (s.heap.objs.size + 1) (.ok .next) s') :
    wpAny (model X.prog X.w) X.A (newList []) (fun acc s₃ => wpAny (model X.prog X.w) X.A (newFunctionEnv scope X.env.globals (clFrom X.env scope.names []) [] X.env.qual none .none (some X.env)) (fun cenv s₄ =>
      codeAny (model X.prog X.w) X.A (.compStart (.ListComp elt [⟨tg, iter, ifs, 0⟩] scope pos) 0 (.ref it) acc { cenv with scope := relabel scope X.env }) (R acc cenv.locals) s₄) X.xe s₃) X.xe s := by
  obtain ⟨W, ⟨m0, w0⟩, turn⟩ := h s.heap.objs.size (I.hok.fresh (Nat.le_refl _))
  refine wpAny_newObj_type (newEnv_comp ?_)
  have I4 := inv_comp (t' := s.toks) S I f (fun b hb => let ⟨o, e, _⟩ := T.obj _ _ st b hb; ⟨o, e⟩)
  have hsz : (s.heap.push { cls := .type "list", dict := none, data := .seq ([] : List Value).toArray }).objs.size = s.heap.objs.size + 1 := Heap.size_push ..
  dsimp only
  rw [hsz]
  have st4 : tn 0 (pushCells ((s.heap.push { cls := .type "list", dict := none, data := .seq ([] : List Value).toArray }).push { cls := .type "dict", data := .dict #[] }) scope.names) :=
    T.keep _ _ _ st fun b _ o e => pushCells_keeps _ _ b o (Heap.get?_push_of_some _ (Heap.get?_push_of_some _ e))
  have fr4 : ∀ b ∈ fp, upd H s.heap.objs.size (.lst []) b = none := fun b hb => by
    obtain ⟨o, e, _⟩ := T.obj _ _ st b hb
    rw [upd_ne (Nat.ne_of_lt (Heap.lt_size e))]
    exact (f b hb).1
  have stat : ∀ {H' : Hp}, (∀ b ∈ fp, H' b = none) → ∀ b ∈ fp, FpOk (cxC X Nc scope (s.heap.objs.size + 1) fp s H) [] H' b := fun {H'} hn b hb => by
    obtain ⟨q1, q2⟩ := I4.ok.exf b hb
    exact ⟨hn b hb, q1, I4.ok.exfs b hb, .inl hb, q2, fun p hp => absurd (show p ∈ ([] : List (Addr × Obj)) from hp) (by simp)⟩
  have loop : codeAny (model X.prog X.w) X.A (.compLoop (.ListComp elt [⟨tg, iter, ifs, 0⟩] scope pos) 0 (.ref it) (.ref s.heap.objs.size) (cxC X Nc scope (s.heap.objs.size + 1) fp s H).env)
      (R (.ref s.heap.objs.size) (s.heap.objs.size + 1))
      { s with heap := pushCells ((s.heap.push { cls := .type "list", dict := none, data := .seq ([] : List Value).toArray }).push { cls := .type "dict", data := .dict #[] }) scope.names } := by
    refine compLoop_any (fun n s' => ∃ i σ' H', Inv (cxC X Nc scope (s.heap.objs.size + 1) fp s H) [] σ' H' s' ∧ tn i s'.heap ∧ (∀ b ∈ fp, H' b = none) ∧ W i n σ' H') ?_ m0 ⟨0, _, _, I4, st4, fr4, w0⟩
    rintro n s5 ⟨i, σ5, H5, I5, st5, fr5, w5⟩
    rcases turn i n σ5 H5 w5 with ⟨stop, qn⟩ | ⟨go, step⟩
    · refine thn (T.done (cxC X Nc scope (s.heap.objs.size + 1) fp s H) rfl rfl rfl hc i [] s5 σ5 H5 _ I5 (stat fr5) st5 stop) fun r s6 ⟨hr, I6⟩ => ?_
      subst hr
      exact hR σ5 H5 s6 I6 fr5 qn
    · refine thn (T.item (cxC X Nc scope (s.heap.objs.size + 1) fp s H) rfl rfl rfl hc i [] s5 σ5 H5 _ I5 (stat fr5) st5 go) fun r s6 ⟨u, hr, h6⟩ => ?_
      subst hr
      refine thn h6 fun _ s7 ⟨x, H7, I7, r7, y7, st7, fr7⟩ => ?_
      have I7' := I7.pinned (stat fr7) (T.obj _ _ st7)
      refine thn (hg _ s7 σ5 H7 x u _ I7' r7 (step x H7 y7)) fun _ s8 ⟨σ8, H8, I8, q8⟩ => ?_
      refine thn (ht _ s8 σ8 H8 _ I8 q8) fun b s9 ⟨H9, I9, q9⟩ => ?_
      have again : ∀ {s' : Shared} {σ' : St} {H' : Hp}, Inv (cxC X Nc scope (s.heap.objs.size + 1) fp s H) ([] ++ pinsAt fp s7.heap) σ' H' s' → tn (i + 1) s'.heap ∧ ∀ b ∈ fp, H' b = none := fun {s' σ' H'} I' => by
        refine ⟨T.keep _ _ _ st7 fun b hb o e => (I'.pin (b, o) (List.mem_append_right _ (List.mem_append_right _ (mem_pinsAt hb e)))).1, fun b hb => ?_⟩
        obtain ⟨o, e, d⟩ := T.obj _ _ st7 b hb
        exact (I'.pin (b, o) (List.mem_append_right _ (List.mem_append_right _ (mem_pinsAt hb e)))).2.1
      cases b with
      | false =>
        rw [if_neg Bool.false_ne_true] at q9 ⊢
        obtain ⟨m', hm, w9⟩ := q9
        obtain ⟨a1, a2⟩ := again I9
        exact ⟨m', hm, i + 1, σ8, H9, I9.unpinned, a1, a2, w9⟩
      | true =>
        rw [if_pos rfl] at q9 ⊢
        refine thn (he _ s9 σ8 H9 _ I9 q9) fun v s10 ⟨x', H10, I10, r10, xs, eD, hlt, m', hm, w10⟩ => ?_
        refine thn (mt_append (X := cxC X Nc scope (s.heap.objs.size + 1) fp s H) _ s10 σ8 H10 (.ref s.heap.objs.size) [x'] (.ref s.heap.objs.size) [v] (fun _ H' => H' = upd H10 s.heap.objs.size (.lst (xs ++ [x']))) I10 rfl (.cons r10 .nil)
          ⟨_, xs, x', rfl, rfl, eD, hlt, rfl⟩) fun _ s11 ⟨_, H11, I11, _, e11⟩ => ?_
        subst e11
        obtain ⟨a1, a2⟩ := again I11
        exact ⟨m', hm, i + 1, σ8, _, I11.unpinned, a1, a2, w10⟩
  exact codeAny_compStart_list loop (T.self X.A 0 _ _ _ st4 loop)

/-- behind the block: the outer frame again -/
theorem comp_back {pins : List (Addr × Obj)} {σ σ' : St} {H H' : Hp} {s s' : Shared} {fp : List Addr} (I : Inv X pins σ H s) (f : ∀ b ∈ fp, FpOk X pins H b) (J : Inv (cxC X Nc scope (s.heap.objs.size + 1) fp s H) [] σ' H' s') : Inv X pins σ H' s' :=
  I.call' (ch := fp) J.os J.base J.hok J.bare fun b hb => let ⟨_, q1, _, q3, q4, q5⟩ := f b hb; ⟨q3, q1, q4, q5⟩
theorem Inv.letgo {pins : List (Addr × Obj)} {σ : St} {H : Hp} {s : Shared} {C : Addr} {h' : Heap} (I : Inv X pins σ H s) (f : FpOk X pins H C) (hs : Heap.SameBut C s.heap h') : Inv X pins σ H { s with heap := h' } :=
  I.turned (t' := s.toks) (it := C) (fun b o hb e => (hs.2 b hb).trans e) f.1 f.2.1 f.2.2.2.1 f.2.2.2.2.1 f.2.2.2.2.2

theorem pe_lc (hc : X.calm = true) (S : CompScope X Nc ix scope) (hi : PI X tg iter wi)
    (hb : ∀ (C : Addr) (fp : List Addr) (s : Shared) (H : Hp), PG (cxC X Nc scope C fp s H) tg g ∧ PTs (cxC X Nc scope C fp s H) ifs tt ∧ PE (cxC X Nc scope C fp s H) elt te)
    (hs : ∀ x, foldedSetIterable iter X.env x = pure x := by intro _; rfl) : PE X (.ListComp elt [⟨tg, iter, ifs, 0⟩] scope pos) (tLC wi ix g tt te) := by
  intro pins s σ H Q I h
  rw [eval_ListComp]
  refine wpAny_comprehension_free (use := none) rfl hs (closure_of (S.cells I)) S.kind S.loc (thn (hi pins s σ H _ I h) fun v s1 h1 => thn h1 fun itv s2 h2 => ?_)
  obtain ⟨it, fp, tn, J, H2, e, I2, T, st2, f2, q2⟩ := h2
  subst e
  obtain ⟨hg, ht, he⟩ := hb (s2.heap.objs.size + 1) fp s2 H2
  refine comp_run (R := fun acc C => compPost (model X.prog X.w) X.A X.xe none (EP X pins σ Q) acc C) hc S I2 T st2 f2 hg ht he q2 fun σ' H' s' J' fr' q' => ?_
  obtain ⟨m, hn, _⟩ := J'.loc
  refine ⟨m, hn, fun h' hsb => ⟨.ref _, H', ?_, rfl, q'⟩⟩
  exact (comp_back I2 f2 J').letgo (I2.fpOk (Nat.le_succ _) J'.free) hsb
/-- x = [..], where the name is stored ahead of the block's end -/
theorem ps_setLC {i : Nat} {y : Str} {py spos : Pos} (hN : X.N.Nodup) (hy : X.N[i]? = some y) (hl : Loc X.env.scope y) (hc : X.calm = true) (S : CompScope X Nc ix scope) (hi : PI X tg iter wi)
    (hb : ∀ (C : Addr) (fp : List Addr) (s : Shared) (H : Hp), PG (cxC X Nc scope C fp s H) tg g ∧ PTs (cxC X Nc scope C fp s H) ifs tt ∧ PE (cxC X Nc scope C fp s H) elt te)
    (hsw : swapsWith (.ListComp elt [⟨tg, iter, ifs, 0⟩] scope pos) (some (.Name y py)) spos.line X.env = pure true := by rfl)
    (hs : ∀ x, foldedSetIterable iter X.env x = pure x := by intro _; rfl)
    (hf : X.fn y = true ∨ X.env.scope.names.lookup y = some .local := by first | exact .inl rfl | exact .inr rfl | assumption) :
    PS X (.Assign [.Name y py] (.ListComp elt [⟨tg, iter, ifs, 0⟩] scope pos) spos) (tAsg (tLC wi ix g tt te) (gName i)) := by
  intro pins s σ H D I h
  rw [exec_Assign_Name_used _ _ _ _ hsw]
  refine wpAny_bind (wpAny_standAt (wpAny_bind ?_))
  show wpAny _ X.A (do let _ ← comprehension (.ListComp elt [⟨tg, iter, ifs, 0⟩] scope pos) scope X.env _ (newList []) false (eval iter X.env) (some (assign (.Name y py) X.env))) _ _ s
  refine wpAny_bind (wpAny_mono (wpAny_comprehension_free (use := some (assign (.Name y py) X.env)) (Q := fun _ s' => SP X pins D .next s') rfl hs (closure_of (S.cells I)) S.kind S.loc
    (thn (hi pins s σ H _ I h) fun v s1 h1 => thn h1 fun itv s2 h2 => ?_)) (fun _ s' hq => wpAny_pure (wpAny_pure hq)) fun _ _ e => e)
  obtain ⟨it, fp, tn, J, H2, e, I2, T, st2, f2, q2⟩ := h2
  subst e
  obtain ⟨hg, ht, he⟩ := hb (s2.heap.objs.size + 1) fp s2 H2
  refine comp_run (Q := fun x H1 => gName i x σ H1 D.nx) (R := fun acc C => compPost (model X.prog X.w) X.A X.xe (some (assign (.Name y py) X.env)) (fun _ s' => SP X pins D .next s') acc C) hc S I2 T st2 f2 hg ht he q2 fun σ' H' s' J' fr' q' => ?_
  obtain ⟨m, hn, _⟩ := J'.loc
  have I3 := comp_back I2 f2 J'
  have fC := I2.fpOk (Nat.le_succ _) J'.free
  show wpAny _ X.A (assign (.Name y py) X.env (.ref s2.heap.objs.size)) _ _ s'
  refine wpAny_assign_Name (store_ok2 (v := .ref s2.heap.objs.size) I3 hN hy hl rfl (fun s4 I4 ⟨a, hsa, ha⟩ => ?_) hf)
  have haC : s2.heap.objs.size + 1 ≠ a := by
    rcases ha with z | z
    · rw [z]; exact fC.2.1
    · exact Ne.symm (fC.2.2.2.2.1 y a z)
  refine ⟨m, hn.sameBut hsa haC, fun h' hsb => ⟨_, H', I4.letgo fC hsb, q'⟩⟩
end
end L2
namespace L2
open PySem PySem.Spec PyProof.Rows
/-! ### an exception's own context stays what it is -/
/-- a record whose third field is nothing -/
def D2 (o : Obj) : Prop := ∃ vs, o.data = .fields vs ∧ vs[2]? = some .none
def C0 (h : Heap) (e : Addr) : Prop := ∃ o, h.get? e = some o ∧ D2 o
/-- a tree whose writes leave the third field of any record alone -/
def Kp {α : Type} : Sem α → Prop
  | .pure _ => True
  | .raise _ => True
  | .unsupported _ => True
  | .finish _ => True
  | .rule _ k => Kp (k ())
  | .at _ k => Kp (k ())
  | .load _ _ k => ∀ o, Kp (k o)
  | .update _ _ f k => (∀ o, D2 o → D2 (f o)) ∧ Kp (k ())
  | .alloc _ k => ∀ a, Kp (k a)
  | .loadIfAlive _ k => ∀ o, Kp (k o)
  | .point _ k => Kp (k ())
  | .register _ _ => True
  | .fresh k => ∀ t, Kp (k t)
  | .ask k => ∀ t, Kp (k t)
  | .choose _ _ _ => False
  | .os _ _ _ => False
  | .call _ _ _ _ _ => False
  | .handled _ k => ∀ v, Kp (k v)
  | .newGen _ _ => False
  | .genState _ _ => False
  | .resume _ _ _ _ => False
  | .yield _ _ _ _ => True
  | .stack k => ∀ l, Kp (k l)
  | .fork _ _ => True
  | .thread k => ∀ n, Kp (k n)
  | .await _ _ _ _ _ => True
theorem kp_wp {α : Type} {M : Model} {Γ : PySem.Ctx} {e : Addr} {Q : α → Pos → Shared → Prop} {E : Value → Pos → Shared → Prop} (t : Sem α) : ∀ (p : Pos) (s : Shared), Kp t → C0 s.heap e → Sem.wp M Γ t Q E p s → Sem.wp M Γ t (fun a p s => Q a p s ∧ C0 s.heap e) E p s := by
  induction t with
  | pure a => exact fun p s _ c h => ⟨h, c⟩
  | raise v => exact fun p s _ c h => h
  | unsupported | finish | yield | fork | await | register => exact fun p s _ c h => h
  | rule _ k ih | «at» _ k ih | point _ k ih => exact fun p s kp c h => ih () _ _ kp c h
  | loadIfAlive _ k ih | fresh k ih | ask k ih | handled _ k ih | stack k ih | thread k ih => exact fun p s kp c h => ih _ _ _ (kp _) c h
  | alloc o k ih => exact fun p s kp c h => ih _ _ _ (kp _) (by obtain ⟨o1, h1, h2⟩ := c; exact ⟨o1, Heap.get?_push_of_some _ h1, h2⟩) h
  | load a _ k ih => exact fun p s kp c ⟨o, ho, h⟩ => ⟨o, ho, ih _ _ _ (kp _) c h⟩
  | update a _ f k ih =>
    refine fun p s kp c h => ⟨h.1, ih _ _ _ kp.2 ?_ h.2⟩
    obtain ⟨o1, h1, h2⟩ := c
    by_cases z : a = e
    · subst z
      have d := kp.1 o1 h2
      obtain ⟨vs, dv, _⟩ := id d
      exact ⟨_, Heap.get?_update_self f h1 (Obj.isFreed_of_fields dv), d⟩
    · exact ⟨o1, (Heap.get?_update_other _ _ z).trans h1, h2⟩
  | choose | os | call | newGen | genState | resume => exact fun p s kp c h => kp.elim
theorem kp_any {α : Type} {M : Model} {A : Around} {e : Addr} {t : Sem α} {Q : α → Shared → Prop} {E : Value → Shared → Prop} {s : Shared} (k : Kp t) (c : C0 s.heap e) (h : wpAny M A t Q E s) : wpAny M A t (fun a s' => Q a s' ∧ C0 s'.heap e) E s := fun Γ p hΓ => kp_wp t p s k c (h Γ p hΓ)
theorem kp_bind {α β : Type} {g : α → Sem β} (t : Sem α) : Kp t → (∀ a, Kp (g a)) → Kp (t >>= g) := by
  show Kp t → (∀ a, Kp (g a)) → Kp (Sem.bind t g)
  induction t with
  | pure a => exact fun _ h => h a
  | raise v => exact fun _ _ => trivial
  | unsupported | finish | yield | fork | await | register => exact fun _ _ => trivial
  | rule _ k ih | «at» _ k ih | point _ k ih => exact fun kp h => ih () kp h
  | loadIfAlive _ k ih | fresh k ih | ask k ih | handled _ k ih | stack k ih | thread k ih | alloc _ k ih | load _ _ k ih => exact fun kp h x => ih x (kp x) h
  | update a _ f k ih => exact fun kp h => ⟨kp.1, ih () kp.2 h⟩
  | choose | os | call | newGen | genState | resume => exact fun kp _ => kp.elim
theorem kp_pure {α : Type} {a : α} : Kp (pure a : Sem α) := trivial
theorem kp_uns {α : Type} {z : String} : Kp (unsupported z : Sem α) := trivial
theorem kp_load {a : Addr} : Kp (load a) := fun _ => trivial
theorem kp_stack : Kp stack := fun _ => trivial
theorem kp_fieldsOf {v : Value} : Kp (fieldsOf v) := by
  unfold fieldsOf
  cases v <;> first
    | exact kp_uns
    | (refine kp_bind _ kp_load fun o => ?_
       split <;> first | exact kp_uns | exact kp_pure)
theorem kp_field {v : Value} {i : Nat} : Kp (field v i) := by
  unfold field
  refine kp_bind _ kp_fieldsOf fun vs => ?_
  split <;> first | exact kp_uns | exact kp_pure
theorem kp_setField {v x : Value} {i : Nat} (hi : i ≠ 2) : Kp (setField v i x) := by
  unfold setField
  cases v <;> first
    | exact kp_uns
    | (unfold updateField
       refine kp_bind _ kp_load fun o => ?_
       split <;> first
         | exact kp_uns
         | (split <;> first
             | exact kp_uns
             | exact ⟨fun o ⟨vs, d, z⟩ => ⟨_, Obj.data_mapFields d _, by rw [Array.getElem?_setIfInBounds_ne hi]; exact z⟩, trivial⟩))
theorem kp_ready : ∀ l : List Env, Kp (readyFrames l) := by
  intro l
  induction l with
  | nil => exact kp_pure
  | cons env outer ih =>
    unfold readyFrames
    split
    · refine kp_bind _ kp_load fun o => ?_
      split
      · exact kp_pure
      · refine kp_bind _ ?_ fun b => kp_bind _ ?_ fun v => kp_bind _ ⟨fun o d => d, trivial⟩ fun _ => ih
        · unfold behindIsImport
          split
          · exact kp_pure
          · split
            · exact kp_pure
            · exact kp_bind _ kp_field fun _ => kp_pure
        · unfold keptBack
          split
          · split
            · exact kp_pure
            · exact kp_bind _ (kp_bind _ kp_stack fun _ => kp_pure) fun _ => kp_pure
          · exact kp_pure
    · exact kp_uns
theorem kp_frameOf {env : Env} : Kp (PySem.frameOf env) := by
  unfold PySem.frameOf
  refine kp_bind _ (kp_bind _ kp_stack fun _ => kp_pure) fun l => kp_bind _ ?_ fun r => ?_
  · unfold frameObject
    split
    · exact kp_pure
    · exact kp_bind _ (kp_ready _) fun _ => kp_pure
  · split <;> first | exact kp_pure | exact kp_uns
theorem kp_place {f : Addr} {b : Bool} : Kp (entryPlaceOf f b) := by
  unfold entryPlaceOf
  refine kp_bind _ kp_stack fun l => ?_
  split <;> exact kp_pure
theorem kp_asIs {z : String} {d : Data} : Kp (newObjAsIs (.type z) d) := kp_bind _ (fun _ => trivial) fun _ => kp_pure
theorem kp_entry {a b c d e : Value} {l : List Value} : Kp (EntryCells.newEntry a b c d e l) := by
  unfold EntryCells.newEntry newFields newObj
  dsimp only
  generalize (if l.isEmpty = true then List.replicate 6 Value.none else l) = l'
  split
  · exact kp_bind _ kp_uns fun _ => kp_asIs
  · exact kp_asIs
theorem kp_note {e : Value} {env : Env} : Kp (noteFrame e env) := by
  unfold noteFrame
  split
  · rename_i f _
    refine kp_bind _ kp_field fun h => ?_
    have rest : Kp (PySem.frameOf env >>= fun a => entryPlaceOf f (h != Value.none) >>= fun pl => EntryCells.newEntry h a Value.none (rawInt f) Value.none pl >>= fun b => setField e 1 b) := kp_bind _ kp_frameOf fun _ => kp_bind _ kp_place fun _ => kp_bind _ kp_entry fun _ => kp_setField (by decide)
    split
    · refine kp_bind _ kp_field fun v => ?_
      split
      · exact kp_pure
      · exact kp_bind _ (kp_setField (by decide)) fun _ => rest
    · exact rest
  · exact kp_uns
theorem kp_flight {e : Value} {f : Option Addr} : Kp (setFlight e f) := by
  unfold setFlight
  refine kp_bind _ kp_field fun v => ?_
  split
  · exact kp_setField (by decide)
  · exact kp_pure
theorem kp_leaving {e : Value} {env : Env} : Kp (leaving env e) := kp_bind _ kp_note fun _ => kp_flight
/-- a station, with the context kept -/
theorem kp_on {M : Model} {A : Around} {e : Addr} {t : Sem Unit} {P : Heap → Prop} {Q : Unit → Shared → Prop} {E : Value → Shared → Prop} {s : Shared} (k : Kp t) (c : C0 s.heap e) (h : ∀ Q' : Unit → Shared → Prop, (∀ h', P h' → Q' () { s with heap := h' }) → wpAny M A t Q' E s) (hQ : ∀ h', P h' → C0 h' e → Q () { s with heap := h' }) : wpAny M A t Q E s :=
  wpAny_mono (kp_any k c (h (fun _ s' => ∃ h', s' = { s with heap := h' } ∧ P h') fun h' p => ⟨h', rfl, p⟩)) (fun _ s' ⟨⟨h', z, p⟩, c'⟩ => by subst z; exact hQ h' p c') fun _ _ z => z
end L2
namespace L2
open PySem PySem.Spec PyProof.Rows

/-! ### exceptions of one's own classes: raised, passed on, caught -/
/-- an exception of the class at C, its object at a, has left all frames but those of outer. B: what stood at the raise, but the frames -/
structure Thrown (P : Program) (w : World) (outer : List Env) (H : Hp) (s : Shared) (a C : Addr) (a0 : Value) (B : Heap) (H' : Hp) (s' : Shared) : Prop where
  os : s'.os = s.os
  bare : AllBare s'.gens
  un : Un (frs outer) [] H H' s.heap s'.heap
  hok : HOk P w H' s'.heap
  fly : Heap.FlyingW B outer a (.ref C) a0 s'.heap
  cov : ∀ b o, s.heap.get? b = some o → b ∉ frs outer → ∃ o', B.get? b = some o'
  trk : ∀ b u, H' b = some u → ∃ o', B.get? b = some o'
def CX1 (P : Program) (w : World) : CXT := fun outer H s E e s' => ∃ (a C : Addr) (a0 : Value) (B : Heap) (H' : Hp) (x : Option Addr), e = .ref a ∧ Thrown P w outer H s a C a0 B H' s' ∧ (x = none → C0 s'.heap a) ∧ E (.ref C) x H'
theorem kp_on2 {M : Model} {A : Around} {e : Addr} {t : Sem Unit} {P : Heap → Prop} {Q : Unit → Shared → Prop} {E : Value → Shared → Prop} {s : Shared} (k : Kp t) (h : ∀ Q' : Unit → Shared → Prop, (∀ h', P h' → Q' () { s with heap := h' }) → wpAny M A t Q' E s) (hQ : ∀ h', P h' → (C0 s.heap e → C0 h' e) → Q () { s with heap := h' }) : wpAny M A t Q E s := by
  by_cases c : C0 s.heap e
  · exact kp_on k c h fun h' p c' => hQ h' p fun _ => c'
  · exact h _ fun h' p => hQ h' p fun z => absurd z c

theorem frs_mem {l : List Env} {b : Addr} {base h : Heap} (F : h.FunFrames base l) (hb : b ∈ frs l) : base.get? b = none ∧ ∃ o, h.get? b = some o ∧ ∀ vs, o.data ≠ .fields vs := F.mem hb

/-- from a heap in which B stands to a later one -/
theorem un_later {outer : List Env} {H H' : Hp} {h h1 h2 B : Heap} (u : Un (frs outer) [] H H' h h1) (F : h1.FunFrames B outer) (hB1 : B.StaysIn h1) (hB2 : B.StaysIn h2) (up : h1.UpToSlots h2)
    (cov : ∀ b o, h.get? b = some o → b ∉ frs outer → ∃ o', B.get? b = some o') : Un (frs outer) [] H H' h h2 := by
  have at2 : ∀ b o, h.get? b = some o → b ∉ frs outer → ∀ o1, h1.get? b = some o1 → h2.get? b = some o1 := fun b o e hb o1 e1 => by
    obtain ⟨o', eB⟩ := cov b o e hb
    have q := hB1 b o' eB
    rw [e1] at q; cases q
    exact hB2 b _ eB
  refine ⟨fun b o e n hb hx => at2 b o e hb o (u.keep b o e n hb hx), fun b o e n hb hx => ?_, u.free, fun b o e hx => ?_, u.tups, u.frzs, u.tbls⟩
  · obtain ⟨sl, e1⟩ := u.slot b o e n hb hx
    obtain ⟨_, o1, q1, q2⟩ := frs_mem F hb
    rw [e1] at q1; cases q1
    obtain ⟨sl2, e2⟩ := up b _ e1 q2
    exact ⟨sl2, e2⟩
  · obtain ⟨o1, e1⟩ := u.there b o e hx
    by_cases hb : b ∈ frs outer
    · obtain ⟨_, o2, q1, q2⟩ := frs_mem F hb
      obtain ⟨sl2, e2⟩ := up b _ q1 q2
      exact ⟨_, e2⟩
    · exact ⟨o1, at2 b o e hb o1 e1⟩
theorem hok_later {P : Program} {w : World} {H : Hp} {h1 h2 B : Heap} (x : HOk P w H h1) (hB1 : B.StaysIn h1) (hB2 : B.StaysIn h2) (trk : ∀ b u, H b = some u → ∃ o', B.get? b = some o') : HOk P w H h2 := fun b o e => by
  refine (x b o e).stay (fun c u hc q => ?_) (fun _ q => q) fun _ _ q => q
  have ht : ∃ o', B.get? c = some o' := by
    rcases hc with z | z
    · rw [z]; exact trk b o e
    · exact trk c _ z
  obtain ⟨o', eB⟩ := ht
  have q1 := hB1 c o' eB
  rw [q] at q1; cases q1
  exact hB2 c _ eB

/-- a def's body as its exceptions see it -/
structure Body (X : Cx) (E : XK) : Prop where
  xe : X.xe = fun e s' => wpAny (model X.prog X.w) X.A (leaving X.env e) (fun _ s'' => CX1 X.prog X.w X.outer X.H₀ X.s₀ E e s'') (fun e' s'' => CX1 X.prog X.w X.outer X.H₀ X.s₀ E e' s'') s'
  stk : X.stack = X.env :: X.outer
  fr : X.env.frame = some X.env.locals
  ex : X.ex = []
section
variable {X : Cx} {E : XK} {pins : List (Addr × Obj)} {σ : St} {H : Hp} {s : Shared}
theorem Inv.old (I : Inv X pins σ H s) {b : Addr} {o : Obj} (e : X.s₀.heap.get? b = some o) : b ≠ X.env.locals := Nat.ne_of_lt (Nat.lt_of_lt_of_le (Heap.lt_size e) I.ok.above)
theorem Body.base (Bd : Body X E) (I : Inv X pins σ H s) : Un X.fs [] X.H₀ H X.s₀.heap s.heap := by
  have q := I.base
  rw [Bd.ex] at q
  exact q
theorem Body.notin (Bd : Body X E) {b : Addr} (h1 : b ≠ X.env.locals) (h2 : b ∉ frs X.outer) : b ∉ frs X.stack := by
  rw [Bd.stk]
  intro z
  obtain ⟨env, he, hf⟩ := List.mem_filterMap.mp z
  rcases List.mem_cons.mp he with rfl | he
  · rw [Bd.fr] at hf; exact h1 (Option.some.inj hf).symm
  · exact h2 (List.mem_filterMap.mpr ⟨env, he, hf⟩)

/-- an exception of a callee passes through this body -/
theorem pass1 (Bd : Body X E) : Passes (CX1 X.prog X.w) X E := by
  intro pins σ H s e s' I h
  obtain ⟨a, C, a0, B, H', x, rfl, T, cx, q⟩ := h
  rw [Bd.xe]
  have hfr : X.A.frames = some (X.env :: X.outer) := by rw [← Bd.stk]; exact I.ok.frames
  have fly := T.fly
  rw [Bd.stk] at fly
  refine kp_on2 (e := a) (P := fun h' => Heap.FlyingW B X.outer a (.ref C) a0 h' ∧ s'.heap.UpToSlots h') kp_leaving (fun Q' hq => wpAny_leaves_onW hfr Bd.fr fly fun h' fly' up => hq h' ⟨fly', up⟩) fun h' ⟨fly', up⟩ cx' => ?_
  have cov : ∀ b o, X.s₀.heap.get? b = some o → b ∉ frs X.outer → ∃ o', B.get? b = some o' := fun b o e hb => by
    obtain ⟨o1, e1⟩ := (Bd.base I).there b o e (by simp)
    exact T.cov b o1 e1 (Bd.notin (I.old e) hb)
  have u1 : Un (frs X.outer) [] X.H₀ H' X.s₀.heap s'.heap := by
    have ub := Bd.base I
    refine ⟨fun b o e n hb hx => T.un.keep b o (ub.keep b o e n hb hx) (ub.free b o e n hx) (Bd.notin (I.old e) hb) (by simp), fun b o e n hb hx => ?_, fun b o e n hx => ?_, fun b o e hx => ?_, fun b xs e => T.un.tups b xs (ub.tups b xs e),
      fun b o xs e => T.un.frzs b o xs (ub.frzs b o xs e), fun b ps e => ?_⟩
    · obtain ⟨sl, e1⟩ := ub.slot b o e n hb hx
      obtain ⟨sl', e2⟩ := T.un.any e1 (ub.free b o e n hx) (by simp)
      exact ⟨sl', e2⟩
    · obtain ⟨o1, e1⟩ := ub.there b o e hx
      exact T.un.free b o1 e1 (ub.free b o e n hx) (by simp)
    · obtain ⟨o1, e1⟩ := ub.there b o e hx
      exact T.un.there b o1 e1 (by simp)
    · obtain ⟨m1, e1⟩ := ub.tbls b ps e
      obtain ⟨m2, e2⟩ := T.un.tbls b _ e1
      exact ⟨m1 ++ m2, by rw [e2, Array.append_assoc]⟩
  have F' : s'.heap.FunFrames B X.outer := by obtain ⟨_, _, ⟨_, _, k⟩, _⟩ := fly; exact k
  exact ⟨a, C, a0, B, H', x, rfl, ⟨T.os.trans I.os, T.bare, un_later u1 F' fly.1 fly'.1 up cov, hok_later T.hok fly.1 fly'.1 T.trk, fly', cov, T.trk⟩, fun z => cx' (cx z), q⟩

/-- an own exception class, as the written part has it -/
theorem own_of_K {K : PySem.W.Frag} {h : Heap} {mg : Str → Option Value} {x : Str} {C : Addr} {bmB : List Value} {newId : String} (KX : K.In h) (hm : mg x = some (.ref C)) (q : PySem.W.excIn K C bmB newId = true) : OwnCls x C bmB newId mg h := by
  refine ⟨hm, ?_⟩
  unfold PySem.W.excIn at q
  split at q
  · rename_i dd cd sl ho
    split at q
    · rename_i C' bm k0 k1 k2 k3 n k5 hm' hs
      simp only [Bool.and_eq_true, beq_iff_eq, Bool.not_eq_true'] at q
      obtain ⟨⟨⟨⟨⟨rfl, rfl⟩, hdel⟩, ht⟩, hok⟩, hni⟩ := q
      obtain ⟨nm, bs, mro, ns, qn, hd, sn, sub, ab, col, del⟩ := cd
      dsimp only at hm' hdel hok hni
      subst hm' hdel
      have hsl : sl = #[k0, k1, k2, k3, some (.builtin n), k5] := by
        obtain ⟨l⟩ := sl
        simp only at hs
        rw [hs]
      subst hsl
      exact ⟨bm, ns, nm, qn, bs, hd, sn, sub, ab, col, dd, k0, k1, k2, k3, k5, _, KX _ _ ho, .of_isNs (PySem.W.isNs_of_in KX hok), PySem.W.nsMap_none_of_in KX hok hni, PySem.W.tail_of_in KX ht⟩
    · cases q
  · cases q

/-- raise C(e, ..) -/
def tRaise (C : Addr) (E : XK) (t : TA) : TS := fun _ σ H => t σ H fun vs H1 => vs.length ≤ sizeLine ∧ E (.ref C) none H1
theorem ps_raise {x : Str} {np cpos pos : Pos} {e : Expr} {es : List Expr} {t : TA} {C : Addr} {bmB : List Value} {B newId initId : String} (Bd : Body X E) (hc : X.calm = true) (hg : Gl X x) (hm : X.mg x = some (.ref C))
    (hk : PySem.W.excIn X.K C bmB newId = true) (FB : ExcBaseFacts B newId initId bmB) (ha : PA X (e :: es) t)
    (he : starEach (e :: es) X.env = (false, eval e X.env) :: starEach es X.env := by rfl) (hpl : (backTo cpos (starEach es X.env)).any (·.1) = false := by rfl) (hdb : (x == ("__debug__" : Str)) = false := by decide) :
    PS X (.Raise (some (.Call (.Name x np) (e :: es) [] cpos)) none pos) (tRaise C E t) := by
  intro pins s σ H D I h
  have O := own_of_K (I.mod.kin) hm hk
  obtain ⟨tl, N, nm, q, bs, hdct, sn, sub, ab, col, dd, k0, k1, k2, k3, k5, mN, hC, hN, hni, T⟩ := O.obj
  refine wpAny_Raise_call_subT (C := C) (nm := nm) (q := q) (N := N) (bs := bs) (bm := tl) (hdct := hdct) (sn := sn) (sub := sub) (ab := ab) (col := col) (dd := dd) (k0 := k0) (k1 := k1) (k2 := k2) (k3 := k3) (k5 := k5)
    FB (mN := mN) (T.hasType FB.hasBase) (I.ok.hd hc) (by rw [he]; show (false || (backTo cpos (starEach es X.env)).any (·.1)) = false; rw [hpl]; rfl) hni (ld_glob I hg hm ⟨rfl, ?_⟩ hdb)
  have hA := ha cpos pins s σ H _ I h
  rw [he] at hA ⊢
  refine Calls.evalArgs_plain (thn hA fun us s2 ⟨vs, H2, I2, r, hz, q2⟩ => ?_)
  refine ⟨rfl, by rw [← r.length]; exact hz, I2.bk _ _ hC, hN.keeps I2.bk, T.keeps I2.bk, fun h' a hx => ?_⟩
  rw [Bd.xe]
  have hfr : X.A.frames = some (X.env :: X.outer) := by rw [← Bd.stk]; exact I.ok.frames
  have hin : ∀ env ∈ X.stack, ∀ b, env.frame = some b → b ∈ frs X.stack := fun env he b hb => List.mem_filterMap.mpr ⟨env, he, hb⟩
  have F0 : s2.heap.FunFrames (PySem.W.hideAll s2.heap (frs X.stack)) X.stack := PySem.W.funFrames_hide I2.stack hin
  have F1 : s2.heap.FunFrames (PySem.W.hideAll s2.heap (frs X.stack)) (X.env :: X.outer) := by rw [← Bd.stk]; exact F0
  have hB0 : (PySem.W.hideAll s2.heap (frs X.stack)).StaysIn s2.heap := fun b o q => PySem.W.of_hideAll _ q
  have hBget : ∀ b o, s2.heap.get? b = some o → b ∉ frs X.stack → (PySem.W.hideAll s2.heap (frs X.stack)).get? b = some o := fun b o e hb => PySem.W.hideAll_get _ e hb
  have c0 : C0 h' a := by obtain ⟨t, q, _⟩ := hx.there; exact ⟨_, q, _, rfl, rfl⟩
  refine kp_on (P := fun h'' => ∃ t, Heap.FlyingW (PySem.W.hideAll s2.heap (frs X.stack)) X.outer a (.ref C) (.ref t) h'' ∧ h'.UpToSlots h'') kp_leaving c0 (fun Q' hq => wpAny_leaves_madeW hfr Bd.fr hB0 F1 hx fun h'' t fly tup tn up => hq h'' ⟨t, fly, up⟩) fun h'' ⟨t, fly, up⟩ cx' => ?_
  have cov : ∀ b o, X.s₀.heap.get? b = some o → b ∉ frs X.outer → ∃ o', (PySem.W.hideAll s2.heap (frs X.stack)).get? b = some o' := fun b o e hb => by
    obtain ⟨o1, e1⟩ := (Bd.base I2).there b o e (by simp)
    exact ⟨o1, hBget b o1 e1 (Bd.notin (I2.old e) hb)⟩
  have trk : ∀ b u, H2 b = some u → ∃ o', (PySem.W.hideAll s2.heap (frs X.stack)).get? b = some o' := fun b u e => by
    have hb : b ∉ frs X.stack := fun z => by rw [I2.stkFree b z] at e; cases e
    have hlt := I2.hok.lt e
    obtain ⟨o1, e1⟩ : ∃ o1, s2.heap.get? b = some o1 := by
      cases hq : s2.heap.get? b with
      | some o1 => exact ⟨o1, rfl⟩
      | none => exact absurd hq (objOk_there (I2.hok b u e))
    exact ⟨o1, hBget b o1 e1 hb⟩
  have F2 : s2.heap.FunFrames (PySem.W.hideAll s2.heap (frs X.stack)) X.outer := by obtain ⟨_, _, k⟩ := F1; exact k
  have up2 : s2.heap.UpToSlots h'' := (Heap.UpToSlots.of_keeps hx.keeps).trans up
  exact ⟨a, C, .ref t, _, H2, none, rfl, ⟨I2.os, I2.bare, un_later (Bd.base I2) F2 hB0 fly.1 up2 cov, hok_later I2.hok hB0 fly.1 trk, fly, cov, trk⟩, fun _ => cx', q2⟩
where
  objOk_there {P : Program} {w : World} {H : Hp} {h : Heap} {a : Addr} {o : HO} (x : ObjOk P w H h a o) : h.get? a ≠ none := by
    cases o with
    | lst xs => obtain ⟨_, _, _, _, e⟩ := x; rw [e]; simp
    | tup xs => obtain ⟨_, _, _, ob, e, _⟩ := x; rw [e]; simp
    | dK kvs => obtain ⟨_, _, _, _, o, _, _, e, _⟩ := x; rw [e]; simp
    | dT kvs => obtain ⟨_, _, _, _, o, _, _, e, _⟩ := x; rw [e]; simp
    | set S n => obtain ⟨o, _, _, _, e, _⟩ := x; rw [e]; simp
    | ins C dx fs => obtain ⟨_, _, _, e, _⟩ := x; rw [e]; simp
    | own y => obtain ⟨_, e⟩ := x; rw [e]; simp
    | xd fs => obtain ⟨_, ⟨_, _, _, e, _⟩, _⟩ := x; rw [e]; simp
    | rng lo hi => obtain ⟨_, _, _, e⟩ := x; rw [e]; simp
    | frz ob u => obtain ⟨e, _⟩ := x; rw [e]; simp
    | tbl ps => have e : h.get? a = some _ := x; rw [e]; simp
    | met f y => have e : h.get? a = some _ := x; rw [e]; simp
    | ext φ => obtain ⟨_, ⟨_, e⟩, _⟩ := x; rw [e]; simp
end
end L2
namespace L2
open PySem PySem.Spec PyProof.Rows

def ExcAt (a C : Addr) (h : Heap) : Prop := ∃ oe vs, h.get? a = some oe ∧ oe.cls = .ref C ∧ oe.data = .fields vs
theorem ExcAt.mono {a C : Addr} {h1 h2 : Heap} (x : ExcAt a C h1) (k : ∀ o, h1.get? a = some o → h2.get? a = some o) : ExcAt a C h2 := let ⟨oe, vs, e, c, d⟩ := x; ⟨oe, vs, k _ e, c, d⟩

/-- an own class that may be named in an except -/
structure Catch (K : PySem.W.Frag) (C : Addr) : Prop where
  ty : PySem.W.typeIn K (.ref C) = some (.type "type")
  cls : (PySem.W.clsIn K C).isSome = true
  base : PySem.W.subIn K (.ref C) (.type "BaseException") = some true
theorem looks_isType {K : PySem.W.Frag} {M : Model} {h : Heap} {C : Addr} (KX : K.In h) (z0 : (PySem.W.clsIn K C).isSome = true) : PySem.W.Looks M h (isType (.ref C)) true := by
  unfold PySem.W.clsIn at z0
  split at z0
  · rename_i c' d' cd' sl' ho
    intro A' Q' E' s' k q
    unfold isType loadHead
    exact wpAny_bind (wpAny_loadPart (k _ _ (KX _ _ ho)) (wpAny_pure q))
  · cases z0
theorem excMatches_K {M : Model} {A : Around} {E : Value → Shared → Prop} {s : Shared} {K : PySem.W.Frag} {a C C2 : Addr} {b : Bool} {Q : Bool → Shared → Prop} (KX : K.In s.heap) (x : ExcAt a C s.heap) (c : Catch K C2)
    (hs : PySem.W.subIn K (.ref C) (.ref C2) = some b) (q : Q b s) : wpAny M A (excMatches (.ref a) (.ref C2)) Q E s := by
  obtain ⟨h, g, d, t, os⟩ := s
  obtain ⟨oe, vs, he, hc, hd⟩ := x
  have L1 : PySem.W.Looks M h (typeOf (.ref C2)) (.type "type") := PySem.W.looks_typeIn KX c.ty
  have L2 : PySem.W.Looks M h (isType (.ref C2)) true := looks_isType KX c.cls
  have L3 : PySem.W.Looks M h (isSubtype (.ref C2) (.type "BaseException")) true := PySem.W.looks_subIn KX c.base
  have L4 : PySem.W.Looks M h (isSubtype (.ref C) (.ref C2)) b := PySem.W.looks_subIn KX hs
  have L5 : PySem.W.Looks M h (typeOf (.ref a)) (.ref C) := hc ▸ (PySem.W.Looks.ld he).andThen .now
  have f := tc_notTuple
  have L6 : PySem.W.Looks M h (isSubtype (.type "type") (.type "tuple")) false := PySem.W.Looks.of_pure f
  have L7 : PySem.W.Looks M h (isInstance (.ref C2) (.type "tuple")) false := L1.andThen L6
  unfold excMatches
  refine wpAny_bind (L7.at ?_)
  simp only [Bool.false_eq_true, if_false]
  refine wpAny_bind (wpAny_pure ?_)
  rw [List.forIn_cons]
  unfold isExcClass
  refine wpAny_bind (wpAny_bind (wpAny_bind (wpAny_bind (L2.at ?_))))
  simp only [if_true]
  refine L3.at ?_
  simp only [Bool.not_true, Bool.false_eq_true, if_false]
  refine wpAny_pure ?_
  simp only [List.forIn_nil]
  refine wpAny_pure (wpAny_bind (L5.at ?_))
  rw [List.forIn_cons]
  refine wpAny_bind (wpAny_bind (wpAny_bind (L4.at ?_)))
  cases b with
  | true => simp only [if_true]; exact wpAny_pure (wpAny_pure (wpAny_pure q))
  | false => simp only [Bool.false_eq_true, if_false]; exact wpAny_pure (wpAny_pure (wpAny_pure q))

/-- the context of a try's body: what is raised there is caught here -/
def tryCx (X : Cx) (pins : List (Addr × Obj)) (E : XK) : Cx := { X with
  pn := X.pn ++ pins
  xe := fun e s' => ∃ (a C : Addr) (a0 : Value) (B : Heap) (σ : St) (H H' : Hp) (s : Shared) (x : Option Addr), e = .ref a ∧ Inv X pins σ H s ∧ Thrown X.prog X.w X.stack H s a C a0 B H' s' ∧ (x = none → C0 s'.heap a) ∧ E (.ref C) x H' }
/-- the context of an except's suite -/
def hndCx (X : Cx) (a : Addr) : Cx := { X with A := X.A.mark (some (.ref a)), calm := false, xe := fun _ _ => False }
section
variable {X : Cx} {E : XK} {pins : List (Addr × Obj)} {σ : St} {H : Hp} {s : Shared} {a : Addr}
theorem Inv.toTry (I : Inv X pins σ H s) : Inv (tryCx X pins E) [] σ H s :=
  ⟨⟨I.ok.mod, I.ok.kind, I.ok.glob, I.ok.blt, I.ok.above, I.ok.inj, I.ok.has, I.ok.cab, I.ok.hd, I.ok.frames, I.ok.stk, I.ok.exf, I.ok.bs, I.ok.bsz, I.ok.noex, I.ok.exfs, I.ok.funs, I.ok.frf⟩,
    I.os, I.bare, I.base, I.loc, I.cell, I.free, I.freeC, fun p hp => I.pin p (by rw [List.append_nil] at hp; exact hp), I.hok, I.len⟩
theorem Inv.ofTry {pins2 : List (Addr × Obj)} (I : Inv (tryCx X pins E) pins2 σ H s) : Inv X pins σ H s :=
  ⟨⟨I.ok.mod, I.ok.kind, I.ok.glob, I.ok.blt, I.ok.above, I.ok.inj, I.ok.has, I.ok.cab, I.ok.hd, I.ok.frames, I.ok.stk, I.ok.exf, I.ok.bs, I.ok.bsz, I.ok.noex, I.ok.exfs, I.ok.funs, I.ok.frf⟩,
    I.os, I.bare, I.base, I.loc, I.cell, I.free, I.freeC, fun p hp => I.pin p (List.mem_append_left _ hp), I.hok, I.len⟩
theorem Inv.toHnd (I : Inv X pins σ H s) : Inv (hndCx X a) pins σ H s :=
  ⟨⟨I.ok.mod, I.ok.kind, I.ok.glob, I.ok.blt, I.ok.above, I.ok.inj, I.ok.has, I.ok.cab, (fun z => by cases z), I.ok.frames, I.ok.stk, I.ok.exf, I.ok.bs, I.ok.bsz, I.ok.noex, I.ok.exfs, I.ok.funs, I.ok.frf⟩,
    I.os, I.bare, I.base, I.loc, I.cell, I.free, I.freeC, I.pin, I.hok, I.len⟩
theorem Inv.ofHnd (hd : X.calm = true → X.A.handled = none) (I : Inv (hndCx X a) pins σ H s) : Inv X pins σ H s :=
  ⟨⟨I.ok.mod, I.ok.kind, I.ok.glob, I.ok.blt, I.ok.above, I.ok.inj, I.ok.has, I.ok.cab, hd, I.ok.frames, I.ok.stk, I.ok.exf, I.ok.bs, I.ok.bsz, I.ok.noex, I.ok.exfs, I.ok.funs, I.ok.frf⟩,
    I.os, I.bare, I.base, I.loc, I.cell, I.free, I.freeC, I.pin, I.hok, I.len⟩
/-- what a call in the try's body wants -/
theorem passTry : Passes (CX1 X.prog X.w) (tryCx X pins E) E := by
  intro pins2 σ H s e s' I h
  obtain ⟨a, C, a0, B, H', x, rfl, T, cx, q⟩ := h
  exact ⟨a, C, a0, B, σ, H, H', s, x, rfl, I.ofTry, T, cx, q⟩

theorem Un.ext {fs : List Addr} {H H' : Hp} {h h' : Heap} {a : Addr} {o : HO} (u : Un fs [] H H' h h') (ha : h.get? a = none) (hn : H' a = none) : Un fs [] H (upd H' a o) h h' where
  keep := u.keep
  slot := u.slot
  free := fun b ob e n hx => by rw [upd_ne (fun z => by rw [z, ha] at e; cases e)]; exact u.free b ob e n hx
  there := u.there
  tups := fun b xs e => by have q := u.tups b xs e; rw [upd_ne (ne_of_none q hn)]; exact q
  frzs := fun b ob xs e => by have q := u.frzs b ob xs e; rw [upd_ne (ne_of_none q hn)]; exact q
  tbls := fun b ps e => by obtain ⟨m, q⟩ := u.tbls b ps e; exact ⟨m, by rw [upd_ne (ne_of_none q hn)]; exact q⟩

/-- behind the landing: the frame again, with the exception tracked -/
theorem caught_inv {C : Addr} {a0 : Value} {B : Heap} {H' : Hp} {s' : Shared} {h2 : Heap} (I : Inv X pins σ H s) (T : Thrown X.prog X.w X.stack H s a C a0 B H' s') (fl : Heap.FlyingW B X.stack a (.ref C) a0 h2) (up : s'.heap.UpToSlots h2) :
    Inv X pins σ (upd H' a (.ext (ExcAt a C))) { s' with heap := h2 } ∧ H' a = none := by
  obtain ⟨oe, vs, he, hcl, hd, _⟩ := fl.first
  obtain ⟨oe1, vs1, he1, _, hd1, _⟩ := T.fly.first
  have hBa : B.get? a = none := T.fly.2.1
  have hn : H' a = none := by
    cases q : H' a with
    | none => rfl
    | some u => obtain ⟨o', z⟩ := T.trk a u q; rw [hBa] at z; cases z
  have ha : s.heap.get? a = none := by
    cases q : s.heap.get? a with
    | none => rfl
    | some o =>
      by_cases hf : a ∈ frs X.stack
      · obtain ⟨_, o1, q1, q2⟩ := frs_mem T.fly.2.2.1 hf
        rw [he1] at q1; cases q1
        exact absurd hd1 (q2 vs1)
      · obtain ⟨o', z⟩ := T.cov a o q hf
        rw [hBa] at z; cases z
  have u1 := un_later T.un T.fly.2.2.1 T.fly.1 fl.1 up T.cov
  have hk1 := hok_later T.hok T.fly.1 fl.1 T.trk
  have ex : ExcAt a C h2 := ⟨oe, vs, he, hcl, hd⟩
  have hk2 : HOk X.prog X.w (upd H' a (.ext (ExcAt a C))) h2 := fun b o e => by
    by_cases hb : b = a
    · subst hb
      rw [upd_same] at e; cases e
      exact ⟨ex, ⟨oe, he⟩, fun h1 h2 p k => p.mono k⟩
    · rw [upd_ne hb] at e
      exact (hk1 b o e).stay (fun _ _ _ q => q) (fun c q => by rw [upd_ne (ne_of_none q hn)]; exact q) fun c xs q => by rw [upd_ne (ne_of_none q hn)]; exact q
  exact ⟨I.call' (s' := { s' with heap := h2 }) (ch := []) T.os (u1.ext ha hn) hk2 T.bare (fun b z => absurd z (by simp)), hn⟩

end
end L2
namespace L2
open PySem PySem.Spec PyProof.Rows
/-! ### isinstance of an exception of one's own -/
structure ExcCls (K : PySem.W.Frag) (C : Addr) : Prop where
  ga : PySem.W.findIn K (.ref C) "__getattribute__" = some (some (.builtin "BaseException.__getattribute__"))
  nga : PySem.W.findIn K (.ref C) "__getattr__" = some none
  at_ : PySem.W.findIn K (.ref C) "__class__" = some (some (.builtin "object.__class__"))
  cls : (PySem.W.clsIn K C).isSome = true
  obj : PySem.W.mroIn K C (.type "object") = some true
  base : PySem.W.subIn K (.ref C) (.type "BaseException") = some true
section
variable {prog : Program} {w : World} {A : Around} {E : Value → Shared → Prop} {h : Heap} {g : Array GenState} {d : Drawn} {t : Nat} {os : OsState} {K : PySem.W.Frag} {a C : Addr}
theorem ExcAt.type {M : Model} (x : ExcAt a C h) : PySem.W.Looks M h (typeOf (.ref a)) (.ref C) := by
  obtain ⟨oe, vs, he, hc, hd⟩ := x
  exact hc ▸ (PySem.W.Looks.ld he).andThen .now
open PySem.W Builtin Builtin.ObjectAttr Builtin.Getset_descriptor in
theorem exc_class_get {R : Result → Shared → Prop} {tp : Value} (KX : K.In h) (x : ExcAt a C h) (c : ExcCls K C) (hq : R (.ok (.ret (.ref C))) ⟨h, g, d, t, os⟩) :
    codeAny (model prog w) A (.call (.builtin "getset_descriptor.__get__") ⟨[.builtin "object.__class__", .ref a, tp], []⟩) R ⟨h, g, d, t, os⟩ := by
  have L0 := x.type (M := model prog w)
  have L1 := looks_mroIn (M := model prog w) KX c.obj
  refine codeAny_call_builtin KF.slot_gs.plain KF.entry_gs (KF.slot_gs.check _ _ _ _ _ _ _ _ KF.type_class (KF.args_gs _ _ _) ?_)
  unfold Builtin.«getset_descriptor.__get__» descrGet
  rw [dga_obj]
  refine wpAny_bind (wpAny_pure ?_)
  unfold descrGetter descrCheckInstance descrNameAndClass isInstance
  simp only [KF.owner_class]
  repeat lk
  refine ⟨Code.quiet_builtin _ (by decide +kernel), codeAny_builtin KF.entry_class ?_⟩
  unfold Builtin.«object.__class__» shownTypeOf
  repeat lk
  exact hq
open PySem.W in
theorem exc_check {M : Model} {nameV : Value} {Q : Unit → Shared → Prop} (KX : K.In h) (x : ExcAt a C h) (c : ExcCls K C) (hq : Q () ⟨h, g, d, t, os⟩) :
    wpAny M A (checkBuiltinCall "BaseException.__getattribute__" ⟨[.ref a, nameV], []⟩) Q E ⟨h, g, d, t, os⟩ := by
  have hk : builtinKind "BaseException.__getattribute__" = some .slot := by decide +kernel
  have hsplit : splitId "BaseException.__getattribute__" = some ("BaseException", "__getattribute__") := by decide +kernel
  have ha := PySem.F.args_bexc_ga (.ref a) nameV
  have L0 := x.type (M := M)
  have L1 := looks_subIn (M := M) KX c.base
  simp only [checkBuiltinCall, hk, hsplit]
  refine wpAny_bind ?_
  unfold isInstance
  refine wpAny_bind (L0.at ?_)
  refine L1.at ?_
  repeat (first | assumption | wp_step)
open PySem.W in
theorem exc_entry {tk : Tok} {Q : Fin → Shared → Prop} (KX : K.In h) (x : ExcAt a C h) (c : ExcCls K C) (hq : Q (.done (.ret (.ref C))) ⟨h, g, d, t, os⟩) :
    wpAny (model prog w) A (Builtin.«object.__getattribute__» ⟨[.ref a, .str "__class__" tk], []⟩) Q E ⟨h, g, d, t, os⟩ := by
  have hT5 : (⟨h, g, d, t, os⟩ : Shared).TypeIs (.builtin "object.__class__") "getset_descriptor" := PySem.F.typeOf_object_class
  have f5 := PySem.F.typeOf_object_class
  have f6 := PySem.F.slot_gs_get.lookup
  have f7 := PySem.F.slot_gs_set.lookup
  have L0 := x.type (M := model prog w)
  have L1 := looks_findIn (M := model prog w) KX c.at_
  repeat (any_goals (first | assumption | with_reducible refine L0.at ?_ | with_reducible refine L1.at ?_ | wp_step))
  refine exc_class_get KX x c ?_
  repeat (any_goals (first | assumption | wp_step))
open PySem.W in
theorem exc_attr {Q : Option Value → Shared → Prop} (KX : K.In h) (x : ExcAt a C h) (c : ExcCls K C) (hq : Q (some (.ref C)) ⟨h, g, d, t + 1, os⟩) :
    wpAny (model prog w) A (getAttr? (.ref a) "__class__") Q E ⟨h, g, d, t, os⟩ := by
  have f3 := PySem.F.excAttr_ValueError.ga.bind (.ref a)
  have L0 := x.type (M := model prog w)
  have L1 := looks_findIn (M := model prog w) KX c.ga
  have L2 := looks_findIn (M := model prog w) KX c.nga
  have hx2 : (Value.builtin "BaseException.__getattribute__" == Value.builtin "object.__getattribute__") = false := by decide +kernel
  have hx1 : (onTheHeap (Value.ref C) && Value.builtin "BaseException.__getattribute__" == Value.builtin "object.__getattribute__") = false := by rw [hx2]; rfl
  unfold getAttr? getAttrBy? getAttrBy
  repeat (any_goals (first | assumption | with_reducible refine L0.at ?_ | with_reducible refine L1.at ?_ | with_reducible refine L2.at ?_ | wp_step))
  refine codeAny_call_builtin PySem.F.excAttr_ValueError.ga.plain PySem.F.entry_bexc_ga (exc_check KX x c (exc_entry KX x c ?_))
  repeat (any_goals (first | assumption | wp_step))
open PySem.W in
theorem kitx_exc (c : ExcCls K C) : KitX K (.ref a) (.ref C) (ExcAt a C) where
  ty := fun _ _ _ x => x.type
  it := fun _ _ KX _ => looks_isType KX c.cls
  ne := fun h tp dd its n sl KX htp => by
    refine Bool.eq_false_iff.mpr fun q => ?_
    have e : C = tp := Value.ref.inj (beq_iff_eq.mp q)
    subst e
    have z := c.cls
    unfold PySem.W.clsIn at z
    split at z
    · rename_i c' d' cd' sl' ho
      have z := (KX _ _ ho).symm.trans htp
      cases z
    · cases z
  ca := fun {prog w A E Q s} KX x k => by obtain ⟨h, g, d, t, os⟩ := s; exact exc_attr KX x c k
end
end L2
namespace L2
open PySem PySem.Spec PyProof.Rows
/-! ### f-strings -/
abbrev TJ := Str → St → Hp → VK → Prop
/-- the parts of an f-string behind what stands already -/
def PJ (X : Cx) (es : List Expr) (t : TJ) : Prop :=
  ∀ (out : Str) (pins : List (Addr × Obj)) (s : Shared) (σ : St) (H : Hp) (Q : VK), Inv X pins σ H s → t out σ H Q → wpAny (model X.prog X.w) X.A (joinParts out (evalEach es X.env)) (EP X pins σ Q) X.xe s
section
variable {X : Cx} {e : Expr} {es : List Expr} {te : TE} {t : TJ} {pos : Pos}
def jNil : TJ := fun out _ H Q => out.length ≤ sizeLine ∧ Q (.str out) H
theorem pj_nil : PJ X [] jNil := fun out pins s σ H Q I h => joinParts_nil (show EP X pins σ Q (.str out s.toks) { s with toks := s.toks + 1 } from ⟨.str out, H, I.tok _, ⟨_, rfl⟩, h.2⟩) h.1
/-- a part whose value is a text -/
def jCons (te : TE) (t : TJ) : TJ := fun out σ H Q => te σ H fun v H1 => ∃ y, v = .str y ∧ (out ++ y).length ≤ sizeLine ∧ t (out ++ y) σ H1 Q
theorem pj_cons (he : PE X e te) (hr : PJ X es t) : PJ X (e :: es) (jCons te t) := by
  intro out pins s σ H Q I h
  refine joinParts_consE (joinParts_cons (thn (he pins s σ H _ I h) fun v s1 ⟨x, H1, I1, r1, y, ex, hz, q⟩ => ?_))
  subst ex
  obtain ⟨tk, rfl⟩ := r1
  exact ⟨hz, hr _ pins s1 σ H1 Q I1 q⟩
theorem pe_fstr {e1 e2 : Expr} {rest : List Expr} (h : PJ X (e1 :: e2 :: rest) t) : PE X (.JoinedStr (e1 :: e2 :: rest) pos) (fun σ H Q => t Str.empty σ H Q) := fun pins s σ H Q I hw => JoinedStr_many (h Str.empty pins s σ H Q I hw)
/-- {e}, an int -/
def tFmtI (te : TE) : TE := fun σ H Q => te σ H fun v H1 => ∃ i, v = .int i ∧ i.natAbs.log2 < 1920 ∧ Q (.str (toString i)) H1
theorem pe_fmtI (he : PE X e te) : PE X (.FormattedValue e (-1) none pos) (tFmtI te) := by
  intro pins s σ H Q I h
  refine FormattedValue_plain (thn (he pins s σ H _ I h) fun v s1 ⟨x, H1, I1, r1, i, ex, hi, q⟩ => ?_)
  subst ex
  obtain ⟨tk, rfl⟩ := r1
  exact formatField_int_small hi ⟨.str _, H1, I1.tok _, ⟨_, rfl⟩, q⟩
/-- {e!r}, a text -/
def tFmtR (te : TE) : TE := fun σ H Q => te σ H fun v H1 => ∃ y, v = .str y ∧ (reprText y).length ≤ sizeLine ∧ Q (.str (reprText y)) H1
theorem pe_fmtR (he : PE X e te) : PE X (.FormattedValue e 114 none pos) (tFmtR te) := by
  intro pins s σ H Q I h
  refine wpAny_FormattedValue_repr (thn (he pins s σ H _ I h) fun v s1 ⟨x, H1, I1, r1, y, ex, hi, q⟩ => ?_)
  subst ex
  obtain ⟨tk, rfl⟩ := r1
  refine pyReprObj_str ?_ hi
  exact formatField_str (fun t' tk => ⟨.str _, H1, (I1.tok _).tok _, ⟨_, rfl⟩, q⟩) hi
theorem log_lt {i : Int} {n : Nat} (h : i.natAbs < 2 ^ n) (hn : n ≤ 1920) (h0 : 0 < n) : i.natAbs.log2 < 1920 := by
  by_cases z : i.natAbs = 0
  · rw [z]; decide
  · have := (Nat.log2_lt z).mpr h
    omega
end
end L2
namespace L2
open PySem PySem.Spec PyProof.Rows
theorem PS.nox {X : Cx} {st : Stmt} {t : TS} (h : PS X.nox st t) : PS X st t := fun pins s σ H D I hw =>
  wpAny_mono (h pins s σ H D (I.wish _) hw) (fun _ _ q => q.unwish) fun _ _ z => False.elim z
/-- no exception is wanted of a callee -/
theorem passN {X : Cx} : Passes (CX1 X.prog X.w) X E0 := fun _ _ _ _ _ _ _ h => by obtain ⟨_, _, _, _, _, _, _, _, _, q⟩ := h; exact q.elim
/-- a def of the text, with its promise -/
structure Def (P : Program) (w : World) (K : PySem.W.Frag) (mg : Str → Option Value) (base : Heap) (k : Nat) (x : Str) (ps : List Str) (sp : Sp) : Prop where
  ex : ∃ (f : Addr) (fd : FuncData), FnOk P w K mg base (CX1 P w) k f fd ps sp ∧ mg x = some (.ref f) ∧ PySem.W.keepIn K (.ref f) = true ∧ Binds K fd ps []
section
variable {P : Program} {w : World} {K : PySem.W.Frag} {mg : Str → Option Value} {base : Heap}
theorem Def.mono {j k : Nat} {x : Str} {ps : List Str} {sp : Sp} (D : Def P w K mg base j x ps sp) (h : j ≤ k) : Def P w K mg base k x ps sp := let ⟨f, fd, a, r⟩ := D.ex; ⟨f, fd, a.mono h, r⟩
/-- where a def stands behind the top -/
structure Site (K : PySem.W.Frag) (mg : Str → Option Value) (x : Str) (st : Stmt) : Prop where
  ex : ∃ (f : Addr) (fd : FuncData), Fun K x x st f fd ∧ mg x = some (.ref f)
theorem Site.mk' {h : Heap} {x : Str} {st : Stmt} {f : Addr} {oc : Value} {od an : Option Addr} {osl : Array (Option Value)} {kV doc pm cdv ct : Value} (KX : K.In h) (G : h.Ns mainGlobals mg)
    (a : PySem.W.nsIn K mainGlobals x = some (some (.ref f))) (l : K.lookup f = some ⟨oc, od, .func (PySem.W.fnOf x x (defArgs st) (defBody st) (defScope st) .none kV doc pm an cdv ct), osl⟩)
    (c : PySem.W.codeIn K cdv x = true) (k : PySem.W.keepIn K (.ref f) = true) : Site K mg x st := ⟨f, _, fun_mk l c k, PySem.W.mg_of KX G a⟩
abbrev cx1 (P : Program) (w : World) (K : PySem.W.Frag) (mg : Str → Option Value) (base : Heap) (N : List Str) (x : Str) (st : Stmt) (f : Addr) (cdv : Value) (A : Around) (outer : List Env) (s : Shared) (H : Hp) (E : XK) : Cx :=
  cxOf (CX1 P w) P w K mg base N x (defScope st) f cdv A outer s H E
theorem cx1_body {N : List Str} {x : Str} {st : Stmt} {f : Addr} {cdv : Value} {A : Around} {outer : List Env} {s : Shared} {H : Hp} {E : XK} : Body (cx1 P w K mg base N x st f cdv A outer s H E) E := ⟨rfl, rfl, rfl, rfl⟩
/-- THE RULE for a def -/
theorem Site.def {x : Str} {st : Stmt} {N ps : List Str} {k : Nat} {sp : Sp} (F : Site K mg x st) (S : FnScope N ps (defScope st))
    (hb : ∀ (kV doc pm : Value) (an : Option Addr) (cdv ct : Value) (us : List Value), us.length = ps.length → bindArgs (PySem.W.fnOf x x (defArgs st) (defBody st) (defScope st) .none kV doc pm an cdv ct) ⟨us, []⟩ = pure (ps.zip us))
    (len : ∀ vs H Q E, sp vs H Q E → vs.length = ps.length)
    (hbody : ∀ (f : Addr) (cdv : Value) (A : Around) (outer : List Env) (s : Shared) (H : Hp) (vs : List V) (Q : VK) (E : XK), Room k (A.deeper (envOfC x (defScope st) s.heap.objs.size f cdv)) → sp vs H Q E →
      ∃ t, PSs (cx1 P w K mg base N x st f cdv A outer s H E) (defBody st) t ∧ t { nx := fun _ H' => Q .non H', rt := Q } (start N vs) H) : Def P w K mg base (k + 1) x ps sp := by
  obtain ⟨f, fd, F1, hm⟩ := F.ex
  have b := F1.binds hb
  have kp := F1.kp
  obtain ⟨oc, od, kV, doc, pm, an, cdv, ct, osl, rfl, lk, hcd⟩ := F1.ex
  exact ⟨f, _, fn_of lk hcd S len fun A outer s H vs Q E hr hsp => hbody f cdv A outer s H vs Q E hr hsp, hm, kp, b⟩
end
section
variable {X : Cx} {k : Nat} {ps : List Str} {sp : Sp} {E : XK} {x : Str} {p pos : Pos} {e : Expr} {es : List Expr} {t : TA}
/-- f(e, ..) of a def of the text -/
theorem pe_def (D : Def X.prog X.w X.K X.mg X.base k x ps sp) (hr : Room k X.A) (hx : Passes (CX1 X.prog X.w) X E) (ha : PA X (e :: es) t) (hg : Gl X x := by rfl) (hdb : (x == ("__debug__" : Str)) = false := by decide)
    (he : starEach (e :: es) X.env = (false, eval e X.env) :: starEach es X.env := by rfl) (hpl : (backTo pos (starEach es X.env)).any (·.1) = false := by rfl) :
    PE X (.Call (.Name x p) (e :: es) [] pos) (tCall sp [] E t) := by
  obtain ⟨f, fd, F, hm, hk, hb⟩ := D.ex
  exact pe_call F hr hg hm hk hb .nil hx ha hdb he hpl
end
end L2
namespace L2
open PySem PySem.Spec PyProof.Rows
section
variable {X : Cx}
/-! ### xs + ys of lists that are read -/
def rCatS (K : PySem.W.Frag) : R2 := fun x y H Q => ∃ l b xs zs, x = .ref l ∧ y = .ref b ∧ SqL K H l xs ∧ SqL K H b zs ∧ xs.length + zs.length ≤ sizeLine ∧ ∀ p, H p = none → Q (.ref p) (upd H p (.lst (xs ++ zs)))
theorem op_catS : OpR X (binaryOp .Add) (rCatS X.K) := by
  intro pins s σ H x y v u Q I rx ry h
  obtain ⟨l, b, xs, zs, rfl, rfl, hH, hB, hz, q⟩ := h
  cases rx
  cases ry
  obtain ⟨its, r, pl, _⟩ := I.list hH
  obtain ⟨its2, r2, pl2, _⟩ := I.list hB
  obtain ⟨⟨cls, dd, data, sl⟩, ho, hc, n, hd⟩ := id pl.isList
  obtain ⟨⟨cls2, dd2, data2, sl2⟩, ho2, hc2, n2, hd2⟩ := id pl2.isList
  simp only at hc hd hc2 hd2
  subst hc hd hc2 hd2
  have e : its.toArray ++ its2.toArray = (its ++ its2).toArray := by simp
  have hsz : its.toArray.size + its2.toArray.size ≤ sizeLine := by
    rw [List.size_toArray, List.size_toArray, ← r.length, ← r2.length]; exact hz
  refine concat_meets ⟨_, ho, rfl⟩ ⟨_, ho2, rfl⟩ noFill_list_add seq_list_add PySem.F.slot_list_add PySem.F.entry_list_add (PySem.F.args_list_add_2 _ _) (list_addW l b its.toArray its2.toArray n n2 dd dd2 sl sl2 hsz) ⟨ho, ho2, ?_⟩
  rw [e]
  exact ⟨.ref _, _, I.lnew (t' := s.toks) (r.append r2) (by rw [List.length_append]; exact hz), rfl, q _ I.fresh⟩
/-! ### isinstance -/
/-- isinstance(x, C): C a built-in class or one's own -/
def clsV : V → Value → Prop
  | .ty n, c => c = .type n
  | .ref a, c => c = .ref a
  | _, _ => False
theorem clsV_rel {v : V} {c u : Value} (h : clsV v c) (r : RelV v u) : u = c := by
  cases v with
  | ty n => exact (show u = Value.type n from r).trans (show c = Value.type n from h).symm
  | ref a => exact (show u = Value.ref a from r).trans (show c = Value.ref a from h).symm
  | _ => exact h.elim
/-- what isinstance may be asked of: TyOf's, or an exception of one's own -/
inductive TyX (K : PySem.W.Frag) (H : Hp) : V → Value → Prop where
  | of {x : V} {t : Value} : TyOf K H x t → TyX K H x t
  | exc {a C : Addr} : H a = some (.ext (ExcAt a C)) → ExcCls K C → TyX K H (.ref a) (.ref C)
def rIsi (K : PySem.W.Frag) : List V → Hp → VK → Prop := fun xs H Q => ∃ x y t c b, xs = [x, y] ∧ clsV y c ∧ TyX K H x t ∧ PySem.W.kitOne K t c = some b ∧ Q (.bl b) H
theorem call_isi : CallR X (.builtin "isinstance") (rIsi X.K) := by
  intro pins s σ H vs us Q I rv h
  obtain ⟨x, y, t, c, b, rfl, hc, ty, e, q⟩ := h
  obtain ⟨u, v, rfl, ru, rw'⟩ := rv.two
  obtain rfl := clsV_rel hc rw'
  cases ty with
  | of ty => exact isinst_ok I ru ty e fun tk => ⟨.bl b, H, I.tok _, rfl, q⟩
  | exc ex ec =>
    cases ru
    exact PySem.W.kia_one (kitx_exc ec) I.kIn (I.hok _ _ ex).1 e (fun z => nomatch z) fun tk => ⟨.bl b, H, I.tok _, rfl, q⟩
end
end L2
namespace L2
open PySem PySem.Spec PyProof.Rows
/-- isinstance(..), the written part named: for a suite whose reading may not name its exception -/
theorem pe_isi {X : Cx} (K : PySem.W.Frag) {e1 e2 : Expr} {t : TA} {p pos : Pos} (hm : X.mg "isinstance" = none) (ha : PA X [e1, e2] t) (hK : X.K = K := by rfl) (hg : Gl X "isinstance" := by rfl)
    (he : starEach [e1, e2] X.env = (false, eval e1 X.env) :: starEach [e2] X.env := by rfl) (hpl : (backTo pos (starEach [e2] X.env)).any (·.1) = false := by rfl) :
    PE X (.Call (.Name "isinstance" p) [e1, e2] [] pos) (tCB (rIsi K) t) := by
  subst hK
  exact pe_callB call_isi hg hm boot_isinstance ha (by decide) (by decide) he hpl
theorem boot_ValueError : bootBuiltins "ValueError" = some (.type "ValueError") := by decide +kernel
end L2
namespace L2
open PySem PySem.Spec PyProof.Rows
/-- law's promise: a list of at most 63 ints is handed in, True comes out -/
def spLaw (K : PySem.W.Frag) : Sp := fun vs H Q _ => ∃ (a : Addr) (ns : List Int), vs = [.ref a] ∧ SqL K H a (ns.map V.int) ∧ ns.length ≤ 63 ∧ ∀ H', Q (.bl true) H'
section
variable {P : Program} {w : World} {K : PySem.W.Frag} {mg : Str → Option Value} {base : Heap}
theorem Fun.ok1 {x : Str} {st : Stmt} {f : Addr} {fd : FuncData} {N ps : List Str} {k : Nat} {sp : Sp} (F : Fun K x x st f fd) (S : FnScope N ps (defScope st)) (len : ∀ vs H Q E, sp vs H Q E → vs.length = ps.length)
    (hbody : ∀ (f : Addr) (cdv : Value) (A : Around) (outer : List Env) (s : Shared) (H : Hp) (vs : List V) (Q : VK) (E : XK), Room k (A.deeper (envOfC x (defScope st) s.heap.objs.size f cdv)) → sp vs H Q E →
      ∃ t, PSs (cx1 P w K mg base N x st f cdv A outer s H E) (defBody st) t ∧ t { nx := fun _ H' => Q .non H', rt := Q } (start N vs) H) : FnOk P w K mg base (CX1 P w) (k + 1) f fd ps sp := by
  obtain ⟨oc, od, kV, doc, pm, an, cdv, ct, osl, rfl, lk, hcd⟩ := F.ex
  exact fn_of lk hcd S len fun A outer s H vs Q E hr hsp => hbody f cdv A outer s H vs Q E hr hsp
theorem law_site {st : Stmt} {fa : Addr} {k : Nat} (S : Site K mg "law" st)
    (hb : ∀ (kV doc pm : Value) (an : Option Addr) (cdv ct : Value) (us : List Value), us.length = 1 → bindArgs (PySem.W.fnOf "law" "law" (defArgs st) (defBody st) (defScope st) .none kV doc pm an cdv ct) ⟨us, []⟩ = pure ((["script"] : List Str).zip us))
    (hmg : mg "law" = some (.ref fa)) (hF : ∀ (f : Addr) (fd : FuncData) (base : Heap), Fun K "law" "law" st f fd → FnOk P w K mg base (CX1 P w) k f fd ["script"] (spLaw K)) :
    ∃ fd : FuncData, (∀ (s : Shared) (u : Value), BindsTo s fd ⟨[u], []⟩ [("script", u)]) ∧ ∀ base : Heap, K.In base → base.Ns mainGlobals mg → FnOk P w K mg base (CX1 P w) k fa fd ["script"] (spLaw K) := by
  obtain ⟨f, fd, F, hm⟩ := S.ex
  rw [hmg] at hm
  cases hm
  refine ⟨fd, ?_, fun base _ _ => hF fa fd base F⟩
  obtain ⟨oc, od, kV, doc, pm, an, cdv, ct, osl, rfl, lk, hcd⟩ := F.ex
  exact fun s u => .of_eq (hb kV doc pm an cdv ct [u] rfl)
end
theorem walk_ofS {l : PySem.W.OpenLaw} {k : Nat} {q : Program} {loose : List Str} {XP : (Str → Option Value) → Heap → Prop} {YP : World → Heap → Prop} {d : DefRec} {K : Params → PySem.W.Frag}
    (hr : Room k callerA) (hn : l.most = some 63) (hdf : d.params.defaults = [])
    (hY : ∀ (w : World) (h : Heap), YP w h → (K w.params).In h)
    (F : ∀ (w : World) (mg : Str → Option Value) (fa : Addr) (h : Heap), (K w.params).In h → h.Ns mainGlobals mg → mg d.name = some (.ref fa) →
      ∃ fd : FuncData, (∀ (s : Shared) (u : Value), BindsTo s fd ⟨[u], []⟩ [("script", u)]) ∧
        ∀ base : Heap, (K w.params).In base → base.Ns mainGlobals mg → FnOk l.prog w (K w.params) mg base (CX1 l.prog w) k fa fd ["script"] (spLaw (K w.params))) :
    PySem.W.WalkO q loose XP YP l.row.toRowW d [] (fun f vs => PySem.call f vs) :=
  walk_of (n := 63) (k := k) (x := "script") (CX := fun w => CX1 l.prog w) (sp := fun w => spLaw (K w.params)) hn (by decide) hdf hr hY F (fun _ _ a ns hl _ hS => ⟨a, ns, rfl, hS, hl, fun _ => rfl⟩)
    fun _ _ _ _ _ h => by obtain ⟨_, _, _, _, _, _, _, _, _, q⟩ := h; exact q.elim
/-! ### globals -/
theorem pe_gint {X : Cx} {x : Str} {n : Int} {pos : Pos} (h : ∃ tk, X.mg x = some (.int n tk)) (hg : Gl X x := by rfl) (hd : (x == ("__debug__" : Str)) = false := by decide) : PE X (.Name x pos) (tC (.int n)) := by
  obtain ⟨tk, e⟩ := h
  exact pe_glob hg e ⟨tk, rfl⟩ hd
theorem pe_gstr {X : Cx} {x n : Str} {pos : Pos} (h : ∃ tk, X.mg x = some (.str n tk)) (hg : Gl X x := by rfl) (hd : (x == ("__debug__" : Str)) = false := by decide) : PE X (.Name x pos) (tC (.str n)) := by
  obtain ⟨tk, e⟩ := h
  exact pe_glob hg e ⟨tk, rfl⟩ hd
end L2
namespace L2
open PySem
theorem iteN {p A B : Prop} [Decidable p] (hp : ¬ p) (h : B) : if decide p = true then A else B := by rw [decide_eq_false hp]; exact iteF h
theorem iteY {p A B : Prop} [Decidable p] (hp : p) (h : A) : if decide p = true then A else B := by rw [decide_eq_true hp]; exact iteT h
theorem iteNN {p A B : Prop} [Decidable p] (hp : p) (h : B) : if (!decide p) = true then A else B := by rw [decide_eq_true hp]; exact iteF h
theorem iteNY {p A B : Prop} [Decidable p] (hp : ¬ p) (h : A) : if (!decide p) = true then A else B := by rw [decide_eq_false hp]; exact iteT h
theorem small_abs {n : Int} (h : -1000 ≤ n) (h2 : n ≤ 1000) : n.natAbs < 2 ^ 1000 := by
  have : n.natAbs ≤ 1000 := by omega
  exact Nat.lt_of_le_of_lt this (by decide)
theorem far_abs {n : Int} (h : -(10 ^ 60) ≤ n) (h2 : n ≤ 10 ^ 60) : n.natAbs < 2 ^ 1000 := by
  have : n.natAbs ≤ 10 ^ 60 := by omega
  exact Nat.lt_of_le_of_lt this (by decide)
/-- one more object -/
theorem Same.put {H H' : Hp} {p : Addr} {o : HO} (s : Same H H') (hp : H p = none) : Same H (upd H' p o) := fun b u e => by rw [upd_ne (ne_of_none e hp)]; exact s b u e
theorem Same.new {H H' : Hp} {p : Addr} {o : HO} (s : Same H H') (hp : H' p = none) : Same H (upd H' p o) := s.put (s.free hp)
end L2
namespace L2
open PySem
theorem at4 (c a0 a1 a2 a3 : Int) : ∃ v, atI [V.int a0, V.int a1, V.int a2, V.int a3] (c % 4) = some (V.int v) ∧ (v = a0 ∨ v = a1 ∨ v = a2 ∨ v = a3) := by
  have h : c % 4 = 0 ∨ c % 4 = 1 ∨ c % 4 = 2 ∨ c % 4 = 3 := by omega
  rcases h with h | h | h | h <;> rw [h]
  · exact ⟨a0, rfl, .inl rfl⟩
  · exact ⟨a1, rfl, .inr (.inl rfl)⟩
  · exact ⟨a2, rfl, .inr (.inr (.inl rfl))⟩
  · exact ⟨a3, rfl, .inr (.inr (.inr rfl))⟩
end L2
namespace L2
open PySem PySem.Spec PyProof.Rows
/-! ### a loop whose body may raise -/
theorem own1 {X : Cx} {E : XK} (Bd : Body X E) : PassesOwn (model X.prog X.w) X.A X.env X.xe := by
  rw [Bd.xe]
  exact PassesOwn.leaving
/-! ### lists compared -/
/-- alike, lists within lists to the depth n -/
inductive Alike (K : PySem.W.Frag) (H : Hp) : Nat → V → V → Prop where
  | int {n : Nat} (i : Int) : Alike K H n (.int i) (.int i)
  | bl {n : Nat} (i : Bool) : Alike K H n (.bl i) (.bl i)
  | str {n : Nat} (i : Str) : Alike K H n (.str i) (.str i)
  | non {n : Nat} : Alike K H n .non .non
  | lst {n : Nat} {a b : Addr} {xs ys : List V} (ha : SqL K H a xs) (hb : SqL K H b ys) (hl : xs.length = ys.length) (h : ∀ (j : Nat) (x y : V), xs[j]? = some x → ys[j]? = some y → Alike K H n x y) : Alike K H (n + 1) (.ref a) (.ref b)
section
variable {X : Cx} {pins : List (Addr × Obj)} {σ : St} {H : Hp} {s : Shared}
theorem rel_at {xs : List V} {its : List Value} (r : Vals xs its) (j : Nat) (h : j < its.toArray.size) : ∃ x, xs[j]? = some x ∧ RelV x its.toArray[j] := by
  have hj : j < its.length := by simpa using h
  have hl := r.length
  have hx : xs[j]? = some xs[j] := by simp [show j < xs.length by omega]
  obtain ⟨u, hu, ru⟩ := r.get hx
  refine ⟨_, hx, ?_⟩
  have e : its.toArray[j] = u := by
    have := hu
    rw [List.getElem?_eq_getElem hj] at this
    simpa using Option.some.inj this
  rw [e]
  exact ru
end
section
variable {X : Cx}
theorem hu16 {A : Around} {k : Nat} (hr : Room k A) : A.units + 16 < cLine := by have := hr.un; omega
/-! ### all([..]) of bools -/
theorem call_all : CallR X (.builtin "all") (fun xs H Q => ∃ (p : Addr) (bs : List Bool), X.calm = true ∧ xs = [.ref p] ∧ SqL X.K H p (bs.map V.bl) ∧ Q (.bl (bs.all id)) H) := by
  intro pins s σ H xs us Q I r h
  obtain ⟨p, bs, hc, rfl, hq, q⟩ := h
  obtain ⟨u, rfl, rx⟩ := vals1 r
  cases rx
  obtain ⟨its, r1, p1, _⟩ := I.list hq
  have l1 := r1.length
  rw [List.length_map] at l1
  refine call_all_walk (wpAny_pyIter_list p1.isList ?_)
  have hne : p ≠ s.heap.objs.size := by
    obtain ⟨o, n, ho, _⟩ := p1
    exact Nat.ne_of_lt (Heap.lt_size ho)
  refine ⟨_, _, _, its.toArray.size, _, _, fun i => bs.getD i true, rfl, Walks.list (A := X.A.in1) (I.ok.hd hc) s.heap.objs.size p hne its.toArray, ?_, ?_, fun h' tk kp => ?_⟩
  · exact ⟨⟨_, Heap.get?_push_size _ rfl, rfl, rfl⟩, p1.isList.at fun o e => Heap.get?_push_of_some _ e⟩
  · intro i v s' Q' E' hv hQ
    have hi : i < its.length := by
      have := hv
      simp only [List.getElem?_toArray] at this
      exact (List.getElem?_eq_some_iff.mp this).1
    have hb : (bs.map V.bl)[i]? = some (V.bl bs[i]) := by simp [show i < bs.length by omega]
    obtain ⟨u, hu, ru⟩ := r1.get hb
    have e : u = v := by
      simp only [List.getElem?_toArray] at hv
      rw [hu] at hv
      exact Option.some.inj hv
    subst e
    cases ru
    refine wpAny_truthy_bool ?_
    have e2 : bs.getD i true = bs[i] := by simp [List.getD, show i < bs.length by omega]
    rw [← e2]
    exact hQ
  · have e : (List.range its.toArray.size).all (fun i => bs.getD i true) = bs.all id := by
      have hz : its.toArray.size = bs.length := by simp; omega
      rw [hz, Bool.eq_iff_iff]
      simp only [List.all_eq_true, List.mem_range, id]
      constructor
      · intro h b hb
        obtain ⟨n, hn, rfl⟩ := List.getElem_of_mem hb
        have := h n hn
        simpa [List.getD, hn] using this
      · intro h i hi
        have := h bs[i] (List.getElem_mem hi)
        simpa [List.getD, hi] using this
    rw [e]
    exact ⟨.bl (bs.all id), H, I.kept (t' := tk) fun b o eb => kp b o (by
      intro z
      have hb : b = s.heap.objs.size := by simpa using z
      exact absurd (Heap.lt_size eb) (by rw [hb]; exact Nat.lt_irrefl _)) (Heap.get?_push_of_some _ eb), rfl, q⟩
end
end L2
namespace L2
open PySem PySem.Spec PyProof.Rows
/-! ### list(x) of an iterator whose length is asked for in silence -/
section
variable {prog : Program} {w : World} {A : Around} {s : Shared} {R : Result → Shared → Prop} {I S : Addr} {fp wr : List Addr} {G : Array GenState → Array GenState → Prop} {n : Nat} {P : Nat → Value → Prop} {St : Nat → Shared → Prop} {T : String}
theorem ext_walk (W : WalksS prog w A.in1 I fp wr G n P St) (hT : ∀ i s, St i s → s.TypeIs (.ref I) T) (t1 : (Value.type T == Value.type "list") = false) (t2 : (Value.type T == Value.type "tuple") = false)
    (hh : ∀ (s : Shared) (Q : Bool → Shared → Prop) (E : Value → Shared → Prop), St 0 s → Q false s → wpAny (model prog w) A.in1 (Builtin.List.listLengthHint (.ref I)) Q E s)
    (res : Value) (c0 : Nat) (hst : St 0 s) (hSf : S ∉ fp) (hI : I ∈ fp) (hS : s.heap.get? S = some { cls := .type "list", data := .seq #[] c0 }) (hn : n ≤ sizeLine)
    (hR : ∀ s' acc' c', Moved (S :: wr) G s s' → s'.heap.get? S = some { cls := .type "list", dict := none, data := .seq acc' c', slots := #[] } → ItemsOf P acc' n → R (.ok (.ret res)) s') :
    wpAny (model prog w) A.in1 (Builtin.List.listExtendWith (.ref S) (.ref I) res)
      (fun fin s' => match fin with | .done f => R (.ok f) s' | .again c' => c'.quiet = true ∧ codeAny (model prog w) A c' R s') (fun e s' => R (.error e) s') s := by
  have ne : S ≠ I := fun e => hSf (by rw [e]; exact hI)
  have h1 : Builtin.List.listSameRef (.ref S) (.ref I) = false := by simp [Builtin.List.listSameRef, ne]
  unfold Builtin.List.listExtendWith
  refine wpAny_bind (wpAny_typeOf (hT 0 s hst) ?_)
  simp only [h1, t1, t2, Bool.or_false, Bool.false_eq_true, if_false]
  refine wpAny_bind (W.self 0 s _ _ hst (wpAny_bind (wpAny_holding (hh s _ _ hst ?_))))
  refine wpAny_ite_split (fun _ => ?_) (fun _ => ?_)
  · refine wpAny_bind (wpAny_rule (wpAny_bind ?_))
    show wpAny _ A.in1 (updateSeq S (·.push .none) >>= fun _ => updateSeq S (·.pop)) _ _ s
    refine wpAny_bind (wpAny_updateSeq hS rfl ?_)
    have hS2 := Heap.get?_update_self (Obj.mapSeq (·.push Value.none)) hS rfl
    refine wpAny_updateSeq (hz := by seq_fits) hS2 rfl ?_
    have hS3 := Heap.get?_update_self (Obj.mapSeq (·.pop)) hS2 rfl
    have kp : ∀ b o, b ≠ S → s.heap.get? b = some o → ((s.heap.update S (Obj.mapSeq (·.push Value.none))).update S (Obj.mapSeq (·.pop))).get? b = some o := fun b o hb e => by
      rw [Heap.get?_update_other _ _ (Ne.symm hb), Heap.get?_update_other _ _ (Ne.symm hb)]; exact e
    exact wpAny_pure ⟨plainId_quiet F.plain_extend_loop _, codeAny_extend_loopS W hn S hSf res n 0 _ _ _ rfl (Nat.zero_le n) (W.frame 0 s _ s.toks hst (Nat.le_refl _) fun b hb o e => kp b o (fun z => hSf (by rw [← z]; exact hb)) e) hS3 (ItemsOf.nil P)
      fun s' acc' c' hm hS' hacc => hR s' acc' c' (Moved.trans W.gtrans ((Moved.refl W.grefl).then_heap (Nat.le_refl _) fun b o hb e => kp b o (fun z => hb (by rw [z]; exact List.mem_cons_self)) e) hm) hS' hacc⟩
  · exact wpAny_pure ⟨plainId_quiet F.plain_extend_loop _, codeAny_extend_loopS W hn S hSf res n 0 s #[] c0 rfl (Nat.zero_le n) hst hS (ItemsOf.nil P) fun s' acc' c' hm hS' hacc => hR s' acc' c' hm hS' hacc⟩
theorem list_walk {E : Value → Shared → Prop} {Q : Value → Shared → Prop} (W : WalksS prog w A.in1.in1 I fp wr G n P St) (hT : ∀ i s, St i s → s.TypeIs (.ref I) T) (t1 : (Value.type T == Value.type "list") = false) (t2 : (Value.type T == Value.type "tuple") = false)
    (hh : ∀ (s : Shared) (Q : Bool → Shared → Prop) (E : Value → Shared → Prop), St 0 s → Q false s → wpAny (model prog w) A.in1.in1 (Builtin.List.listLengthHint (.ref I)) Q E s)
    (hst : St 0 s) (hfp : ∀ b ∈ fp, b < s.heap.objs.size) (hI : I ∈ fp) (hn : n ≤ sizeLine)
    (hQ : ∀ s' acc' c', Moved (s.heap.objs.size :: wr) G { s with heap := s.heap.push { cls := .type "list", data := .seq #[] } } s' →
      s'.heap.get? s.heap.objs.size = some { cls := .type "list", dict := none, data := .seq acc' c', slots := #[] } → ItemsOf P acc' n → Q (.ref s.heap.objs.size) s') :
    wpAny (model prog w) A (call (.type "list") [.ref I]) Q E s := by
  have nf : s.heap.objs.size ∉ fp := fun z => absurd (hfp _ z) (Nat.lt_irrefl _)
  refine callType_codes (Q₁ := fun obj z => obj = .ref s.heap.objs.size ∧ z = { s with heap := s.heap.push { cls := .type "list", data := .seq #[] } }) F.called_list (F.typeCall_list_1 _) F.entry_list_init (code_list_new _ ⟨rfl, rfl⟩) fun obj z hz => ?_
  obtain ⟨rfl, rfl⟩ := hz
  have hS : (s.heap.push { cls := .type "list", data := .seq #[] }).get? s.heap.objs.size = some { cls := .type "list", data := .seq #[] } := Heap.get?_push_size _ rfl
  refine ⟨⟨_, hS, rfl⟩, F.args_list_init_2 _ _, ?_⟩
  have hst1 := W.frame 0 s (s.heap.push { cls := .type "list", data := .seq #[] }) s.toks hst (Nat.le_refl _) fun b _ o e => Heap.get?_push_of_some _ e
  show wpAny _ A.in1.in1 (do let old ← Builtin.List.listItems (.ref s.heap.objs.size); Builtin.List.listUpdate (.ref s.heap.objs.size) (fun _ => #[]); letGo old.toList.reverse; Builtin.List.listExtendWith (.ref s.heap.objs.size) (.ref I) .none) _ _ _
  refine wpAny_bind ?_
  unfold Builtin.List.listItems
  refine wpAny_bind (wpAny_seqItems hS rfl (wpAny_pure (wpAny_bind (wpAny_updateSeq hS rfl ?_))))
  have hS2 := Heap.get?_update_self (Obj.mapSeq (fun _ => (#[] : Array Value))) hS rfl
  have kp : ∀ b o, b ≠ s.heap.objs.size → (s.heap.push { cls := .type "list", data := .seq #[] }).get? b = some o → ((s.heap.push { cls := .type "list", data := .seq #[] }).update s.heap.objs.size (Obj.mapSeq (fun _ => (#[] : Array Value)))).get? b = some o :=
    fun b o hb e => (Heap.get?_update_other _ _ (Ne.symm hb)).trans e
  refine wpAny_bind (wpAny_letGo ?_)
  refine ext_walk W hT t1 t2 hh .none _ (W.frame 0 _ _ s.toks hst1 (Nat.le_refl _) fun b hb o e => kp b o (fun z => nf (by rw [← z]; exact hb)) e) nf hI hS2 hn fun s' acc' c' hm hS' hacc => ?_
  exact ⟨rfl, hQ s' acc' c' (Moved.trans W.gtrans ((Moved.refl W.grefl).then_heap (Nat.le_refl _) fun b o hb e => kp b o (fun z => hb (by rw [z]; exact List.mem_cons_self)) e) hm) hS' hacc⟩
end
/-! ### list(reversed(xs)) -/
theorem rev_nolen : typeLookup (.type "list_reverseiterator") "__len__" = pure none := by rw [typeLookup_type, builtinLookup_eq_fast]; kernel_rfl
theorem rev_hint : typeLookup (.type "list_reverseiterator") "__length_hint__" = pure (some (.builtin "list_reverseiterator.__length_hint__")) := by rw [typeLookup_type, builtinLookup_eq_fast]; kernel_rfl
theorem hint_rev {prog : Program} {w : World} {A : Around} {s : Shared} {E : Value → Shared → Prop} {Q : Bool → Shared → Prop} {it l : Addr} {i : Int} (hit : s.heap.IsRevIter it l i) (h : Q false s) :
    wpAny (model prog w) A (Builtin.List.listLengthHint (.ref it)) Q E s := by
  unfold Builtin.List.listLengthHint
  refine wpAny_bind (wpAny_specialOf hit.typeIs rev_nolen ?_)
  show wpAny _ A (specialOf (Value.ref it) (Str.ofString "__length_hint__") >>= _) _ _ _
  refine wpAny_bind (wpAny_specialOf hit.typeIs rev_hint ?_)
  generalize hid : ("list_reverseiterator.__length_hint__" : String) = id0
  wp_delta
  rw [show splitId id0 = some ("list_reverseiterator", "__length_hint__") from by subst hid; decide +kernel]
  subst hid
  refine wpAny_bind (wpAny_isInstance (T := "list_reverseiterator") (b := true) hit.typeIs (by rw [isSubtype_type]; kernel_rfl) ?_)
  refine wpAny_ite_split (fun z => absurd z (by decide)) (fun _ => ?_)
  refine wpAny_ite_split (fun _ => ?_) (fun z => absurd (by decide +kernel) z)
  exact wpAny_ite_split (fun z => absurd z (by decide +kernel)) (fun _ => wpAny_pure h)
section
variable {X : Cx}
def tRevL (K : PySem.W.Frag) (te : TE) : TE := fun σ H Q => te σ H fun v H1 => ∃ l xs, v = .ref l ∧ SqL K H1 l xs ∧ ∀ q, H1 q = none → Q (.ref q) (upd H1 q (.lst xs.reverse))
theorem pe_list_reversed {e : Expr} {te : TE} {p p2 pos pos2 : Pos} (hc : X.calm = true) (hml : X.mg "list" = none) (hmr : X.mg "reversed" = none) (he : PE X e te) (hgl : Gl X "list" := by rfl) (hgr : Gl X "reversed" := by rfl)
    (hs : starEach [e] X.env = [(false, eval e X.env)] := by rfl) (hs2 : starEach [Expr.Call (.Name "reversed" p2) [e] [] pos2] X.env = [(false, eval (Expr.Call (.Name "reversed" p2) [e] [] pos2) X.env)] := by rfl) :
    PE X (.Call (.Name "list" p) [.Call (.Name "reversed" p2) [e] [] pos2] [] pos) (tRevL X.K te) := by
  intro pins s σ H Q I h
  refine wpAny_Call_Name_kw (ld_blt I hgl hml boot_list ?_ (by decide) (by decide))
  refine PyProof.Rows.callWith_type1 ?_ hs2 rfl
  rw [hs2]
  show wpAny _ _ (spliced [(false, eval (Expr.Call (.Name "reversed" p2) [e] [] pos2) X.env)]) _ _ s
  refine Calls.spliced_cons (wpAny_Call_Name_kw (ld_blt I hgr hmr boot_reversed ?_ (by decide) (by decide)))
  refine PyProof.Rows.callWith_type1 ?_ hs rfl
  rw [hs]
  show wpAny _ _ (spliced [(false, eval e X.env)]) _ _ s
  refine Calls.spliced_cons (thn (he pins s σ H _ I h) fun v s1 ⟨x, H1, I1, r1, q1⟩ => Calls.spliced_nil ?_)
  obtain ⟨l, xs, rfl, hq, q⟩ := q1
  cases r1
  obtain ⟨its, rv, pl, hz⟩ := I1.list hq
  have hlen := rv.length
  refine call_reversed_list pl.isList (Calls.spliced_nil ?_)
  have hlt : l < s1.heap.objs.size := by
    obtain ⟨o, n, ho, _⟩ := pl
    exact Heap.lt_size ho
  have hlne : l ≠ s1.heap.objs.size := Nat.ne_of_lt hlt
  have W := (Walks.listRev (prog := X.prog) (w := X.w) (A := X.A.in1.in1) (I.ok.hd hc) s1.heap.objs.size l hlne its.toArray).toS
  have psz : (s1.heap.push (revObj l ((its.toArray.size : Int) - 1))).objs.size = s1.heap.objs.size + 1 := Heap.size_push ..
  have pl2 : (s1.heap.push (revObj l ((its.toArray.size : Int) - 1))).IsList l its.toArray := pl.isList.at fun o e => Heap.get?_push_of_some _ e
  refine list_walk W (T := "list_reverseiterator") (fun i s' st => st.2.1.typeIs) (by decide) (by decide) (fun s' Q' E' st hq' => hint_rev st.2.1 hq') ⟨Nat.zero_le _, ⟨_, Heap.get?_push_size _ rfl, rfl, by unfold revObj; simp⟩, pl2⟩ (fun b hb => ?_) (by simp) (by simp; omega) fun s' acc' c' hm hS' hacc => ?_
  · have hb' : b = s1.heap.objs.size ∨ b = l := by simpa using hb
    show b < (s1.heap.push (revObj l ((its.toArray.size : Int) - 1))).objs.size
    rw [psz]
    rcases hb' with rfl | rfl
    · exact Nat.lt_succ_self _
    · exact Nat.lt_succ_of_lt hlt
  · have ea : acc' = its.reverse.toArray := by
      obtain ⟨a1, a2⟩ := hacc
      apply Array.ext'
      apply List.ext_getElem?
      intro j
      by_cases hj : j < its.length
      · have hj' : j < acc'.size := by rw [a1]; simpa using hj
        have g := a2 j acc'[j] (by simp [hj'])
        have e1 : acc'.toList[j]? = some acc'[j] := by simp [hj']
        rw [e1]
        simp only [List.getElem?_toArray, List.size_toArray] at g
        show _ = its.reverse[j]?
        rw [List.getElem?_reverse hj, g]
      · have : acc'.toList[j]? = none := by simp; rw [a1]; simp; omega
        rw [this]
        simp
        omega
    subst ea
    rw [Moved.eq_with hm]
    have kp : ∀ b o, s1.heap.get? b = some o → s'.heap.get? b = some o := fun b o eb => by
      have hbl := Heap.lt_size eb
      refine hm.heap b o (fun z => ?_) (Heap.get?_push_of_some _ (Heap.get?_push_of_some _ eb))
      have z' : b = (s1.heap.push (revObj l ((its.toArray.size : Int) - 1))).objs.size ∨ b = s1.heap.objs.size := by simpa using z
      rw [psz] at z'
      rcases z' with z' | z'
      · exact absurd hbl (by rw [z']; exact Nat.not_lt.mpr (Nat.le_succ _))
      · exact absurd hbl (by rw [z']; exact Nat.lt_irrefl _)
    refine ⟨.ref _, _, I1.laid (t' := s'.toks) (o := .lst xs.reverse) (a := (s1.heap.push (revObj l ((its.toArray.size : Int) - 1))).objs.size) kp (by rw [psz]; omega) ?_, rfl, q _ (I1.hok.fresh (by rw [psz]; omega))⟩
    exact ⟨by rw [List.length_reverse]; exact hz, its.reverse, c', rv.reverse, hS'⟩
end
end L2
namespace L2
open PySem PySem.Spec PyProof.Rows
/-! ### the scope of a comprehension, looked at -/
def scopeOk (Nc : List Str) (ix : List (Option Nat)) (scope sc : Scope) (N : List Str) : Bool :=
  decide (scope.kind = .function) && decide Nc.Nodup && decide (ix.length = Nc.length) &&
  (scope.names.all fun x => decide (x.2 = .local → scope.names.lookup x.1 = some .local)) &&
  (scope.names.all fun x => decide (x.2 = .free → sc.names.lookup x.1 = some .cell ∨ sc.names.lookup x.1 = some .free)) &&
  (scope.names.all fun x => decide (x.2 = .free → (x.1, NameKind.cell) ∉ scope.names)) &&
  ((ix.zip Nc).all fun p => match p.1 with | none => true | some j => decide (N[j]? = some p.2 ∧ scope.names.lookup p.2 = some .free))
theorem cscope {X : Cx} {Nc : List Str} {ix : List (Option Nat)} {scope : Scope} (sc : Scope) (N : List Str) (hsc : X.env.scope = sc) (hN : X.N = N) (h : scopeOk Nc ix scope sc N = true) : CompScope X Nc ix scope := by
  subst hsc hN
  simp only [scopeOk, Bool.and_eq_true, decide_eq_true_eq, List.all_eq_true] at h
  obtain ⟨⟨⟨⟨⟨⟨h1, h2⟩, h3⟩, h4⟩, h5⟩, h6⟩, h7⟩ := h
  refine ⟨h1, h2, h3, h4, h5, fun x hx => h6 _ hx rfl, fun i j x e1 e2 => ?_⟩
  have hm : (some j, x) ∈ ix.zip Nc := by
    refine List.mem_iff_getElem?.mpr ⟨i, ?_⟩
    rw [List.getElem?_zip_eq_some]
    exact ⟨e1, e2⟩
  have := h7 _ hm
  simpa using this
end L2
namespace L2
open PySem PySem.Spec PyProof.Rows
/-! ### the forms of a comprehension that one uses -/
section
variable {K : PySem.W.Frag} {g : TG} {tt : TT} {te : TE} {D : Addr} {σ : St} {H : Hp} {Q : VK}
theorem lc_list {a : Addr} {xs : List V} (Pv : Nat → St → Hp → Prop) (h0 : Pv 0 σ H) (hl : ∀ i σ H, i ≤ xs.length → Pv i σ H → SqL K H a xs)
    (hs : ∀ (i : Nat) (x : V) (σ : St) (H : Hp) (N : St → Hp → Prop), (∀ σ H, Pv (i + 1) σ H → N σ H) → xs[i]? = some x → Pv i σ H → g x σ H fun σ3 H3 => tt σ3 H3 fun b H4 =>
      if b = true then te σ3 H4 fun v H5 => ∃ ys, H5 D = some (.lst ys) ∧ ys.length < sizeLine ∧ N σ3 (upd H5 D (.lst (ys ++ [v]))) else N σ3 H4)
    (hd : ∀ σ H, Pv xs.length σ H → Q (.ref D) H) :
    lcRun (Itl K a) g tt te D σ H Q := by
  refine ⟨fun i m σ H => m = xs.length - i ∧ i ≤ xs.length ∧ Pv i σ H, ⟨xs.length, by simp, Nat.zero_le _, h0⟩, ?_⟩
  rintro i m σ' H' ⟨rfl, hi, p⟩
  have q := hl i σ' H' hi p
  by_cases hlt : i < xs.length
  · refine .inr ⟨⟨xs, xs[i], q, by simp [hlt]⟩, fun x H2 y => ?_⟩
    obtain ⟨e, y⟩ := y
    subst e
    exact hs i x σ' _ (fun σ3 H3 => ∃ m', m' < xs.length - i ∧ m' = xs.length - (i + 1) ∧ i + 1 ≤ xs.length ∧ Pv (i + 1) σ3 H3) (fun σ3 H3 z => ⟨xs.length - (i + 1), by omega, rfl, hlt, z⟩) (y xs q) p
  · have e : i = xs.length := by omega
    subst e
    exact .inl ⟨⟨xs, q, Nat.le_refl _⟩, hd σ' H' p⟩
end
theorem item_of {ns : List Int} {i : Nat} {y : V} (h : (ns.map V.int)[i]? = some y) : ∃ z, ns[i]? = some z ∧ y = V.int z := by
  rw [List.getElem?_map] at h
  cases e : ns[i]? with
  | none => rw [e] at h; cases h
  | some z => rw [e] at h; exact ⟨z, rfl, (Option.some.inj h).symm⟩
theorem take_succ {α : Type} {l : List α} {i : Nat} {x : α} (h : l[i]? = some x) : l.take (i + 1) = l.take i ++ [x] := by
  rw [List.take_succ, h]; rfl
end L2
namespace L2
open PySem
end L2
namespace L2
open PySem
/-- the turn of a comprehension without a test, its target a name -/
theorem turn_do {i : Nat} {x : V} {σ : St} {H : Hp} {A B : St → Hp → Prop} (h : A (σ.set i (some x)) H) : gName i x σ H fun σ3 H3 => tYes σ3 H3 fun b H4 => if b = true then A σ3 H4 else B σ3 H4 := by
  show if true = true then A (σ.set i (some x)) H else B (σ.set i (some x)) H
  exact iteT h
end L2
namespace L2
open PySem PySem.Spec PyProof.Rows
/-! ### zip(xs, ys) walked with two names -/
section
variable {X : Cx} {pins : List (Addr × Obj)} {σ : St} {H : Hp} {s : Shared} {h' : Heap}
/-- several objects of an iterator have turned, and one may have been laid -/
theorem Inv.turnedL {ch : List Addr} {t' : Nat} (I : Inv X pins σ H s) (k : ∀ b o, b ∉ ch → s.heap.get? b = some o → h'.get? b = some o) (hf : ∀ b ∈ ch, FpOk X pins H b) : Inv X pins σ H { s with heap := h', toks := t' } := by
  have nin : ∀ b u, H b = some u → b ∉ ch := fun b u e z => by rw [(hf b z).1] at e; cases e
  refine I.call' (s' := { s with heap := h', toks := t' }) (ch := ch) rfl ⟨fun b o e _ _ hx => k b o hx e, fun b o e _ _ hx => ⟨o.slots, k b o hx e⟩, fun _ _ _ n _ => n, fun b o e hx => ⟨o, k b o hx e⟩, fun _ _ e => e, fun _ _ _ e => e, fun b ps e => ⟨#[], by rw [e]; simp⟩⟩ ?_ I.bare fun b hb => ?_
  · intro b o e
    refine (I.hok b o e).stay (fun c u hc q => k c u ?_ q) (fun _ q => q) fun _ _ q => q
    rcases hc with z | z
    · rw [z]; exact nin b o e
    · exact nin c _ z
  · obtain ⟨_, q1, _, q3, q4, q5⟩ := hf b hb
    exact ⟨q3, q1, q4, q5⟩
theorem Inv.turnedNew {ch : List Addr} {T : Addr} {o : HO} {t' : Nat} (I : Inv X pins σ H s) (k : ∀ b o, b ∉ ch → s.heap.get? b = some o → h'.get? b = some o) (hf : ∀ b ∈ ch, FpOk X pins H b) (hT : s.heap.objs.size ≤ T)
    (new : ObjOk X.prog X.w (upd H T o) h' T o) : Inv X pins σ (upd H T o) { s with heap := h', toks := t' } := by
  have nin : ∀ b u, H b = some u → b ∉ ch := fun b u e z => by rw [(hf b z).1] at e; cases e
  have hn := I.hok.fresh hT
  have old : ∀ b u, s.heap.get? b = some u → b ≠ T := fun b u e => Nat.ne_of_lt (Nat.lt_of_lt_of_le (Heap.lt_size e) hT)
  refine I.call' (s' := { s with heap := h', toks := t' }) (ch := ch) rfl ⟨fun b o e _ _ hx => k b o hx e, fun b o e _ _ hx => ⟨o.slots, k b o hx e⟩, fun b u e n _ => by rw [upd_ne (old b u e)]; exact n, fun b o e hx => ⟨o, k b o hx e⟩,
    fun b xs e => by rw [upd_ne (ne_of_none e hn)]; exact e, fun b o u e => by rw [upd_ne (ne_of_none e hn)]; exact e, fun b ps e => ⟨#[], by rw [upd_ne (ne_of_none e hn), e]; simp⟩⟩ ?_ I.bare fun b hb => ?_
  · intro b u e
    by_cases hb : b = T
    · subst hb
      rw [upd_same] at e
      cases e
      exact new
    · rw [upd_ne hb] at e
      refine (I.hok b u e).stay (fun c v hc q => k c v ?_ q) (fun c q => by rw [upd_ne (ne_of_none q hn)]; exact q) fun c xs q => by rw [upd_ne (ne_of_none q hn)]; exact q
      rcases hc with z | z
      · rw [z]; exact nin b u e
      · exact nin c _ z
  · obtain ⟨_, q1, _, q3, q4, q5⟩ := hf b hb
    exact ⟨q3, q1, q4, q5⟩
end
section
variable {X : Cx}
/-- a, b = .. -/
theorem pg_two {i j : Nat} {x y : Str} {px py pos : Pos} {k : Nat} (hc : X.calm = true) (hN : X.N.Nodup) (hi : X.N[i]? = some x) (hj : X.N[j]? = some y) (lx : Loc X.env.scope x) (ly : Loc X.env.scope y)
    (fx : X.fn x = true ∨ X.env.scope.names.lookup x = some .local := by first | exact .inl rfl | exact .inr rfl) (fy : X.fn y = true ∨ X.env.scope.names.lookup y = some .local := by first | exact .inl rfl | exact .inr rfl)
    (hs : (assignEach [.Name x px, .Name y py] X.env).map (·.2) = [assign (.Name x px) X.env, assign (.Name y py) X.env] := by rfl) (hs2 : (assignEach [.Name y py] X.env).map (·.2) = [assign (.Name y py) X.env] := by rfl) (hs0 : (assignEach [] X.env).map (·.2) = [] := by rfl)
    (hn : (assignEach [.Name x px, .Name y py] X.env).length = 2 := by rfl) (hst : (assignEach [.Name x px, .Name y py] X.env).findIdx? (·.1) = none := by rfl) :
    PG X (.Tuple [.Name x px, .Name y py] k pos) (gTup X.K 2 (gCons (gName i) (gCons (gName j) gNil))) :=
  pg_tup hc (pgs_cons (pg_name hN hi lx fx) (pgs_cons (pg_name hN hj ly fy) pgs_nil (by rw [hs2, hs0])) (by rw [hs, hs2])) hn hst
end
end L2
namespace L2
open PySem PySem.Spec PyProof.Rows
section
variable {K : PySem.W.Frag} {g : TG} {tt : TT} {te : TE} {D : Addr} {σ : St} {H : Hp} {Q : VK}
end
/-! ### sum of a list of ints -/
section
variable {X : Cx}
/-! ### xs.remove(x): the item at k is x itself, those ahead are lists of ints unlike it -/
end
end L2
namespace L2
open PySem PySem.Spec PyProof.Rows
/-! ### lists by places -/
def tabV (n : Nat) (f : Nat → V) : List V := (List.range n).map f
abbrev tabI (n : Nat) (f : Nat → Int) : List V := tabV n fun j => V.int (f j)
abbrev tabR (n : Nat) (f : Nat → Addr) : List V := tabV n fun j => V.ref (f j)
theorem tab_congr {n : Nat} {f g : Nat → V} (h : ∀ i, i < n → f i = g i) : tabV n f = tabV n g := by
  unfold tabV
  apply List.map_congr_left
  intro i hi
  exact h i (List.mem_range.mp hi)
/-- a grid of ints: m rows of n -/
def Grid (K : PySem.W.Frag) (H : Hp) (l : Addr) (m n : Nat) (a : Nat → Nat → Int) : Prop := ∃ as : Nat → Addr, SqL K H l (tabR m as) ∧ ∀ i, i < m → SqL K H (as i) (tabI n (a i))
theorem Same.grid {K : PySem.W.Frag} {H H' : Hp} {l : Addr} {m n : Nat} {a : Nat → Nat → Int} (s : Same H H') (g : Grid K H l m n a) : Grid K H' l m n a := let ⟨as, h1, h2⟩ := g; ⟨as, s.seq h1, fun i hi => s.seq (h2 i hi)⟩
theorem Grid.congr {K : PySem.W.Frag} {H : Hp} {l : Addr} {m n : Nat} {a b : Nat → Nat → Int} (g : Grid K H l m n a) (h : ∀ i j, i < m → j < n → a i j = b i j) : Grid K H l m n b := by
  obtain ⟨as, h1, h2⟩ := g
  refine ⟨as, h1, fun i hi => ?_⟩
  have e : tabI n (a i) = tabI n (b i) := tab_congr fun j hj => by rw [h i j hi hj]
  rw [← e]
  exact h2 i hi
end L2
namespace L2
open PySem PySem.Spec PyProof.Rows
section
variable {K : PySem.W.Frag} {g : TG} {tt : TT} {te : TE} {D : Addr} {σ : St} {H : Hp} {Q : VK}
end
end L2
namespace L2
open PySem
end L2
namespace L2
open PySem
theorem cut_ints (ns : List Int) (lo hi : Option Int) : ∃ as : List Int, cutV (ns.map V.int) lo hi = as.map V.int ∧ (∀ a ∈ as, a ∈ ns) ∧ as.length ≤ ns.length := by
  refine ⟨(ns.drop (HT.sIx (ns.map V.int).length 0 lo)).take (HT.sIx (ns.map V.int).length (ns.map V.int).length hi - HT.sIx (ns.map V.int).length 0 lo), ?_, fun a ha => List.mem_of_mem_drop (List.mem_of_mem_take ha), ?_⟩
  · unfold cutV
    rw [List.map_take, List.map_drop]
  · rw [List.length_take, List.length_drop]
    omega
/-- a shadow of the heap, one object more -/
theorem Same.both {B H : Hp} {p : Addr} {o : HO} (s : Same B H) (h : H p = some o) : Same (upd B p o) H := fun b u e => by
  by_cases z : b = p
  · subst z
    rw [upd_same] at e
    cases e
    exact h
  · rw [upd_ne z] at e
    exact s b u e
theorem Same.grow {B : Hp} {p : Addr} {o : HO} (h : B p = none) : Same B (upd B p o) := (Same.refl B).new h
end L2
namespace L2
end L2
namespace L2
open PySem PySem.Spec PyProof.Rows
/-- what holds behind a statement, said once for all its ways -/
def tCut (t : TS) : TS := fun D σ H => ∃ R : St → Hp → Prop, t { D with nx := R } σ H ∧ ∀ σ' H', R σ' H' → D.nx σ' H'
theorem ps_cut {X : Cx} {st : Stmt} {t : TS} (h : PS X st t) : PS X st (tCut t) := by
  intro pins s σ H D I ⟨R, h1, h2⟩
  refine wpAny_mono (h pins s σ H { D with nx := R } I h1) (fun f s' q => ?_) fun _ _ z => z
  cases f with
  | next => obtain ⟨σ', H', I', q⟩ := q; exact ⟨σ', H', I', h2 σ' H' q⟩
  | brk => exact q
  | cont => exact q
  | ret u => exact q
end L2
namespace L2
open PySem PySem.Spec PyProof.Rows
/-! ### the rules with the written part named, for blocks within which the context is bound -/
section
variable {X : Cx} (K : PySem.W.Frag)
theorem ix_listK (hK : X.K = K := by rfl) : IxR X (rIxL K) := by subst hK; exact ix_list
theorem ix_tupK (hK : X.K = K := by rfl) : IxR X (rIxT K) := by subst hK; exact ix_tup
theorem sl_listK (hK : X.K = K := by rfl) : SlR X (rSlL K) := by subst hK; exact sl_list
theorem call_lenK (hK : X.K = K := by rfl) : CallR X (.builtin "len") (fun xs H Q => ∃ p ys, xs = [.ref p] ∧ (SqL K H p ys ∨ SqT K H p ys) ∧ Q (.int ys.length) H) := by subst hK; exact call_len_seq
theorem call_listK (hK : X.K = K := by rfl) : CallR X (.type "list") (fun xs H Q => ∃ p ys, xs = [.ref p] ∧ (SqL K H p ys ∨ SqT K H p ys) ∧ ∀ l, H l = none → Q (.ref l) (upd H l (.lst ys))) := by subst hK; exact call_list_of
theorem call_allK (hc : X.calm = true) (hK : X.K = K := by rfl) : CallR X (.builtin "all") (fun xs H Q => ∃ (p : Addr) (bs : List Bool), xs = [.ref p] ∧ SqL K H p (bs.map V.bl) ∧ Q (.bl (bs.all id)) H) := by
  subst hK
  intro pins s σ H xs us Q I r ⟨p, ns, h1, h2, h3⟩
  exact call_all pins s σ H xs us Q I r ⟨p, ns, hc, h1, h2, h3⟩
theorem op_catK (hK : X.K = K := by rfl) : OpR X (binaryOp .Add) (rCatS K) := by subst hK; exact op_catS
theorem pi_listK {tg l : Expr} {tl : TE} (hl : PE X l tl) (hK : X.K = K := by rfl) : PI X tg l (iList K tl) := by subst hK; exact pi_list hl
theorem pg_twoK {i j : Nat} {x y : Str} {px py pos : Pos} {k : Nat} (hc : X.calm = true) (hN : X.N.Nodup) (hi : X.N[i]? = some x) (hj : X.N[j]? = some y) (lx : Loc X.env.scope x) (ly : Loc X.env.scope y) (hK : X.K = K := by rfl)
    (fx : X.fn x = true ∨ X.env.scope.names.lookup x = some .local := by first | exact .inl rfl | exact .inr rfl) (fy : X.fn y = true ∨ X.env.scope.names.lookup y = some .local := by first | exact .inl rfl | exact .inr rfl)
    (hs : (assignEach [.Name x px, .Name y py] X.env).map (·.2) = [assign (.Name x px) X.env, assign (.Name y py) X.env] := by rfl) (hs2 : (assignEach [.Name y py] X.env).map (·.2) = [assign (.Name y py) X.env] := by rfl) (hs0 : (assignEach [] X.env).map (·.2) = [] := by rfl)
    (hn : (assignEach [.Name x px, .Name y py] X.env).length = 2 := by rfl) (hst : (assignEach [.Name x px, .Name y py] X.env).findIdx? (·.1) = none := by rfl) :
    PG X (.Tuple [.Name x px, .Name y py] k pos) (gTup K 2 (gCons (gName i) (gCons (gName j) gNil))) := by
  subst hK
  exact pg_two hc hN hi hj lx ly fx fy hs hs2 hs0 hn hst
theorem pe_bmK {o e : Expr} {es : List Expr} {to : TE} {t : TA} {name : Str} {apos cpos : Pos} {T id : String} {r : V → List V → Hp → VK → Prop} (pa : PlainAttrs T) (slot : Slot T name id) (hty : typeOf (.builtin id) = pure (.type "method_descriptor")) (hm : MtR X id r) (ho : PE X o to) (ha : PA X (e :: es) t) (hK : X.K = K := by rfl)
    (hbase : attributeBase o name X.env (eval o X.env) = eval o X.env := by rfl)
    (hfew : ((backTo cpos (starEach (e :: es) X.env)).all (fun x => !x.1) && (backToKw cpos (keywordEach [] X.env)).all (fun x => x.1.isSome)
      && decide ((e :: es).length + ([] : List Keyword).length + (if ([] : List Keyword).isEmpty then 0 else 1) < 30)) = true := by rfl)
    (hline : (apos.endLine == cpos.line) = true := by rfl) (hs : starEach (e :: es) X.env = (false, eval e X.env) :: starEach es X.env := by rfl) (hplain : (backTo cpos (starEach es X.env)).any (·.1) = false := by rfl) :
    PE X (.Call (.Attribute o name apos) (e :: es) [] cpos) (tBM K T r to t) := by subst hK; exact pe_bm pa slot hty hm ho ha hbase hfew hline hs hplain
end
end L2
namespace L2
open PySem PySem.Spec PyProof.Rows
/-! ### two lists of ints compared, whatever they hold -/
section
variable {X : Cx}
end
/-- the turn of a comprehension with a test, its target a name -/
theorem turn_if {i : Nat} {x : V} {σ : St} {H : Hp} {tt : TT} {A B : St → Hp → Prop} (h : tt (σ.set i (some x)) H fun b H4 => if b = true then A (σ.set i (some x)) H4 else B (σ.set i (some x)) H4) : gName i x σ H fun σ3 H3 => tt σ3 H3 fun b H4 => if b = true then A σ3 H4 else B σ3 H4 := h
end L2
namespace L2
open PySem PySem.Spec PyProof.Rows
/-! ### zip of a list and a tuple, the list no longer than the tuple -/
section
variable {prog : Program} {w : World} {A : Around} {E : Value → Shared → Prop} {s : Shared}
end
section
variable {prog : Program} {w : World} {A : Around} {E : Value → Shared → Prop} {s : Shared}
end
section
variable {X : Cx}
end
section
variable {K : PySem.W.Frag} {g : TG} {tt : TT} {te : TE} {D : Addr} {σ : St} {H : Hp} {Q : VK}
end
end L2
namespace L2
open PySem
/-- a tuple that stands in the module -/
structure TupK (K : PySem.W.Frag) (a : Addr) (xs : List V) : Prop where
  ex : ∃ (o : Obj) (its : Array Value) (n : Nat), K.lookup a = some o ∧ o.cls = .type "tuple" ∧ o.data = .seq its n ∧ its.size ≤ sizeLine ∧ Vals xs its.toList
theorem TupK.sq {K : PySem.W.Frag} {a : Addr} {xs : List V} (h : TupK K a xs) (H : Hp) : SqT K H a xs := .inr h.ex
end L2
namespace L2
open PySem PySem.Spec PyProof.Rows
/-! ### enumerate(xs) walked with two names -/
def Ite (K : PySem.W.Frag) (a : Addr) : It :=
  ⟨fun i H => ∃ xs x, SqL K H a xs ∧ xs[i]? = some x,
   fun i H v H' => ∃ p x, H p = none ∧ v = .ref p ∧ H' = upd H p (.tup [.int (i : Nat), x]) ∧ ∀ xs, SqL K H a xs → xs[i]? = some x,
   fun i H => ∃ xs, SqL K H a xs ∧ xs.length ≤ i⟩
theorem turn_enum {P : Program} {w : World} {K : PySem.W.Frag} {elts : List Expr} {x1 : Nat} {pos : Pos} {e it l : Addr} (hne : e ≠ it) :
    Turn P w K (.Tuple elts x1 pos) (Ite K l) [e, it] e (fun i h => (∃ old, IsEnum h e it ((i : Nat) : Int) old) ∧ h.IsListIter it l i) where
  mem := by simp
  obj := fun i h st b hb => by
    obtain ⟨⟨old, he⟩, ⟨o1, e1, c1, d1⟩⟩ := st
    simp only [List.mem_cons, List.not_mem_nil, or_false] at hb
    rcases hb with rfl | rfl
    · exact ⟨_, he, fun v q => by cases q⟩
    · exact ⟨_, e1, fun v q => by rw [d1] at q; cases q⟩
  keep := fun i h h' st k => by
    obtain ⟨⟨old, he⟩, h1⟩ := st
    exact ⟨⟨old, k e (by simp) _ he⟩, h1.at fun o q => k it (by simp) o q⟩
  item := by
    intro X hP hw hK hc i pins s σ H E I hf st hg
    subst hP hw hK
    obtain ⟨⟨old, he⟩, h1⟩ := st
    obtain ⟨xs, x, hx, ex⟩ := hg
    obtain ⟨its, rv, p, hzx⟩ := I.list hx
    obtain ⟨u, hu, ru⟩ := rv.get ex
    refine wpAny_pyNext_enum_item he h1 p.isList (x := u) (by simpa using hu) hne fun h' a1 a2 a3 a4 kk => ⟨_, rfl, ?_⟩
    refine wpAny_letOwnedTupleGo_enum a1 fun h2' he' hs' => ?_
    have lt : ∀ {c o}, s.heap.get? c = some o → s.heap.objs.size ≠ c := fun q => Nat.ne_of_gt (Heap.lt_size q)
    have k2 : ∀ c o, c ∉ [e, it] → s.heap.get? c = some o → h2'.get? c = some o := fun c o hc q => by
      simp only [List.mem_cons, List.not_mem_nil, or_false, not_or] at hc
      exact hs'.extBut _ _ hc.1 (kk c o hc.1 hc.2 q)
    have tup : ObjOk X.prog X.w (upd H s.heap.objs.size (.tup [.int (i : Nat), x])) h2' s.heap.objs.size (.tup [.int (i : Nat), x]) :=
      ⟨by show 2 ≤ sizeLine; decide, [.int (i : Nat) s.toks, u], .cons ⟨_, rfl⟩ (.cons ru .nil), ⟨_, hs'.extBut _ _ (lt he) a3, rfl, _, rfl⟩⟩
    have hn := I.hok.fresh (Nat.le_refl s.heap.objs.size)
    have e1 : ((i : Nat) : Int) + 1 = ((i + 1 : Nat) : Int) := by omega
    rw [e1] at he'
    refine ⟨.ref s.heap.objs.size, _, I.turnedNew (t' := s.toks + 1) k2 hf (Nat.le_refl _) tup, rfl, ⟨_, x, hn, rfl, rfl, fun zs hq => by rw [I.list_inj hq hx]; exact ex⟩, ⟨⟨_, he'⟩, a2.extBut hs'.extBut (Ne.symm hne)⟩, fun c hc => ?_⟩
    have hcn : c ≠ s.heap.objs.size := by
      simp only [List.mem_cons, List.not_mem_nil, or_false] at hc
      obtain ⟨o1, q1, _⟩ := h1
      rcases hc with rfl | rfl
      · exact (lt he).symm
      · exact (lt q1).symm
    rw [upd_ne hcn]
    exact (hf c hc).1
  done := by
    intro X hP hw hK hc i pins s σ H E I hf st hg
    subst hP hw hK
    obtain ⟨⟨old, he⟩, h1⟩ := st
    obtain ⟨xs, hx, hle⟩ := hg
    obtain ⟨its, rv, p, hzx⟩ := I.list hx
    have l1' := rv.length
    refine wpAny_pyNext_enum_end (I.ok.hd hc) he h1 p.isList (by simp; omega) fun h' kk => ⟨rfl, ?_⟩
    refine I.turnedL (t' := s.toks) (ch := [e, it]) (fun c o hc q => ?_) hf
    simp only [List.mem_cons, List.not_mem_nil, or_false, not_or] at hc
    exact kk c o hc.2 q
  self := fun _ _ _ _ _ ⟨⟨old, he⟩, _⟩ h => wpAny_pyIter_enum he h
section
variable {X : Cx}
def iEnum (K : PySem.W.Frag) (ta : TA) : TI := fun σ H R => ta σ H fun vs H1 => ∃ a xs, vs = [.ref a] ∧ H1 a = some (.lst xs) ∧ R (Ite K a) H1
theorem pi_enumerateK (K : PySem.W.Frag) {e1 : Expr} {ta : TA} {p pos tpos : Pos} {elts : List Expr} {x1 : Nat} (hg : Gl X "enumerate") (hm : X.mg "enumerate" = none) (ha : PA X [e1] ta) (hK : X.K = K := by rfl) (hs : starEach [e1] X.env = [(false, eval e1 X.env)] := by rfl) (hpl : (backTo pos (starEach [] X.env)).any (·.1) = false := by rfl) :
    PI X (.Tuple elts x1 tpos) (.Call (.Name "enumerate" p) [e1] [] pos) (iEnum K ta) := by
  subst hK
  intro pins s σ H R I h
  refine wpAny_Call_Name_kw (ld_blt I hg hm boot_enumerate ?_ (by decide) (by decide))
  refine PyProof.Rows.callWith_type1 (thn (ha pos pins s σ H _ I h) fun us s1 ⟨vs, H1, I1, r1, q1⟩ => ?_) hs hpl
  obtain ⟨a, xs, rfl, hx, q⟩ := q1
  obtain ⟨u, rfl, ru⟩ := r1.one
  cases ru
  obtain ⟨z, its, n, rv, hl, e⟩ := I1.lstM hx
  refine call_enumerate_1 e fun h' he h1 hsz kk => ?_
  refine wpAny_pyIter_enum he ?_
  have I2 : Inv X pins σ H1 { s1 with heap := h' } := I1.kept (t' := s1.toks) fun b o q => kk b o q
  refine ⟨s1.heap.objs.size + 1, [s1.heap.objs.size + 1, s1.heap.objs.size], _, _, H1, rfl, I2, turn_enum (Nat.succ_ne_self _), ⟨⟨_, he⟩, h1⟩, fun c hc => ?_, q⟩
  have hle : s1.heap.objs.size ≤ c := by
    simp only [List.mem_cons, List.not_mem_nil, or_false] at hc
    rcases hc with rfl | rfl
    · exact Nat.le_add_right _ _
    · exact Nat.le_refl _
  exact I1.fpOk (H' := H1) hle (I1.hok.fresh hle)
end
section
variable {K : PySem.W.Frag} {g : TG} {tt : TT} {te : TE} {D : Addr} {σ : St} {H : Hp} {Q : VK}
theorem for_enum {a : Addr} {xs : List V} {tb : TS} {D : Ends} (Pv : Nat → St → Hp → Prop) (h0 : Pv 0 σ H) (hl : ∀ i σ H, i ≤ xs.length → Pv i σ H → SqL K H a xs)
    (hs : ∀ i x p σ H, xs[i]? = some x → Pv i σ H → H p = none → g (.ref p) σ (upd H p (.tup [.int (i : Nat), x])) fun σ2 H2 => tb { D with nx := Pv (i + 1), ct := Pv (i + 1), bk := D.nx } σ2 H2) (hd : ∀ σ H, Pv xs.length σ H → D.nx σ H) :
    ∃ W : Nat → Nat → St → Hp → Prop, (∃ m, W 0 m σ H) ∧ ∀ i m σ H, W i m σ H →
      ((Ite K a).stop i H ∧ D.nx σ H) ∨ ((Ite K a).go i H ∧ ∃ N : St → Hp → Prop, (∀ σ' H', N σ' H' → ∃ m', m' < m ∧ W (i + 1) m' σ' H') ∧ ∀ x H', (Ite K a).yld i H x H' → g x σ H' fun σ2 H2 => tb { D with nx := N, ct := N, bk := D.nx } σ2 H2) := by
  refine ⟨fun i m σ H => m = xs.length - i ∧ i ≤ xs.length ∧ Pv i σ H, ⟨xs.length, by simp, Nat.zero_le _, h0⟩, ?_⟩
  rintro i m σ H ⟨rfl, hi, p⟩
  have q := hl i σ H hi p
  by_cases hlt : i < xs.length
  · refine .inr ⟨⟨xs, xs[i], q, by simp [hlt]⟩, Pv (i + 1), fun σ' H' p' => ⟨xs.length - (i + 1), by omega, rfl, hlt, p'⟩, fun x H' y => ?_⟩
    obtain ⟨pp, x1, hn, rfl, rfl, ex⟩ := y
    exact hs i x1 pp σ _ (ex xs q) p hn
  · have e : i = xs.length := by omega
    subst e
    exact .inl ⟨⟨xs, q, Nat.le_refl _⟩, hd σ H p⟩
/-- a, b taken of a pair -/
theorem take_two {i j : Nat} {x y : V} {p : Addr} {A : St → Hp → Prop} (hp : SqT K H p [x, y]) (h : A ((σ.set i (some x)).set j (some y)) H) : gTup K 2 (gCons (gName i) (gCons (gName j) gNil)) (.ref p) σ H A :=
  ⟨p, [x, y], rfl, hp, rfl, x, _, rfl, y, _, rfl, rfl, h⟩
end
end L2
namespace L2
open PySem PySem.Spec PyProof.Rows
section
variable {K : PySem.W.Frag} {g : TG} {tt : TT} {te : TE} {D : Addr} {σ : St} {H : Hp} {Q : VK}
end
/-! a def that is never called with what is at hand -/
section
variable {P : Program} {w : World} {K : PySem.W.Frag} {mg : Str → Option Value} {base : Heap}
def spNo : Sp := fun _ _ _ _ => False
theorem Site.no {x : Str} {st : Stmt} {N ps : List Str} (F : Site K mg x st) (S : FnScope N ps (defScope st))
    (hb : ∀ (kV doc pm : Value) (an : Option Addr) (cdv ct : Value) (us : List Value), us.length = ps.length → bindArgs (PySem.W.fnOf x x (defArgs st) (defBody st) (defScope st) .none kV doc pm an cdv ct) ⟨us, []⟩ = pure (ps.zip us)) : Def P w K mg base 1 x ps spNo :=
  F.def S hb (fun _ _ _ _ h => h.elim) fun _ _ _ _ _ _ _ _ _ _ h => h.elim
end
end L2
namespace L2
open PySem PySem.Spec PyProof.Rows
theorem Same.tup {K : PySem.W.Frag} {H H' : Hp} {a : Addr} {xs : List V} (e : Same H H') (h : SqT K H a xs) : SqT K H' a xs := by
  rcases h with (h | ⟨o, h⟩) | h
  · exact .inl (.inl (e _ _ h))
  · exact .inl (.inr ⟨o, e _ _ h⟩)
  · exact .inr h
/-! ### what is never reached -/
/-! ### t[a:b], t + u: whichever object it is -/
section
variable {prog : Program} {w : World} {A : Around} {E : Value → Shared → Prop} {s : Shared}
theorem item_whole {t sl : Addr} {items : Array Value} {vl vu : Value} {lo hi : Option Int} {Q : Value → Shared → Prop} (ht : IsTup s.heap t items) (hs : s.heap.IsSliceOf sl vl vu .none) (pl : IsPart vl lo) (pu : IsPart vu hi)
    (h1 : HT.sIx items.size 0 lo = 0) (h2 : HT.sIx items.size items.size hi = items.size) (h : Q (.ref t) s) : wpAny (model prog w) A (getItem (.ref t) (.ref sl)) Q E s := by
  obtain ⟨os, hos, hcs, hds⟩ := id hs
  have hTs : s.TypeIs (.ref sl) "slice" := ⟨os, hos, hcs⟩
  unfold getItem
  try with_reducible refine wpAny_holding ?_
  first | refine wpAny_bind (wpAny_pure ?_) | skip
  refine wpAny_bind (wpAny_sequenceKey ht.typeIs (by decide) (wpAny_bind (wpAny_callSpecial?_slot (name := Str.ofString "__getitem__") ht.typeIs PyProof.Rows.slot_tuple_getitem (wpAny_call_entry PyProof.Rows.slot_tuple_getitem ht.typeIs PyProof.Rows.entry_tuple_getitem ?_ (PyProof.Rows.args_tuple_getitem _ _)))))
  refine (show wpAny _ _ (Builtin.Tuple.tupleItemsOf (.ref t) >>= _) _ _ s from wpAny_bind (PyProof.Rows.tupleItemsOf_ ht (wpAny_bind (wpAny_typeOf hTs ?_))))
  rw [if_pos (by decide)]
  refine wpAny_bind (HT.sliceApplied_gen hs pl pu ?_)
  rw [h1, h2, Nat.sub_zero]
  refine (show wpAny _ _ (if ((((0 : Nat) : Int) == 0) && (1 : Int) == 1 && items.size == items.size) = true then _ else _) _ _ s from ?_)
  rw [if_pos (by simp)]
  refine wpAny_bind ?_
  unfold Builtin.Tuple.tupleIsExact
  refine wpAny_bind (wpAny_typeOf ht.typeIs (wpAny_pure ?_))
  rw [if_pos (by decide)]
  first
    | exact wpAny_bind (wpAny_rule (wpAny_pure ⟨_, rfl, wpAny_pure h⟩))
    | exact wpAny_bind (wpAny_rule (wpAny_bind (wpAny_pure (wpAny_pure ⟨_, rfl, wpAny_pure h⟩))))
    | exact wpAny_bind (wpAny_bind (wpAny_rule (wpAny_pure (wpAny_pure ⟨_, rfl, wpAny_pure h⟩))))
end
section
variable {X : Cx}
def rSlA (K : PySem.W.Frag) : V → Option Int → Option Int → Hp → VK → Prop := fun x lo hi H Q => ∃ a xs, x = .ref a ∧ SqT K H a xs ∧ ∀ r H', Same H H' → SqT K H' r (cutV xs lo hi) → Q (.ref r) H'
theorem sl_tupA (K : PySem.W.Frag) (hK : X.K = K := by rfl) : SlR X (rSlA K) := by
  subst hK
  intro pins s σ H x v vl vu lo hi sl Q I rx hs pl pu h
  obtain ⟨a, xs, rfl, hx, q⟩ := h
  by_cases hw : HT.sIx xs.length 0 lo = 0 ∧ HT.sIx xs.length xs.length hi = xs.length
  · cases rx
    obtain ⟨its, r, ht, hz⟩ := I.tuple hx
    have hlen : its.toArray.size = xs.length := by rw [List.size_toArray]; exact r.length.symm
    refine ⟨"tuple", _, PyProof.Rows.slot_tuple_getitem.lookup, ht.typeIs, ?_⟩
    refine item_whole ht hs pl pu (by rw [hlen]; exact hw.1) (by rw [hlen]; exact hw.2) ?_
    refine ⟨.ref a, H, I, rfl, q a H (Same.refl _) ?_⟩
    have e : cutV xs lo hi = xs := by
      unfold cutV
      rw [hw.1, hw.2, List.drop_zero, Nat.sub_zero, List.take_length]
    rw [e]
    exact hx
  · exact sl_tup pins s σ H (.ref a) v vl vu lo hi sl Q I rx hs pl pu ⟨a, xs, rfl, hx, hw, fun p hp => q p _ ((Same.refl _).new hp) (SqT.of upd_same)⟩
def rCatA (K : PySem.W.Frag) : R2 := fun x y H Q => ∃ a b xs ys, x = .ref a ∧ y = .ref b ∧ SqT K H a xs ∧ SqT K H b ys ∧ xs.length + ys.length ≤ sizeLine ∧ ∀ r H', Same H H' → SqT K H' r (xs ++ ys) → Q (.ref r) H'
theorem op_catA (K : PySem.W.Frag) (hK : X.K = K := by rfl) : OpR X (binaryOp .Add) (rCatA K) := by
  subst hK
  intro pins s σ H x y v u Q I rx ry h
  obtain ⟨a, b, xs, ys, rfl, rfl, hx, hy, hz, q⟩ := h
  by_cases he : xs = []
  · subst he
    cases rx
    cases ry
    obtain ⟨its, r, ht, _⟩ := I.tuple hx
    obtain ⟨its2, r2, ht2, _⟩ := I.tuple hy
    cases r
    obtain ⟨⟨cls, dd, data, sl⟩, ho, hc, n, hd⟩ := id ht
    obtain ⟨⟨cls2, dd2, data2, sl2⟩, ho2, hc2, n2, hd2⟩ := id ht2
    simp only at hc hd hc2 hd2
    subst hc hd hc2 hd2
    refine concat_meets ⟨_, ho, rfl⟩ ⟨_, ho2, rfl⟩ PySem.noFill_tuple_add PySem.seq_tuple_add PySem.F.slot_tuple_add PySem.F.entry_tuple_add (PySem.F.args_tuple_add_2 _ _) (tuple_addW0 a b _ its2.toArray n n2 dd dd2 sl sl2 (by simp)) ⟨ho, ho2, ?_⟩
    exact ⟨.ref b, H, I, rfl, q b H (Same.refl _) hy⟩
  · refine op_catT pins s σ H (.ref a) (.ref b) v u Q I rx ry ⟨a, b, xs, ys, rfl, rfl, hx, hy, he, hz, ?_⟩
    by_cases hw : ys = []
    · subst hw
      first
        | exact ⟨fun _ => q a H (Same.refl _) (by rw [List.append_nil]; exact hx), fun z => absurd rfl z⟩
        | exact .inl ⟨rfl, q a H (Same.refl _) (by rw [List.append_nil]; exact hx)⟩
    · first
        | exact ⟨fun z => absurd z hw, fun _ p hp => q p _ ((Same.refl _).new hp) (SqT.of upd_same)⟩
        | exact .inr ⟨hw, fun p hp => q p _ ((Same.refl _).new hp) (SqT.of upd_same)⟩
/-! ### any([..]) of bools -/
end
/-! ### values alike, lists and tuples within -/
inductive Like (K : PySem.W.Frag) (H : Hp) : Nat → V → V → Prop where
  | flat {n : Nat} (x : V) : flatV x = true → Like K H n x x
  | same {n : Nat} (a : Addr) : Like K H n (.ref a) (.ref a)
  | lst {n : Nat} {a b : Addr} {xs ys : List V} (ha : SqL K H a xs) (hb : SqL K H b ys) (hl : xs.length = ys.length) (h : ∀ (j : Nat) (x y : V), xs[j]? = some x → ys[j]? = some y → Like K H n x y) : Like K H (n + 1) (.ref a) (.ref b)
  | tup {n : Nat} {a b : Addr} {xs ys : List V} (ha : SqT K H a xs) (hb : SqT K H b ys) (hl : xs.length = ys.length) (h : ∀ (j : Nat) (x y : V), xs[j]? = some x → ys[j]? = some y → Like K H n x y) : Like K H (n + 1) (.ref a) (.ref b)
section
variable {X : Cx} {pins : List (Addr × Obj)} {σ : St} {H : Hp} {s : Shared}
end
section
variable {X : Cx}
/-! ### the tuple's rules, the written part named -/
theorem pi_tupK (K : PySem.W.Frag) {tg l : Expr} {tl : TE} (hl : PE X l tl) (hK : X.K = K := by rfl) : PI X tg l (iTup K tl) := by subst hK; exact pi_tup hl
theorem call_tupleK (K : PySem.W.Frag) (hK : X.K = K := by rfl) : CallR X (.type "tuple") (fun xs H Q => ∃ p ys, xs = [.ref p] ∧ ((SqL K H p ys ∧ ∀ l, H l = none → Q (.ref l) (upd H l (.tup ys))) ∨ (SqT K H p ys ∧ Q (.ref p) H))) := by subst hK; exact call_tuple_of
end
section
variable {K : PySem.W.Frag} {g : TG} {tt : TT} {te : TE} {D : Addr} {σ : St} {H : Hp} {Q : VK}
/-- [.. for .. in t], t a tuple -/
theorem lc_tup {a : Addr} {xs : List V} (Pv : Nat → St → Hp → Prop) (h0 : Pv 0 σ H) (hl : ∀ i σ H, i ≤ xs.length → Pv i σ H → SqT K H a xs)
    (hs : ∀ (i : Nat) (x : V) (σ : St) (H : Hp) (N : St → Hp → Prop), (∀ σ H, Pv (i + 1) σ H → N σ H) → xs[i]? = some x → Pv i σ H → g x σ H fun σ3 H3 => tt σ3 H3 fun b H4 =>
      if b = true then te σ3 H4 fun v H5 => ∃ ys, H5 D = some (.lst ys) ∧ ys.length < sizeLine ∧ N σ3 (upd H5 D (.lst (ys ++ [v]))) else N σ3 H4)
    (hd : ∀ σ H, Pv xs.length σ H → Q (.ref D) H) : lcRun (Itt K a) g tt te D σ H Q := by
  refine ⟨fun i m σ H => m = xs.length - i ∧ i ≤ xs.length ∧ Pv i σ H, ⟨xs.length, by simp, Nat.zero_le _, h0⟩, ?_⟩
  rintro i m σ' H' ⟨rfl, hi, p⟩
  have q := hl i σ' H' hi p
  by_cases hlt : i < xs.length
  · refine .inr ⟨⟨xs, xs[i], q, by simp [hlt]⟩, fun x H2 y => ?_⟩
    obtain ⟨e, y⟩ := y
    subst e
    exact hs i x σ' _ (fun σ3 H3 => ∃ m', m' < xs.length - i ∧ m' = xs.length - (i + 1) ∧ i + 1 ≤ xs.length ∧ Pv (i + 1) σ3 H3) (fun σ3 H3 z => ⟨xs.length - (i + 1), by omega, rfl, hlt, z⟩) (y xs q) p
  · have e : i = xs.length := by omega
    subst e
    exact .inl ⟨⟨xs, q, Nat.le_refl _⟩, hd σ' H' p⟩
end
end L2
/-! THE HAND LAYER, for ints, bools, texts, own classes, DICTS (int and text keys), calls, loops. Paste it whole ahead of your own text; what your proof does not reach may be deleted. -/
namespace L2
open PySem PySem.Spec PyProof.Rows

end L2

namespace L2
open PySem PySem.Spec PyProof.Rows

section
variable (P : Program) (w : World)
end

section
variable {P : Program} {w : World} {H H' : Hp} {h h' : Heap} {a : Addr} {o : HO}
end

section
variable {P : Program} {w : World} {H : Hp} {h h' : Heap} {x e : Addr} {o' : HO}
end

/-! ### kept unless tracked; of the frames at fs (the callers') the slots may change (an exception that passes writes there); of the records at ex (iterators) nothing is said -/
section
variable {fs fs' ex ex' : List Addr} {H H1 H2 : Hp} {h h1 h2 h' : Heap} {a x e : Addr} {o : HO}
end

/-! ### the heap without what is tracked -/
/-! ### OpenK's ledger, filled with every new object but one -/
end L2

namespace L2
open PySem PySem.Spec PyProof.Rows

section
variable {X : Cx} {pins : List (Addr × Obj)} {σ : List (Option V)} {H H' : Hp} {s : Shared} {h' : Heap}

end

/-! ### the judgements -/
end L2

namespace L2
open PySem PySem.Spec PyProof.Rows
section
variable {X : Cx}

/-! ### names and constants -/
/-! ### arithmetic -/
variable {a b : Expr} {ta tb : TE} {pos : Pos}
/-! ### comparisons -/
/-! ### and, or, not -/
variable {tA tB' : TT} {rest : List Expr}
end
end L2

namespace L2
open PySem PySem.Spec PyProof.Rows

/-! ### a list, a tuple that is read: tracked, frozen, or an object of the module -/
section
variable {X : Cx} {pins : List (Addr × Obj)} {σ : St} {H : Hp} {s : Shared} {a : Addr} {xs ys : List V}
end

/-! ### another wish about exceptions -/
section
variable {X : Cx} {pins : List (Addr × Obj)} {σ : St} {H : Hp} {s : Shared} {E : Value → Shared → Prop}
end

/-! ### blocks and small statements -/
section
variable {X : Cx} {st : Stmt} {rest : List Stmt} {t u : TS} {e : Expr} {te : TE} {pos : Pos}
end

/-! ### targets -/
section
variable {X : Cx} {pos : Pos}
end

/-! ### while -/
section
variable {X : Cx} {pos : Pos}
end

/-! ### what a loop or a comprehension walks -/
end L2

namespace L2
open PySem PySem.Spec PyProof.Rows
section
variable {X : Cx} {tg : Expr}
/-! ### for -/
end

/-! ### the forms one uses -/
end L2

namespace L2
open PySem PySem.Spec PyProof.Rows

section
variable {X : Cx} {a b c : Expr} {ta tb tc : TE} {pos : Pos}

/-! ### ints -/
/-! ### bools among ints: n += (a < b) -/
end

/-! ### comparisons -/
section
variable {X : Cx} {a b c : Expr} {ta tb tc : TE} {pos : Pos}
/-! ### truth -/
/-! ### strs and bytes -/
/-! ### scalar builtins, by CallR -/
end
end L2

namespace L2
open PySem PySem.Spec PyProof.Rows

/-! ### an instance, its attributes a map -/
section
variable {prog : Program} {w : World} {A : Around} {E : Value → Shared → Prop} {s : Shared} {K : PySem.W.Frag} {x dx C f : Addr} {mA : Str → Option Value} {name : Str} {v : Value}

end

/-! ### the attributes as a list of pairs -/
section
variable {P : Program} {w : World} {H H' : Hp} {h h' : Heap} {a C dx : Addr} {fs fs' : List (Str × V)}
end

/-! ### what of the text a class must have -/
section
variable {X : Cx} {pins : List (Addr × Obj)} {σ : St} {H : Hp} {s : Shared} {a C dx : Addr} {fs : List (Str × V)} {f : Str} {v : V} {A : Around} {E : Value → Shared → Prop}

end

/-! ### readings and rules -/
section
variable {X : Cx} {o e value : Expr} {f : Str} {pos pos' tpos : Pos} {ta tv : TE}
end

/-! ### isinstance -/
section
variable {X : Cx} {pins : List (Addr × Obj)} {σ : St} {H : Hp} {s : Shared} {A : Around} {E : Value → Shared → Prop} {Q : Value → Shared → Prop} {c : Value} {b : Bool}
end
end L2

namespace L2
open PySem PySem.Spec PyProof.Rows

/-! ### room -/
/-! ### argument lists and displays -/
section
variable {X : Cx} {e : Expr} {es : List Expr} {te : TE} {t : TA} {pos : Pos}
end

/-! ### what a def promises -/
section
variable {X : Cx} {pins : List (Addr × Obj)} {σ : St} {H : Hp} {s s' : Shared}
end

/-! ### calls -/
section
variable {X : Cx} {CX : CXT} {k : Nat} {f C : Addr} {fd : FuncData} {ps : List Str} {sp : Sp} {dvs : List V} {ds : List Value} {E : XK} {x m : Str} {p pos apos : Pos} {e o : Expr} {es : List Expr} {ta : TE} {t : TA}

end

/-! ### keywords -/
section
variable {X : Cx} {CX : CXT} {k : Nat} {f C : Addr} {fd : FuncData} {ps ks : List Str} {sp : Sp} {E : XK} {x m : Str} {p pos apos kpos : Pos} {e o : Expr} {es : List Expr} {kws : List Keyword} {te ta : TE} {t tk : TA} {nm : Option Str}
variable {g : List Value → List Value → List Value} {gV : List V → List V → List V}
end

/-! ### a def's body keeps its promise -/
end L2

namespace L2
open PySem PySem.Spec PyProof.Rows
section
variable {X : Cx} {x : Str} {p pos : Pos} {e : Expr} {es : List Expr} {t : TA} {id T : String} {r : List V → Hp → VK → Prop}

end
end L2

namespace L2
open PySem PySem.Spec PyProof.Rows

/-! ### lists of pairs as tables -/
section
variable {κ : Type} [DecidableEq κ]
def valV (kvs : List (κ × V)) (k : κ) : Option V := (kvs.find? fun kv => decide (kv.1 = k)).map (·.2)
/-- in its place, or at the end -/
def putK (kvs : List (κ × V)) (k : κ) (v : V) : List (κ × V) :=
  if (kvs.any fun kv => decide (kv.1 = k)) = true then kvs.map (fun kv => if kv.1 = k then (kv.1, v) else kv) else kvs ++ [(k, v)]
def dropK (kvs : List (κ × V)) (k : κ) : List (κ × V) := kvs.filter fun kv => decide (kv.1 ≠ k)

theorem valV_pos {p : κ × V} {r : List (κ × V)} {k : κ} (e : p.1 = k) : valV (p :: r) k = some p.2 := by simp [valV, List.find?_cons, e]
theorem valV_neg {p : κ × V} {r : List (κ × V)} {k : κ} (e : ¬ p.1 = k) : valV (p :: r) k = valV r k := by simp [valV, List.find?_cons, e]
theorem valV_any (k : κ) : ∀ kvs : List (κ × V), (kvs.any fun kv => decide (kv.1 = k)) = (valV kvs k).isSome
  | [] => rfl
  | p :: r => by
    rw [List.any_cons]
    by_cases e : p.1 = k
    · simp only [valV_pos e, decide_eq_true e, Bool.true_or, Option.isSome_some]
    · rw [valV_neg e, decide_eq_false e, Bool.false_or]; exact valV_any k r
theorem RelO.isSome_eq {o : Option V} {u : Option Value} (r : RelO o u) : o.isSome = u.isSome := by
  cases o with
  | none => cases u with
    | none => rfl
    | some _ => exact (show False from r).elim
  | some _ => cases u with
    | none => exact (show False from r).elim
    | some _ => rfl
theorem RelO.getD {o : Option V} {u : Option Value} {d : V} {d' : Value} (r : RelO o u) (rd : RelV d d') : RelV (o.getD d) (u.getD d') := by
  cases o with
  | none => cases u with
    | none => exact rd
    | some _ => exact (show False from r).elim
  | some _ => cases u with
    | none => exact (show False from r).elim
    | some _ => exact r

/-- raw tables of the same keys -/
theorem KV.val {kvs : List (κ × V)} {vs : List (κ × Value)} (r : KV kvs vs) (k : κ) : RelO (valV kvs k) (valueAt vs k) := by
  unfold KV at r
  induction r with
  | nil => exact True.intro
  | @cons p q ps qs h t ih =>
    obtain ⟨h1, h2⟩ := h
    by_cases e : p.1 = k
    · have e' : q.1 = k := h1.symm.trans e
      have b : valueAt (q :: qs) k = some q.2 := by simp [valueAt, List.find?_cons, e']
      rw [valV_pos e, b]; exact h2
    · have e' : ¬ q.1 = k := fun z => e (h1.trans z)
      have b : valueAt (q :: qs) k = valueAt qs k := by simp [valueAt, List.find?_cons, e']
      rw [valV_neg e, b]; exact ih
theorem KV.any {kvs : List (κ × V)} {vs : List (κ × Value)} (r : KV kvs vs) (k : κ) : (kvs.any fun kv => decide (kv.1 = k)) = vs.any fun kv => decide (kv.1 = k) := by
  unfold KV at r
  induction r with
  | nil => rfl
  | cons h t ih => rw [List.any_cons, List.any_cons, ih, h.1]
theorem KV.repl {kvs : List (κ × V)} {vs : List (κ × Value)} (r : KV kvs vs) (k : κ) {y : V} {u : Value} (ry : RelV y u) :
    KV (kvs.map fun kv => if kv.1 = k then (kv.1, y) else kv) (vs.map fun kv => if kv.1 = k then (kv.1, u) else kv) := by
  unfold KV at r ⊢
  induction r with
  | nil => exact .nil
  | @cons p q ps qs h t ih =>
    rw [List.map_cons, List.map_cons]
    refine .cons ?_ ih
    obtain ⟨h1, h2⟩ := h
    by_cases e : p.1 = k
    · rw [if_pos e, if_pos (h1.symm.trans e)]; exact ⟨h1, ry⟩
    · rw [if_neg e, if_neg (fun z => e (h1.trans z))]; exact ⟨h1, h2⟩
theorem KV.put {kvs : List (κ × V)} {vs : List (κ × Value)} (r : KV kvs vs) (k : κ) {y : V} {u : Value} (ry : RelV y u) : KV (putK kvs k y) (stored vs k u) := by
  unfold putK stored
  rw [r.any k]
  by_cases e : (vs.any fun kv => decide (kv.1 = k)) = true
  · rw [if_pos e, if_pos e]; exact r.repl k ry
  · rw [if_neg e, if_neg e]; exact Paired.snoc r ⟨rfl, ry⟩
theorem KV.drop {kvs : List (κ × V)} {vs : List (κ × Value)} (r : KV kvs vs) (k : κ) : KV (dropK kvs k) (without vs k) := by
  unfold KV at r ⊢
  unfold dropK without
  induction r with
  | nil => exact .nil
  | @cons p q ps qs h t ih =>
    obtain ⟨h1, h2⟩ := h
    rw [List.filter_cons, List.filter_cons]
    by_cases e : p.1 = k
    · have a : ¬ decide (p.1 ≠ k) = true := by simp [e]
      have b : ¬ decide (q.1 ≠ k) = true := by simp [h1.symm.trans e]
      rw [if_neg a, if_neg b]; exact ih
    · have e' : ¬ q.1 = k := fun z => e (h1.trans z)
      have a : decide (p.1 ≠ k) = true := by simp [e]
      have b : decide (q.1 ≠ k) = true := by simp [e']
      rw [if_pos a, if_pos b]; exact .cons ⟨h1, h2⟩ ih
theorem KV.keys {kvs : List (κ × V)} {vs : List (κ × Value)} (r : KV kvs vs) : kvs.map (·.1) = vs.map (·.1) := by
  unfold KV at r
  induction r with
  | nil => rfl
  | cons h t ih => rw [List.map_cons, List.map_cons, ih, h.1]
theorem KV.length {kvs : List (κ × V)} {vs : List (κ × Value)} (r : KV kvs vs) : kvs.length = vs.length := Paired.length r
end


/-! ### a tracked dict, its keys ints and texts or tuples of these -/
/-- raw entries of a dict with tuple keys -/
abbrev KT (H : Hp) : List (List Key × V) → List (List Key × Addr × Value) → Prop := Paired fun p q => p.1 = q.1 ∧ H q.2.1 = some (.tup (p.1.map kV)) ∧ RelV p.2 q.2.2
theorem KT.val {H : Hp} {kvs : List (List Key × V)} {xs : List (List Key × Addr × Value)} (r : KT H kvs xs) (k : List Key) : RelO (valV kvs k) ((atKey xs k).map (·.2)) := by
  induction r with
  | nil => exact True.intro
  | @cons p q ps qs h t ih =>
    obtain ⟨h1, _, h2⟩ := h
    by_cases e : p.1 = k
    · have e' : q.1 = k := h1.symm.trans e
      have b : atKey (q :: qs) k = some q.2 := by simp [atKey, List.find?_cons, e']
      rw [valV_pos e, b]; exact h2
    · have e' : ¬ q.1 = k := fun z => e (h1.trans z)
      have b : atKey (q :: qs) k = atKey qs k := by simp [atKey, List.find?_cons, e']
      rw [valV_neg e, b]; exact ih
theorem KT.repl {H : Hp} {kvs : List (List Key × V)} {xs : List (List Key × Addr × Value)} (r : KT H kvs xs) (k : List Key) {y : V} {u : Value} (ry : RelV y u) :
    KT H (kvs.map fun kv => if kv.1 = k then (kv.1, y) else kv) (xs.map (putAt k u)) := by
  induction r with
  | nil => exact .nil
  | @cons p q ps qs h t ih =>
    rw [List.map_cons, List.map_cons]
    refine .cons ?_ ih
    obtain ⟨h1, h2, h3⟩ := h
    unfold putAt
    by_cases e : p.1 = k
    · rw [if_pos e, if_pos (h1.symm.trans e)]; exact ⟨h1, h2, ry⟩
    · rw [if_neg e, if_neg (fun z => e (h1.trans z))]; exact ⟨h1, h2, h3⟩
theorem KT.put {H : Hp} {kvs : List (List Key × V)} {xs : List (List Key × Addr × Value)} (r : KT H kvs xs) (k : List Key) {b : Addr} {y : V} {u : Value} (hb : H b = some (.tup (k.map kV))) (ry : RelV y u) :
    KT H (putK kvs k y) (storedH xs k b u) := by
  have e : (kvs.any fun kv => decide (kv.1 = k)) = (atKey xs k).isSome := by
    rw [valV_any, (r.val k).isSome_eq, Option.isSome_map]
  unfold putK storedH
  rw [e]
  by_cases q : (atKey xs k).isSome = true
  · rw [if_pos q, if_pos q]; exact r.repl k ry
  · rw [if_neg q, if_neg q]; exact Paired.snoc r ⟨rfl, hb, ry⟩
theorem KT.keeps {H H' : Hp} {kvs : List (List Key × V)} {xs : List (List Key × Addr × Value)} (r : KT H kvs xs) (ht : ∀ b ys, H b = some (.tup ys) → H' b = some (.tup ys)) : KT H' kvs xs :=
  Paired.mapP r fun _ _ z => ⟨z.1, ht _ _ z.2.1, z.2.2⟩

section
variable {P : Program} {w : World} {H : Hp} {h : Heap} {a : Addr}
end

/-- what the dict at a holds at the key y -/
def DGet (H : Hp) (a : Addr) (y : V) (r : Option V) : Prop :=
  (∃ kvs k, Rd H a (.dK kvs) ∧ y = kV k ∧ r = valV kvs k) ∨ ∃ kvs k b, Rd H a (.dT kvs) ∧ y = .ref b ∧ H b = some (.tup (k.map kV)) ∧ r = valV kvs k
/-- the heap behind a[y] = v -/
def DPut (H : Hp) (a : Addr) (y v : V) (H' : Hp) : Prop :=
  (∃ kvs k, H a = some (.dK kvs) ∧ y = kV k ∧ kvs.length < sizeLine ∧ H' = upd H a (.dK (putK kvs k v))) ∨
  ∃ kvs k b, H a = some (.dT kvs) ∧ y = .ref b ∧ H b = some (.tup (k.map kV)) ∧ kvs.length < sizeLine ∧ H' = upd H a (.dT (putK kvs k v))
theorem DGet.k {H : Hp} {a : Addr} {kvs : List (Key × V)} {k : Key} (e : H a = some (.dK kvs)) : DGet H a (kV k) (valV kvs k) := .inl ⟨kvs, k, .inl e, rfl, rfl⟩
theorem DGet.t {H : Hp} {a b : Addr} {kvs : List (List Key × V)} {k : List Key} (e : H a = some (.dT kvs)) (eb : H b = some (.tup (k.map kV))) : DGet H a (.ref b) (valV kvs k) := .inr ⟨kvs, k, b, .inl e, rfl, eb, rfl⟩
theorem DPut.k {H : Hp} {a : Addr} {kvs : List (Key × V)} {k : Key} {v : V} (e : H a = some (.dK kvs)) (hl : kvs.length < sizeLine) : DPut H a (kV k) v (upd H a (.dK (putK kvs k v))) := .inl ⟨kvs, k, e, rfl, hl, rfl⟩
theorem DPut.t {H : Hp} {a b : Addr} {kvs : List (List Key × V)} {k : List Key} {v : V} (e : H a = some (.dT kvs)) (eb : H b = some (.tup (k.map kV))) (hl : kvs.length < sizeLine) :
    DPut H a (.ref b) v (upd H a (.dT (putK kvs k v))) := .inr ⟨kvs, k, b, e, rfl, eb, hl, rfl⟩


section
variable {X : Cx} {pins : List (Addr × Obj)} {σ : St} {H : Hp} {s : Shared} {a : Addr} {y v : V} {u r : Value} {o : Option V} {A : Around} {E : Value → Shared → Prop}

end

section
variable {X : Cx} {pins : List (Addr × Obj)} {σ : St} {H : Hp} {s : Shared} {a : Addr} {kvs : List (Key × V)} {k : Key} {u : Value} {A : Around} {E : Value → Shared → Prop}
end


/-! ### readings and rules -/
section
variable {X : Cx} {o i e value : Expr} {pos pos' tpos : Pos} {td ty tv : TE}
end


/-! ### displays -/
section
variable {X : Cx} {pos : Pos}
end

/-! ### methods -/
/-- a method call o.m(e) of a built-in, with one argument: what must be seen of the text -/
structure M1 (X : Cx) (o : Expr) (m : Str) (apos : Pos) (e : Expr) (cpos : Pos) : Prop where
  base : attributeBase o m X.env (eval o X.env) = eval o X.env
  few : ((backTo cpos (starEach [e] X.env)).all (fun x => !x.1) && (backToKw cpos (keywordEach [] X.env)).all (fun x => x.1.isSome)
    && decide (([e] : List Expr).length + ([] : List Keyword).length + (if ([] : List Keyword).isEmpty then 0 else 1) < 30)) = true
  line : (apos.endLine == cpos.line) = true
  trees : backTo cpos (starEach [e] X.env) = [(false, eval e X.env)]
structure M2 (X : Cx) (o : Expr) (m : Str) (apos : Pos) (e f : Expr) (cpos : Pos) : Prop where
  base : attributeBase o m X.env (eval o X.env) = eval o X.env
  few : ((backTo cpos (starEach [e, f] X.env)).all (fun x => !x.1) && (backToKw cpos (keywordEach [] X.env)).all (fun x => x.1.isSome)
    && decide (([e, f] : List Expr).length + ([] : List Keyword).length + (if ([] : List Keyword).isEmpty then 0 else 1) < 30)) = true
  line : (apos.endLine == cpos.line) = true
  trees : backTo cpos (starEach [e, f] X.env) = [(false, eval e X.env), (false, eval f X.env)]

section
variable {X : Cx} {pins : List (Addr × Obj)} {σ : St} {H : Hp} {s : Shared} {a : Addr} {y d : V} {u r : Value} {o : Option V} {A : Around} {E : Value → Shared → Prop}
end

section
variable {X : Cx} {o e f : Expr} {apos cpos : Pos} {td ty tx : TE}
end

/-! ### dict(d): a copy -/
section
variable {X : Cx} {pins : List (Addr × Obj)} {σ : St} {H : Hp} {s : Shared} {a : Addr} {kvs : List (Key × V)} {A : Around} {E : Value → Shared → Prop}
end


section
variable {X : Cx} {pins : List (Addr × Obj)} {σ : St} {H : Hp} {s : Shared} {a : Addr} {y : V} {u : Value} {A : Around} {E : Value → Shared → Prop}
end
end L2

namespace Att
open PySem PySem.W PySem.Calls PyProof.Rows

/-! ### the script -/
/-! ### the attachment: holds_open's last premise (the goal 'hc' behind k_head) from a wpAny of the law's body -/
/-! ### rules over ANY heap (no ledger) from facts about the written part K: the library's own take a ledger (News) for what they write -/
section
variable {prog : Program} {w : World} {A : Around} {E : Value → Shared → Prop} {s : Shared} {K : Frag}

/-! the whole heap as the ledger: makes every rule that writes through a ledger a rule over any heap -/
end
end Att

namespace L2
open PySem PySem.Spec PyProof.Rows

end L2

namespace L2
open PySem PySem.Spec PyProof.Rows

end L2


/-! SHORT WORDS over the layer: a def of the text, its body, what a loop and a test want. -/
namespace L2
open PySem PySem.Spec PyProof.Rows

/-! ### the text by places -/
/-! ### no exception leaves a def -/
/-! ### a def (or method) of the text as it stands behind the top -/
section
variable {P : Program} {w : World} {K : PySem.W.Frag} {mg : Str → Option Value} {base : Heap}
end
/-! ### expressions in short: the name that stands in the i-th slot -/
section
variable {X : Cx}
end

/-! ### tests -/
/-! ### heaps -/
/-! ### a dict's pairs: keys that differ -/
section
variable {κ : Type} [DecidableEq κ]
end
end L2
namespace L2
open PySem PySem.Spec PyProof.Rows
/-! ### a tuple times an int, two or more -/
section
variable {X : Cx}
end
/-! ### nested written tuples: readings in a box, so that nothing is unfolded on the way (unfolded, a written tuple's reading grows with its depth) -/
structure PEx (X : Cx) (e : Expr) (t : TE) : Prop where
  out : PE X e t
structure PAx (X : Cx) (es : List Expr) (t : TA) : Prop where
  out : PA X es t
section
variable {X : Cx} {te : TE} {t : TA} {es es1 : List Expr}
end
end L2
namespace L2
open PySem PySem.Spec PyProof.Rows
/-! ### enumerate(t, start=1), t a tuple -/
section
variable {prog : Program} {w : World} {A : Around} {E : Value → Shared → Prop} {s : Shared}
end
abbrev eA (h : Heap) (l : Addr) : Heap := h.push { cls := .type "tuple_iterator", data := .fields #[.ref l, .int 0 0] }
abbrev eB (h : Heap) (l : Addr) : Heap := (eA h l).push { cls := .type "enumerate", data := .fields #[.none, .bool false, .ref h.objs.size, rawInt 1, .none, .none] }
section
variable {prog : Program} {w : World} {A : Around} {E : Value → Shared → Prop} {s : Shared}
end
section
variable {X : Cx}
end
section
variable {K : PySem.W.Frag} {g : TG} {σ : St} {H : Hp}
end
/-! ### a tuple times an int, one or more -/
section
variable {X : Cx}
/-! ### isinstance of ints, None, tuples and lists -/
inductive TyS (K : PySem.W.Frag) (H : Hp) : V → Value → Prop where
  | non : TyS K H .non (.type "NoneType")
  | int (i : Int) : TyS K H (.int i) (.type "int")
  | bl (b : Bool) : TyS K H (.bl b) (.type "bool")
  | str (x : Str) : TyS K H (.str x) (.type "str")
  | tup {a : Addr} {xs : List V} : SqT K H a xs → TyS K H (.ref a) (.type "tuple")
  | lst {a : Addr} {xs : List V} : SqL K H a xs → TyS K H (.ref a) (.type "list")
theorem tyS_kit {pins : List (Addr × Obj)} {σ : St} {H : Hp} {s : Shared} {x : V} {u t : Value} (I : Inv X pins σ H s) (r : RelV x u) (ty : TyS X.K H x t) : ∃ G : Heap → Prop, PySem.W.KitX X.K u t G ∧ G s.heap ∧ u ≠ .builtin "__main__.__loader__#opaque" := by
  cases ty with
  | non => cases (show u = Value.none from r); exact ⟨_, PySem.W.kitx_none, True.intro, fun z => nomatch z⟩
  | int i => obtain ⟨t, q⟩ := (show ∃ t, u = Value.int i t from r); cases q; exact ⟨_, PySem.W.kitx_int, True.intro, fun z => nomatch z⟩
  | bl b => cases (show u = Value.bool b from r); exact ⟨_, PySem.W.kitx_bool, True.intro, fun z => nomatch z⟩
  | str x => obtain ⟨t, q⟩ := (show ∃ t, u = Value.str x t from r); cases q; exact ⟨_, PySem.W.kitx_str, True.intro, fun z => nomatch z⟩
  | @tup a xs h =>
    cases (show u = Value.ref a from r)
    obtain ⟨its, _, ⟨o, ho, hc, _⟩, _⟩ := I.tuple h
    exact ⟨_, PySem.W.kitx_tuple, ⟨o, ho, hc⟩, fun z => nomatch z⟩
  | @lst a xs h =>
    cases (show u = Value.ref a from r)
    obtain ⟨its, _, p, _⟩ := I.list h
    obtain ⟨o, ho, hc, _⟩ := p.isList
    exact ⟨_, PySem.W.kitx_list, ⟨o, ho, hc⟩, fun z => nomatch z⟩
def rIsiS (K : PySem.W.Frag) : List V → Hp → VK → Prop := fun xs H Q => ∃ x n t b, xs = [x, .ty n] ∧ TyS K H x t ∧ PySem.W.kitOne K t (.type n) = some b ∧ Q (.bl b) H
theorem call_isiS : CallR X (.builtin "isinstance") (rIsiS X.K) := by
  intro pins s σ H vs us Q I rv h
  obtain ⟨x, n, t, b, rfl, ty, e, q⟩ := h
  obtain ⟨u, v, rfl, ru, rw'⟩ := rv.two
  obtain rfl : v = .type n := rw'
  obtain ⟨G, z, g, hn⟩ := tyS_kit I ru ty
  exact PySem.W.kia_one z I.kIn g e hn fun tk => ⟨.bl b, H, I.tok _, rfl, q⟩
theorem pe_isiS (K : PySem.W.Frag) {e1 e2 : Expr} {t : TA} {p pos : Pos} (hm : X.mg "isinstance" = none) (ha : PA X [e1, e2] t) (hK : X.K = K := by rfl) (hg : Gl X "isinstance" := by rfl)
    (he : starEach [e1, e2] X.env = (false, eval e1 X.env) :: starEach [e2] X.env := by rfl) (hpl : (backTo pos (starEach [e2] X.env)).any (·.1) = false := by rfl) :
    PE X (.Call (.Name "isinstance" p) [e1, e2] [] pos) (tCB (rIsiS K) t) := by
  subst hK
  exact pe_callB call_isiS hg hm boot_isinstance ha (by decide) (by decide) he hpl
end
end L2
namespace L2
open PySem PySem.Spec PyProof.Rows
/-! ### rows of numbers and None, and what is made of them, compared -/
def ent : Option Int → V
  | none => .non
  | some n => .int n
theorem ent_flat (e : Option Int) : flatV (ent e) = true := by cases e <;> rfl
theorem ent_eqV (x y : Option Int) : eqV (ent x) (ent y) = decide (x = y) := by
  cases x <;> cases y
  · rfl
  · rfl
  · rfl
  · rename_i a b
    show (a == b) = _
    by_cases h : a = b <;> simp [h]
theorem ents_all : ∀ (x y : List (Option Int)), ((List.range (min x.length y.length)).all (fun j => decide ((x[j]?).getD none = (y[j]?).getD none)) && (x.length == y.length)) = decide (x = y)
  | x, y => by
    by_cases h : x = y
    · subst h; simp
    · rw [decide_eq_false h]
      by_cases hl : x.length = y.length
      · rw [Bool.and_eq_false_iff]
        left
        rw [List.all_eq_false]
        apply Classical.byContradiction
        intro hn
        apply h
        apply List.ext_getElem? 
        intro j
        by_cases hj : j < x.length
        · have hj' : j < y.length := by omega
          have := Classical.byContradiction fun hz => hn ⟨j, List.mem_range.mpr (by omega), hz⟩
          have e := of_decide_eq_true this
          simp only [List.getElem?_eq_getElem hj, List.getElem?_eq_getElem hj', Option.getD_some] at e ⊢
          rw [e]
        · rw [List.getElem?_eq_none (by omega), List.getElem?_eq_none (by omega)]
      · simp [hl]
section
variable {X : Cx} {pins : List (Addr × Obj)} {σ : St} {H : Hp} {s : Shared}
end
section
variable {X : Cx}
end
end L2
namespace L2
open PySem PySem.Spec PyProof.Rows
/-! ### rows of numbers and None, and stands, as keys -/
structure Std where
  ah : Int
  rs : Int
  se : List (Option Int)
  to : List (Option Int)
deriving DecidableEq
structure IsStd (K : PySem.W.Frag) (H : Hp) (a : Addr) (s : Std) : Prop where
  ex : ∃ b c, SqT K H a [.int s.ah, .int s.rs, .ref b, .ref c] ∧ SqT K H b (s.se.map ent) ∧ SqT K H c (s.to.map ent)
theorem IsStd.same {K : PySem.W.Frag} {H H' : Hp} {a : Addr} {s : Std} (h : IsStd K H a s) (e : Same H H') : IsStd K H' a s := by
  obtain ⟨b, c, h1, h2, h3⟩ := h.ex
  exact ⟨b, c, e.tup h1, e.tup h2, e.tup h3⟩
def IsRowH (h : Heap) (x : List (Option Int)) (a : Addr) : Prop := ∃ its : List Value, Vals (x.map ent) its ∧ h.IsTuple a its.toArray
def IsStdH (h : Heap) (s : Std) (a : Addr) : Prop := ∃ (b c : Addr) (t t' : Tok), h.IsTuple a #[.int s.ah t, .int s.rs t', .ref b, .ref c] ∧ IsRowH h s.se b ∧ IsRowH h s.to c
def noneHash : Int := 0xFCA86420
def entHash : Option Int → Int
  | some k => hashInt k
  | none => noneHash
def rowHash (x : List (Option Int)) : Int := reduceHash (Builtin.Tuple.tupleHashOf (x.map entHash))
def stdHash (s : Std) : Int := reduceHash (Builtin.Tuple.tupleHashOf [hashInt s.ah, hashInt s.rs, rowHash s.se, rowHash s.to])
theorem tup_inj {h : Heap} {a : Addr} {x y : Array Value} (hx : h.IsTuple a x) (hy : h.IsTuple a y) : x = y := by
  obtain ⟨o, ho, _, n, hd⟩ := hx
  obtain ⟨o', ho', _, n', hd'⟩ := hy
  rw [ho] at ho'
  obtain rfl := Option.some.inj ho'
  rw [hd] at hd'
  injection hd' with h1 _
theorem ents_rel : ∀ {x y : List (Option Int)} {vs : List Value}, Vals (x.map ent) vs → Vals (y.map ent) vs → x = y
  | [], [], _, _, _ => rfl
  | [], _ :: _, _, .nil, h => by cases h
  | _ :: _, [], _, h, .nil => by cases h
  | a :: x, b :: y, _, .cons r t, .cons r' t' => by
    rw [ents_rel t t']
    congr 1
    cases a with
    | none =>
      cases b with
      | none => rfl
      | some j => cases (show _ = Value.none from r); obtain ⟨_, e⟩ := (show ∃ t, Value.none = Value.int j t from r'); cases e
    | some i =>
      obtain ⟨u, rfl⟩ := (show ∃ t, _ = Value.int i t from r)
      cases b with
      | none => have e := (show Value.int i u = Value.none from r'); cases e
      | some j => obtain ⟨_, e⟩ := (show ∃ t, Value.int i u = Value.int j t from r'); cases e; rfl
theorem IsRowH.inj {h : Heap} {a : Addr} {x y : List (Option Int)} (hx : IsRowH h x a) (hy : IsRowH h y a) : x = y := by
  obtain ⟨its, r, ht⟩ := hx
  obtain ⟨its', r', ht'⟩ := hy
  have e := tup_inj ht ht'
  have e' : its = its' := by simpa using congrArg Array.toList e
  subst e'
  exact ents_rel r r'
theorem IsStdH.inj {h : Heap} {a : Addr} {x y : Std} (hx : IsStdH h x a) (hy : IsStdH h y a) : x = y := by
  obtain ⟨b, c, t, t', ht, h1, h2⟩ := hx
  obtain ⟨b', c', u, u', hu, k1, k2⟩ := hy
  have e := congrArg Array.toList (tup_inj ht hu)
  simp only [List.cons.injEq, and_true, Value.int.injEq, Value.ref.injEq] at e
  obtain ⟨⟨e1, _⟩, ⟨e2, _⟩, rfl, rfl⟩ := e
  have e3 := h1.inj k1
  have e4 := h2.inj k2
  cases x; cases y
  simp only at e1 e2 e3 e4
  rw [e1, e2, e3, e4]
theorem tup_keep {h h' : Heap} {a d : Addr} {x : Array Value} {o : Obj} {es ep} (hx : h.IsTuple a x) (ho : h.get? d = some o) (hd : o.data = .dict es ep) (hs : Heap.SameBut d h h') : h'.IsTuple a x := by
  obtain ⟨o', ho', hc, n, hd'⟩ := hx
  have hne : a ≠ d := by
    rintro rfl
    rw [ho] at ho'
    obtain rfl := Option.some.inj ho'
    rw [hd] at hd'
    exact nomatch hd'
  exact ⟨o', (hs.2 a hne).trans ho', hc, n, hd'⟩
section
variable {prog : Program} {w : World} {A : Around} {E : Value → Shared → Prop} {s : Shared}
theorem pyHash_none {Q : Int → Shared → Prop} (h : Q noneHash { s with toks := s.toks + 1 }) : wpAny (model prog w) A (pyHash .none) Q E s := by
  have hT := typeIs_none s
  unfold pyHash
  unfold pyHashByItsType
  have hv : [Value.none].any Value.onHeap = false := rfl
  refine wpAny_bind ?_
  rw [cRoomFor, if_neg (by rw [hv]; exact Bool.false_ne_true)]; refine wpAny_pure ?_
  refine wpAny_bind (wpAny_specialOf hT F.slot_NoneType_hash.lookup ?_)
  refine (show wpAny _ _ (if (some (Value.builtin "NoneType.__hash__") == some Value.none) = true then _ else _) Q E s from ?_)
  rw [if_neg (by rw [beq_builtin_none]; exact Bool.false_ne_true)]
  refine wpAny_bind (wpAny_specialOf hT F.slot_NoneType_hash.lookup ?_)
  refine (show wpAny _ _ (callSpecialIfBoundUnlessNone? Value.none "__hash__" _ >>= _) Q E s from ?_)
  refine wpAny_bind (wpAny_callSpecialIfBoundUnlessNone?_slot hT F.slot_NoneType_hash (wpAny_call_entry F.slot_NoneType_hash hT F.entry_NoneType_hash ?_ (F.args_NoneType_hash_1 _)))
  refine (show wpAny _ _ (do ret (← mkInt 0xFCA86420)) _ _ s from wpAny_ret_mkInt ?_)
  exact wpAny_pure h
/-- the hash of a tuple, by its items' -/
theorem pyHash_items {a : Addr} {all : List (Value × Int × Nat)} {Q : Int → Shared → Prop} (hu : A.units < cLine) (ht : s.heap.IsTuple a (all.map (·.1)).toArray)
    (hi : ∀ x ∈ all, ∀ (tk : Nat) (Q : Int → Shared → Prop), Q x.2.1 { s with toks := tk + x.2.2 } → wpAny (model prog w) A.in1 (pyHash x.1) Q E { s with toks := tk })
    (h : Q (reduceHash (Builtin.Tuple.tupleHashOf (all.map (·.2.1)))) { s with toks := s.toks + ((all.map (·.2.2)).sum + 1) }) : wpAny (model prog w) A (pyHash (.ref a)) Q E s := by
  have hT : s.TypeIs (.ref a) "tuple" := let ⟨o, ho, hc, _⟩ := ht; ⟨o, ho, hc⟩
  obtain ⟨o, ho, _, n, hd⟩ := ht
  unfold pyHash
  unfold pyHashByItsType
  refine wpAny_bind (wpAny_cRoomFor_or (.inr hu) ?_)
  refine wpAny_bind (wpAny_specialOf hT F.slot_tuple_hash.lookup ?_)
  refine (show wpAny _ _ (if (some (Value.builtin "tuple.__hash__") == some Value.none) = true then _ else _) Q E s from ?_)
  rw [if_neg (by rw [beq_builtin_none]; exact Bool.false_ne_true)]
  refine wpAny_bind (wpAny_specialOf hT F.slot_tuple_hash.lookup ?_)
  refine (show wpAny _ _ (callSpecialIfBoundUnlessNone? (.ref a) "__hash__" _ >>= _) Q E s from ?_)
  refine wpAny_bind (wpAny_callSpecialIfBoundUnlessNone?_slot hT F.slot_tuple_hash (wpAny_call_entry F.slot_tuple_hash hT F.entry_tuple_hash ?_ (F.args_tuple_hash_1 _)))
  refine (show wpAny _ _ (Builtin.Tuple.tupleItemsOf (.ref a) >>= _) _ _ s from wpAny_bind (wpAny_tupleItemsOf ho hd (wpAny_bind ?_)))
  rw [← Array.forIn_toList]
  refine wpAny_forIn_list _
    (fun rest (b : Array Int) s' => ∃ done left, all = done ++ left ∧ rest = left.map (·.1) ∧ b.toList = done.map (·.2.1) ∧ s' = { s with toks := s.toks + (done.map (·.2.2)).sum })
    _ ?_ ?_ _ _ ⟨[], all, rfl, by simp, rfl, rfl⟩
  · rintro x rest b s' ⟨done, left, rfl, hl, hb, rfl⟩
    match left, hl with
    | y :: left', hl =>
      rw [List.map_cons] at hl
      obtain ⟨rfl, rfl⟩ := List.cons.inj hl
      refine wpAny_bind (hi y (by simp) _ _ ?_)
      first
        | exact wpAny_pure ⟨done ++ [y], left', by simp, rfl, by simp [hb], by simp [Nat.add_assoc]⟩
        | exact wpAny_bind (wpAny_pure (wpAny_pure ⟨done ++ [y], left', by simp, rfl, by simp [hb], by simp [Nat.add_assoc]⟩))
  · rintro b s' ⟨done, left, rfl, hl, hb, rfl⟩
    have : left = [] := List.map_eq_nil_iff.mp hl.symm
    subst this
    rw [List.append_nil] at h
    refine (show wpAny _ _ (retInt (Builtin.Tuple.tupleHashOf b.toList)) _ _ _ from ?_)
    rw [hb]
    refine wpAny_ret_mkInt ?_
    refine (show wpAny _ _ (if (decide (-(2 : Int) ^ 63 ≤ Builtin.Tuple.tupleHashOf (done.map (·.2.1))) && decide (Builtin.Tuple.tupleHashOf (done.map (·.2.1)) < 2 ^ 63)) = true then _ else _) Q E _ from ?_)
    unfold reduceHash at h
    by_cases hr : (decide (-(2 : Int) ^ 63 ≤ Builtin.Tuple.tupleHashOf (done.map (·.2.1))) && decide (Builtin.Tuple.tupleHashOf (done.map (·.2.1)) < 2 ^ 63)) = true
    · rw [if_pos hr]
      rw [if_pos hr] at h
      exact wpAny_pure (by simpa [Nat.add_assoc] using h)
    · rw [if_neg hr]
      rw [if_neg hr] at h
      exact wpAny_bind (wpAny_rule (wpAny_pure (by simpa [Nat.add_assoc] using h)))
theorem pyHash_row {x : List (Option Int)} {a : Addr} {Q : Int → Shared → Prop} (hu : A.units < cLine) (hx : IsRowH s.heap x a) (h : Q (rowHash x) { s with toks := s.toks + (x.length + 1) }) : wpAny (model prog w) A (pyHash (.ref a)) Q E s := by
  obtain ⟨its, r, ht⟩ := hx
  have hl := r.length
  rw [List.length_map] at hl
  have sums : ∀ {x : List (Option Int)} {its : List Value}, Vals (x.map ent) its → ∃ all : List (Value × Int × Nat), all.map (·.1) = its ∧ all.map (·.2.1) = x.map entHash ∧ (all.map (·.2.2)).sum = x.length ∧ ∀ y ∈ all, y.2.2 = 1 ∧ ((y.1 = .none ∧ y.2.1 = noneHash) ∨ ∃ i t, y.1 = .int i t ∧ y.2.1 = hashInt i) := by
    intro x
    induction x with
    | nil => intro its r; cases r; exact ⟨[], rfl, rfl, rfl, fun y hy => by cases hy⟩
    | cons e x ih =>
      intro its r
      cases r with
      | cons r t =>
        obtain ⟨all, a1, a2, a3, a4⟩ := ih t
        cases e with
        | none =>
          cases (show _ = Value.none from r)
          refine ⟨(.none, noneHash, 1) :: all, by simp [a1], by simp [a2, entHash], by simp [a3]; omega, fun y hy => ?_⟩
          rcases List.mem_cons.mp hy with rfl | hy
          · exact ⟨rfl, .inl ⟨rfl, rfl⟩⟩
          · exact a4 y hy
        | some i =>
          obtain ⟨u, rfl⟩ := (show ∃ t, _ = Value.int i t from r)
          refine ⟨(.int i u, hashInt i, 1) :: all, by simp [a1], by simp [a2, entHash], by simp [a3]; omega, fun y hy => ?_⟩
          rcases List.mem_cons.mp hy with rfl | hy
          · exact ⟨rfl, .inr ⟨i, u, rfl, rfl⟩⟩
          · exact a4 y hy
  obtain ⟨all, a1, a2, a3, a4⟩ := sums r
  refine pyHash_items (all := all) hu (by rw [a1]; exact ht) (fun y hy tk Q' hq => ?_) (by rw [a2, a3]; exact h)
  obtain ⟨e1, e2⟩ := a4 y hy
  rw [e1] at hq
  rcases e2 with ⟨e3, e4⟩ | ⟨i, t, e3, e4⟩
  · rw [e3]; rw [e4] at hq; exact pyHash_none hq
  · rw [e3]; rw [e4] at hq; exact wpAny_pyHash_int hq
theorem pyHash_std {x : Std} {a : Addr} {Q : Int → Shared → Prop} (hu : A.units + 1 < cLine) (hx : IsStdH s.heap x a) (h : Q (stdHash x) { s with toks := s.toks + (x.se.length + x.to.length + 5) }) : wpAny (model prog w) A (pyHash (.ref a)) Q E s := by
  obtain ⟨b, c, t, t', ht, h1, h2⟩ := hx
  refine pyHash_items (all := [(.int x.ah t, hashInt x.ah, 1), (.int x.rs t', hashInt x.rs, 1), (.ref b, rowHash x.se, x.se.length + 1), (.ref c, rowHash x.to, x.to.length + 1)]) (by omega) ht (fun y hy tk Q' hq => ?_) ?_
  · simp only [List.mem_cons, List.not_mem_nil, or_false] at hy
    rcases hy with rfl | rfl | rfl | rfl
    · exact wpAny_pyHash_int hq
    · exact wpAny_pyHash_int hq
    · exact pyHash_row (by show A.units + 1 < cLine; exact hu) h1 hq
    · exact pyHash_row (by show A.units + 1 < cLine; exact hu) h2 hq
  · have e : (([(.int x.ah t, hashInt x.ah, 1), (.int x.rs t', hashInt x.rs, 1), (.ref b, rowHash x.se, x.se.length + 1), (.ref c, rowHash x.to, x.to.length + 1)] : List (Value × Int × Nat)).map (·.2.2)).sum + 1 = x.se.length + x.to.length + 5 := by simp; omega
    rw [e]
    exact h
theorem rowAt {x y : List (Option Int)} {a b : Addr} (hu : A.units < cLine) (hx : IsRowH s.heap x a) (hy : IsRowH s.heap y b) : SeqAt.EqAt A s (.ref a) (.ref b) (decide (x = y)) := by
  by_cases hab : a = b
  · subst hab
    rw [decide_eq_true (hx.inj hy)]
    exact SeqAt.EqAt.same _
  · obtain ⟨its, r1, p1⟩ := hx
    obtain ⟨its2, r2, p2⟩ := hy
    have l1 := r1.length
    have l2 := r2.length
    rw [List.length_map] at l1 l2
    refine SeqAt.EqAt.of_refs hab ?_
    have q := SeqAt.RcAt.tuples (A := A) (s := s) (e := fun j => decide ((x[j]?).getD none = (y[j]?).getD none)) p1 p2 hu fun j h1 h2 => ?_
    · rw [List.size_toArray, List.size_toArray, ← l1, ← l2, ents_all] at q
      exact q
    · obtain ⟨u, hx, rx⟩ := rel_at r1 j h1
      obtain ⟨v, hy, ry⟩ := rel_at r2 j h2
      rw [List.getElem?_map] at hx hy
      cases ex : x[j]? with
      | none => rw [ex] at hx; cases hx
      | some eu =>
        cases ey : y[j]? with
        | none => rw [ey] at hy; cases hy
        | some ev =>
          rw [ex] at hx
          rw [ey] at hy
          obtain rfl : ent eu = u := Option.some.inj hx
          obtain rfl : ent ev = v := Option.some.inj hy
          have := eqAt_V (A := A.in1) (s := s) rx ry (ent_flat eu) (ent_flat ev)
          rw [ent_eqV] at this
          exact this
theorem stdAt {x y : Std} {a b : Addr} (hu : A.units + 1 < cLine) (hx : IsStdH s.heap x a) (hy : IsStdH s.heap y b) : SeqAt.EqAt A s (.ref a) (.ref b) (decide (x = y)) := by
  by_cases hab : a = b
  · subst hab
    rw [decide_eq_true (hx.inj hy)]
    exact SeqAt.EqAt.same _
  · obtain ⟨b1, c1, t1, u1, p1, g1, g2⟩ := hx
    obtain ⟨b2, c2, t2, u2, p2, k1, k2⟩ := hy
    refine SeqAt.EqAt.of_refs hab ?_
    have q := SeqAt.RcAt.tuples (A := A) (s := s) (e := fun j => if j = 0 then (x.ah == y.ah) else if j = 1 then (x.rs == y.rs) else if j = 2 then decide (x.se = y.se) else decide (x.to = y.to)) p1 p2 (by omega) fun j h1 h2 => ?_
    · have e : ((List.range (min 4 4)).all (fun j => if j = 0 then (x.ah == y.ah) else if j = 1 then (x.rs == y.rs) else if j = 2 then decide (x.se = y.se) else decide (x.to = y.to)) && ((4 : Nat) == 4)) = decide (x = y) := by
        have e4 : List.range (min 4 4) = [0, 1, 2, 3] := rfl
        rw [e4]
        cases x; cases y
        rw [Bool.eq_iff_iff]
        simp
      exact e ▸ q
    · match j, h1, h2 with
      | 0, _, _ => exact SeqAt.EqAt.int_int _ _ _ _
      | 1, _, _ => exact SeqAt.EqAt.int_int _ _ _ _
      | 2, _, _ => exact rowAt (by show A.units + 1 < cLine; exact hu) g1 k1
      | 3, _, _ => exact rowAt (by show A.units + 1 < cLine; exact hu) g2 k2
      | j + 4, h1, _ => exact absurd h1 (by show ¬ (j + 4 < 4); omega)
theorem quiet_items (n : Nat) {a : Addr} {items : Array Value} {Q : Bool → Shared → Prop} (ht : s.heap.IsTuple a items) (hi : ∀ v ∈ items.toList, ∀ Q : Bool → Shared → Prop, Q true s → wpAny (model prog w) A (eqIsQuiet n v) Q E s) (h : Q true s) : wpAny (model prog w) A (eqIsQuiet (n + 1) (.ref a)) Q E s := by
  have hT : s.TypeIs (.ref a) "tuple" := let ⟨o, ho, hc, _⟩ := ht; ⟨o, ho, hc⟩
  obtain ⟨o, ho, _, m, hd⟩ := ht
  unfold eqIsQuiet
  refine wpAny_bind (wpAny_specialOf hT F.slot_tuple_eq.lookup ?_)
  refine (show wpAny _ _ (isInstance (.ref a) (.type "tuple") >>= _) _ _ s from wpAny_bind (wpAny_isInstance hT isSubtype_tuple_tuple ?_))
  simp only [Bool.not_true, Bool.false_eq_true, if_false]
  refine wpAny_bind (wpAny_seqItems ho hd (wpAny_bind ?_))
  refine (show wpAny _ _ (forIn items _ _) _ _ s from ?_)
  rw [← Array.forIn_toList]
  refine wpAny_forIn_list _ (fun rest r s' => r.1 = none ∧ s' = s ∧ ∀ v ∈ rest, v ∈ items.toList) _ ?_ ?_ _ _ ⟨rfl, rfl, fun v hv => hv⟩
  · rintro v rest r s' ⟨hr, rfl, hall⟩
    refine wpAny_bind (hi v (hall v List.mem_cons_self) _ ?_)
    simp only [Bool.not_true, Bool.false_eq_true, if_false]
    exact wpAny_pure ⟨rfl, rfl, fun u hu' => hall u (List.mem_cons_of_mem _ hu')⟩
  · rintro ⟨r1, r2⟩ s' ⟨hr, rfl, _⟩
    simp only at hr
    subst hr
    exact wpAny_pure h
theorem quiet_row (n : Nat) {x : List (Option Int)} {a : Addr} {Q : Bool → Shared → Prop} (hx : IsRowH s.heap x a) (h : Q true s) : wpAny (model prog w) A (eqIsQuiet (n + 1) (.ref a)) Q E s := by
  obtain ⟨its, r, ht⟩ := hx
  refine quiet_items n ht (fun v hv Q' hq => ?_) h
  have hb : carriedByValue v = true := by
    have hv' : v ∈ its := by simpa using hv
    clear hv
    have all : ∀ {x : List (Option Int)} {its : List Value}, Vals (x.map ent) its → ∀ v ∈ its, carriedByValue v = true := by
      intro x
      induction x with
      | nil => intro its r v hv; cases r; cases hv
      | cons e x ih =>
        intro its r v hv
        cases r with
        | cons r t =>
          rcases List.mem_cons.mp hv with rfl | hv
          · cases e with
            | none => cases (show v = Value.none from r); rfl
            | some i => obtain ⟨u, rfl⟩ := (show ∃ t, v = Value.int i t from r); rfl
          · exact ih t v hv
    exact all r v hv'
  rw [eqIsQuiet_byValue _ hb]
  exact wpAny_pure hq
theorem quiet_std {x : Std} {a : Addr} {Q : Bool → Shared → Prop} (hx : IsStdH s.heap x a) (h : Q true s) : wpAny (model prog w) A (eqIsQuiet 8 (.ref a)) Q E s := by
  obtain ⟨b, c, t, t', ht, h1, h2⟩ := hx
  refine quiet_items 7 ht (fun v hv Q' hq => ?_) h
  simp only [List.mem_cons, List.not_mem_nil, or_false] at hv
  rcases hv with rfl | rfl | rfl | rfl
  · rw [eqIsQuiet_byValue _ rfl]; exact wpAny_pure hq
  · rw [eqIsQuiet_byValue _ rfl]; exact wpAny_pure hq
  · exact quiet_row 6 h1 hq
  · exact quiet_row 6 h2 hq
end
def stdKind (prog : Program) (w : World) : HeapKind prog w Std where
  is := IsStdH
  hash := stdHash
  draws := fun x => x.se.length + x.to.length + 5
  room := fun A => A.units + 1 < cLine
  inj := fun hx hy => hx.inj hy
  keeps := fun {h h' k a d o es ep} hx ho hd hs => by
    obtain ⟨b, c, t, t', ht, ⟨i1, r1, p1⟩, ⟨i2, r2, p2⟩⟩ := hx
    exact ⟨b, c, t, t', tup_keep ht ho hd hs, ⟨i1, r1, tup_keep p1 ho hd hs⟩, ⟨i2, r2, tup_keep p2 ho hd hs⟩⟩
  pyHash := fun hu hk h => pyHash_std hu hk h
  eqBool := fun hu hx hy h => stdAt hu hx hy _ _ _ _ h
  quiet := fun hk h => quiet_std hk h
end L2
namespace L2
open PySem PySem.Spec PyProof.Rows
/-! ### a dict whose keys are stands -/
abbrev SX := List (Std × Addr × V)
def stdEntry (q : Std × Addr × Value) : DictEntry := ⟨stdHash q.1, .ref q.2.1, q.2.2⟩
abbrev P3 : SX → List (Std × Addr × Value) → Prop := Paired fun p q => p.1 = q.1 ∧ p.2.1 = q.2.1 ∧ RelV p.2.2 q.2.2
def DSφ (a : Addr) (xs : SX) (h : Heap) : Prop := xs.length ≤ sizeLine ∧ (a == sysModules) = false ∧ (xs.map (·.1)).Nodup ∧ ∃ vs : List (Std × Addr × Value), P3 xs vs ∧ ∃ o es ep, h.get? a = some o ∧ o.ExactDict ∧ o.data = .dict es ep ∧ es.toList = vs.map stdEntry
def DS (a : Addr) (xs : SX) : HO := .ext (DSφ a xs)
/-- what the dict holds at a key -/
def valS (xs : SX) (k : Std) : Option V := (xs.find? fun x => decide (x.1 = k)).map (·.2.2)
def putS (xs : SX) (k : Std) (b : Addr) (v : V) : SX := if (valS xs k).isSome then xs.map (fun x => if x.1 = k then (x.1, x.2.1, v) else x) else xs ++ [(k, b, v)]
theorem P3.val {xs : SX} {vs : List (Std × Addr × Value)} (r : P3 xs vs) (k : Std) : RelO (valS xs k) ((atKey vs k).map (·.2)) := by
  induction r with
  | nil => exact True.intro
  | @cons p q ps qs h t ih =>
    obtain ⟨h1, _, h2⟩ := h
    by_cases e : p.1 = k
    · have e' : q.1 = k := h1.symm.trans e
      have b : atKey (q :: qs) k = some q.2 := by simp [atKey, List.find?_cons, e']
      have b' : valS (p :: ps) k = some p.2.2 := by simp [valS, List.find?_cons, e]
      rw [b', b]; exact h2
    · have e' : ¬ q.1 = k := fun z => e (h1.trans z)
      have b : atKey (q :: qs) k = atKey qs k := by simp [atKey, List.find?_cons, e']
      have b' : valS (p :: ps) k = valS ps k := by simp [valS, List.find?_cons, e]
      rw [b', b]; exact ih
theorem P3.repl {xs : SX} {vs : List (Std × Addr × Value)} (r : P3 xs vs) (k : Std) {y : V} {u : Value} (ry : RelV y u) :
    P3 (xs.map fun x => if x.1 = k then (x.1, x.2.1, y) else x) (vs.map (putAt k u)) := by
  induction r with
  | nil => exact .nil
  | @cons p q ps qs h t ih =>
    rw [List.map_cons, List.map_cons]
    refine .cons ?_ ih
    obtain ⟨h1, h2, h3⟩ := h
    unfold putAt
    by_cases e : p.1 = k
    · rw [if_pos e, if_pos (h1.symm.trans e)]; exact ⟨h1, h2, ry⟩
    · rw [if_neg e, if_neg (fun z => e (h1.trans z))]; exact ⟨h1, h2, h3⟩
theorem P3.put {xs : SX} {vs : List (Std × Addr × Value)} (r : P3 xs vs) (k : Std) (b : Addr) {y : V} {u : Value} (ry : RelV y u) : P3 (putS xs k b y) (storedH vs k b u) := by
  have e : (valS xs k).isSome = (atKey vs k).isSome := by rw [(r.val k).isSome_eq, Option.isSome_map]
  unfold putS storedH
  rw [e]
  by_cases q : (atKey vs k).isSome = true
  · rw [if_pos q, if_pos q]; exact r.repl k ry
  · rw [if_neg q, if_neg q]; exact Paired.snoc r ⟨rfl, rfl, ry⟩
theorem P3.keys {xs : SX} {vs : List (Std × Addr × Value)} (r : P3 xs vs) : xs.map (·.1) = vs.map (·.1) := by
  induction r with
  | nil => rfl
  | cons h t ih => rw [List.map_cons, List.map_cons, ih, h.1]
/-- the dict at a, read: its keys are stands -/
structure SD (K : PySem.W.Frag) (H : Hp) (a : Addr) (xs : SX) : Prop where
  at_ : H a = some (DS a xs)
  keys : ∀ p ∈ xs, IsStd K H p.2.1 p.1
section
variable {X : Cx} {pins : List (Addr × Obj)} {σ : St} {H : Hp} {s : Shared} {a : Addr} {xs : SX} {A : Around} {E : Value → Shared → Prop}
theorem row_h (I : Inv X pins σ H s) {b : Addr} {x : List (Option Int)} (h : SqT X.K H b (x.map ent)) : IsRowH s.heap x b := by
  obtain ⟨its, r, ht, _⟩ := I.tuple h
  exact ⟨its, r, ht⟩
theorem std_h (I : Inv X pins σ H s) {b : Addr} {k : Std} (h : IsStd X.K H b k) : IsStdH s.heap k b := by
  obtain ⟨p, q, h1, h2, h3⟩ := h.ex
  obtain ⟨its, r, ht, _⟩ := I.tuple h1
  cases r with
  | cons r1 r =>
    cases r with
    | cons r2 r =>
      cases r with
      | cons r3 r =>
        cases r with
        | cons r4 r =>
          cases r
          obtain ⟨t, rfl⟩ := r1
          obtain ⟨t', rfl⟩ := r2
          cases r3
          cases r4
          exact ⟨p, q, t, t', ht, row_h I h2, row_h I h3⟩
theorem IsStd.inj (I : Inv X pins σ H s) {b : Addr} {k k' : Std} (h : IsStd X.K H b k) (h' : IsStd X.K H b k') : k = k' := (std_h I h).inj (std_h I h')
theorem SD.raw (I : Inv X pins σ H s) (d : H a = some (DS a xs)) : DSφ a xs s.heap := (I.hok a _ d).1
theorem SD.dict (I : Inv X pins σ H s) (d : SD X.K H a xs) : xs.length ≤ sizeLine ∧ (a == sysModules) = false ∧ (xs.map (·.1)).Nodup ∧ ∃ vs, P3 xs vs ∧ s.heap.DictOfH (stdKind X.prog X.w) a vs := by
  obtain ⟨z, hd, hn, vs, r, o, es, ep, h1, h2, h3, h4⟩ := SD.raw I d.at_
  refine ⟨z, hd, hn, vs, r, o, es, ep, h1, h2, h3, h4, ?_, by rw [← r.keys]; exact hn⟩
  have all : ∀ {l : SX} {m : List (Std × Addr × Value)}, P3 l m → (∀ p ∈ l, IsStd X.K H p.2.1 p.1) → ∀ x ∈ m, (stdKind X.prog X.w).is s.heap x.1 x.2.1 := by
    intro l m q
    induction q with
    | nil => intro _ x hx; exact nomatch hx
    | @cons p q ps qs hq t ih =>
      intro hl x hx
      rcases List.mem_cons.mp hx with e | hx
      · subst e
        rw [← hq.1, ← hq.2.1]
        exact std_h I (hl p List.mem_cons_self)
      · exact ih (fun p hp => hl p (List.mem_cons_of_mem _ hp)) x hx
  exact all r d.keys
end
/-! ### d[k], k in d, k not in d -/
section
variable {X : Cx}
variable {o i value : Expr} {pos pos' : Pos} {td ty tv : TE}
end
end L2
namespace L2
open PySem PySem.Spec PyProof.Rows
/-! ### a dict by its entries: its length, its keys as a list -/
def DRaw (d : Addr) (es : Array DictEntry) (ep : Nat) (h : Heap) : Prop := ∃ o, h.get? d = some o ∧ o.ExactDict ∧ o.data = .dict es ep
theorem DRaw.typeIs {s : Shared} {d : Addr} {es : Array DictEntry} {ep : Nat} (x : DRaw d es ep s.heap) : s.TypeIs (.ref d) "dict" := let ⟨o, ho, hc, _⟩ := x; ⟨o, ho, hc.1⟩
theorem DRaw.lt {h : Heap} {d : Addr} {es : Array DictEntry} {ep : Nat} (x : DRaw d es ep h) : d < h.objs.size := let ⟨_, ho, _⟩ := x; Heap.lt_size ho
theorem DRaw.at_ {h h' : Heap} {d : Addr} {es : Array DictEntry} {ep : Nat} (x : DRaw d es ep h) (e : ∀ o, h.get? d = some o → h'.get? d = some o) : DRaw d es ep h' := let ⟨o, ho, r⟩ := x; ⟨o, e _ ho, r⟩
section
variable {prog : Program} {w : World} {A : Around} {E : Value → Shared → Prop} {s : Shared} {d : Addr} {es : Array DictEntry} {ep : Nat}
end
section
variable {prog : Program} {w : World} {A : Around} {E : Value → Shared → Prop} {s : Shared} {d : Addr} {es : Array DictEntry} {ep : Nat}
end
section
variable {X : Cx}
end
end L2
namespace L2
open PySem PySem.Spec PyProof.Rows
/-! ### dict(pairs) of a list of pairs, the first of each a stand -/
theorem IsRowH.at_ {h h' : Heap} {x : List (Option Int)} {a : Addr} (r : IsRowH h x a) (k : ∀ b o, h.get? b = some o → h'.get? b = some o) : IsRowH h' x a := by
  obtain ⟨its, r, o, ho, z⟩ := r
  exact ⟨its, r, o, k _ _ ho, z⟩
theorem IsStdH.at_ {h h' : Heap} {x : Std} {a : Addr} (r : IsStdH h x a) (k : ∀ b o, h.get? b = some o → h'.get? b = some o) : IsStdH h' x a := by
  obtain ⟨b, c, t, t', ⟨o, ho, z⟩, h1, h2⟩ := r
  exact ⟨b, c, t, t', ⟨o, k _ _ ho, z⟩, h1.at_ k, h2.at_ k⟩
abbrev RQ := Addr × Std × Addr × Value
section
variable {prog : Program} {w : World} {A : Around} {h0 : Heap} {d it l : Addr} {L : List RQ}
end
section
variable {X : Cx} {pins : List (Addr × Obj)} {σ : St} {H : Hp} {s : Shared}
end
end L2
namespace L2
open PySem PySem.Spec PyProof.Rows
/-! ### a stand in a list of stands; list.insert -/
theorem SD.same {K : PySem.W.Frag} {H H' : Hp} {a : Addr} {xs : SX} (h : SD K H a xs) (e : Same H H') : SD K H' a xs := ⟨e _ _ h.at_, fun p hp => (h.keys p hp).same e⟩
/-- what is no tuple changes -/
theorem tup_upd {K : PySem.W.Frag} {H : Hp} {l a : Addr} {o' o : HO} {xs : List V} (hl : H l = some o') (hn : ∀ ys, o' ≠ .tup ys) (hf : ∀ u ys, o' ≠ .frz u (.tup ys)) (h : SqT K H a xs) : SqT K (upd H l o) a xs := by
  rcases h with (h | ⟨u, h⟩) | h
  · exact .inl (.inl (by rw [upd_ne (fun z => by rw [z, hl] at h; exact hn _ (Option.some.inj h))]; exact h))
  · exact .inl (.inr ⟨u, by rw [upd_ne (fun z => by rw [z, hl] at h; exact hf _ _ (Option.some.inj h))]; exact h⟩)
  · exact .inr h
theorem IsStd.updD {K : PySem.W.Frag} {H : Hp} {l a : Addr} {ys : SX} {o : HO} {s : Std} (h : IsStd K H a s) (hl : H l = some (DS l ys)) : IsStd K (upd H l o) a s := by
  obtain ⟨b, c, h1, h2, h3⟩ := h.ex
  have n1 : ∀ zs, DS l ys ≠ .tup zs := fun _ e => nomatch e
  have n2 : ∀ u zs, DS l ys ≠ .frz u (.tup zs) := fun _ _ e => nomatch e
  exact ⟨b, c, tup_upd hl n1 n2 h1, tup_upd hl n1 n2 h2, tup_upd hl n1 n2 h3⟩
theorem putS_keys_are {K : PySem.W.Frag} {H : Hp} {xs : SX} {k : Std} {b : Addr} {v : V} (h : ∀ p ∈ xs, IsStd K H p.2.1 p.1) (hb : IsStd K H b k) : ∀ p ∈ putS xs k b v, IsStd K H p.2.1 p.1 := by
  intro p hp
  unfold putS at hp
  split at hp
  · rw [List.mem_map] at hp
    obtain ⟨q, hq, rfl⟩ := hp
    split
    · exact h q hq
    · exact h q hq
  · rcases List.mem_append.mp hp with hp | hp
    · exact h p hp
    · rw [List.mem_singleton.mp hp]; exact hb
theorem SD.put {K : PySem.W.Frag} {H : Hp} {a b : Addr} {xs : SX} {k : Std} {v : V} (h : SD K H a xs) (hb : IsStd K H b k) : SD K (upd H a (DS a (putS xs k b v))) a (putS xs k b v) :=
  ⟨upd_same, fun p hp => (putS_keys_are h.keys hb p hp).updD h.at_⟩
section
variable {X : Cx} {pins : List (Addr × Obj)} {σ : St} {H : Hp} {s : Shared}
end
section
variable {X : Cx}
/-- xs.insert(i, y), 0 ≤ i ≤ len(xs) -/
def rInsert : V → List V → Hp → VK → Prop := fun x vs H Q => ∃ (l : Addr) (xs : List V) (i : Nat) (y : V), x = .ref l ∧ vs = [.int (i : Int), y] ∧ H l = some (.lst xs) ∧ i ≤ xs.length ∧ xs.length < 1000000 ∧ Q .non (upd H l (.lst (xs.take i ++ y :: xs.drop i)))
theorem mt_insert : MtM X "list.insert" rInsert := by
  intro pins s σ H x vs v us Q I rx rv h
  obtain ⟨l, xs, i, y, rfl, rfl, hH, hi, hz, q⟩ := h
  cases rx
  cases rv with
  | cons r1 rv =>
    cases rv with
    | cons r2 rv =>
      cases rv
      obtain ⟨t, rfl⟩ := r1
      obtain ⟨z, its, n, r, hl, e⟩ := I.lstM hH
      rename_i u2
      have hf : Builtin.List.listFitsIndex (i : Int) = true := fitsIndex_both (Int.le_trans (by decide) (Int.natCast_nonneg i)) (Int.lt_of_le_of_lt (Int.ofNat_le.mpr (Nat.le_trans hi (Nat.le_of_lt hz))) (by decide))
      have h0 : ¬ ((i : Int) < 0) := by omega
      have hmi : min ((i : Int).toNat) its.length = i := by rw [Int.toNat_natCast]; exact Nat.min_eq_left (by omega)
      generalize (i : Int) = ii at *
      have hf' : ¬ (!Builtin.List.listFitsIndex ii) = true := by rw [hf]; decide
      have hz' : its.toArray.size ≤ sizeLine := by rw [List.size_toArray, ← hl]; exact z
      have hm0 := PySem.AutoSeq1.list_insert_list_int_val_1 l its.toArray n ii t u2 hf' hz'
      refine call_meets F.slot_list_insert ⟨_, e, rfl⟩ F.entry_list_insert (F.args_list_insert_3 _ _ _) hm0 ⟨e, ?_⟩
      refine ⟨.non, _, I.lset (its' := its.take i ++ u2 :: its.drop i) hH e ?_ ?_ ?_, rfl, q⟩
      · simp only [h0, if_false, List.size_toArray, hmi]
        simp
        try rw [List.take_of_length_le (by rw [List.length_drop]; exact Nat.le_refl _)]
      · exact (r.take i).append (.cons r2 (r.drop i))
      · have h1 : (xs.take i ++ y :: xs.drop i).length = xs.length + 1 := by rw [List.length_append, List.length_cons, List.length_take, List.length_drop]; omega
        rw [h1]
        have : (1000000 : Nat) ≤ sizeLine := by decide
        omega
end
end L2
namespace L2
open PySem PySem.Spec PyProof.Rows
/-! ### for k in d, the keys being tuples: while it is walked the dict stands by its very entries; thawed behind it -/
abbrev XT := List (List Key × Addr × Value)
structure DtOk (P : Program) (w : World) (H : Hp) (d : Addr) (kvs : List (List Key × V)) (u : HO) (bs : Nat → Addr) : Prop where
  z : kvs.length ≤ sizeLine
  sm : (d == sysModules) = false
  ks : ∀ i k v, kvs[i]? = some (k, v) → H (bs i) = some (.tup (k.map kV))
  ex : ∃ (xs : XT) (es : Array DictEntry) (ep : Nat), Paired (fun (p : List Key × V) (q : List Key × Addr × Value) => p.1 = q.1 ∧ H q.2.1 = some (.tup (p.1.map kV)) ∧ RelV p.2 q.2.2) kvs xs ∧
    es.toList = xs.map (entryOfKey (tupleKind (mixKind P w))) ∧ (xs.map (·.1)).Nodup ∧ (∀ i x, xs[i]? = some x → bs i = x.2.1) ∧ u = .ext (DRaw d es ep)
section
variable {X : Cx}
/-- the keys stand where tuples stand -/
theorem DtOk.keep {P : Program} {w : World} {H H' : Hp} {d : Addr} {kvs : List (List Key × V)} {u : HO} {bs : Nat → Addr} (h : DtOk P w H d kvs u bs) (k : ∀ a xs, H a = some (.tup xs) → H' a = some (.tup xs)) : DtOk P w H' d kvs u bs := by
  obtain ⟨xs, es, ep, r, q⟩ := h.ex
  refine ⟨h.z, h.sm, fun i a v e => k _ _ (h.ks i a v e), xs, es, ep, ?_, q⟩
  clear q h
  induction r with
  | nil => exact .nil
  | @cons p q ps qs hq t ih => exact .cons ⟨hq.1, k _ _ hq.2.1, hq.2.2⟩ ih
end
section
variable {g : TG} {σ : St} {H : Hp}
end
section
variable {X : Cx}
end
end L2
namespace L2
open PySem PySem.Spec PyProof.Rows
/-! ### a comprehension whose element may raise, in a def's body -/
/-- a heap less one object -/
def less (B : Heap) (c : Addr) : Heap := B.update c fun o => { o with data := .freed }
theorem less_at (B : Heap) (c : Addr) : (less B c).get? c = none := by
  unfold less Heap.update Heap.get?
  simp only [Array.getElem?_modify, if_true]
  cases e : B.objs[c]? with
  | none => rfl
  | some o => rfl
theorem less_ne {B : Heap} {b c : Addr} (h : b ≠ c) : (less B c).get? b = B.get? b := Heap.get?_update_other _ _ (Ne.symm h)
theorem less_in (B : Heap) (c : Addr) : (less B c).StaysIn B := fun b o e => by
  by_cases h : b = c
  · subst h
    rw [less_at] at e
    cases e
  · rw [less_ne h] at e
    exact e
theorem frames_but {base h h' : Heap} {c : Addr} (hs : Heap.SameBut c h h') : ∀ {l : List Env}, h.FunFrames base l → c ∉ frs l → h'.FunFrames base l
  | [], _, _ => trivial
  | env :: rest, ⟨hk, ⟨L, o, hf, hn, ho, hd⟩, hr⟩, hc => by
    have hL : L ≠ c := fun z => hc (List.mem_filterMap.mpr ⟨env, List.mem_cons_self, by rw [hf, z]⟩)
    refine ⟨hk, ⟨L, o, hf, hn, (hs.2 L hL).trans ho, hd⟩, frames_but hs hr fun z => hc ?_⟩
    obtain ⟨e, he, hef⟩ := List.mem_filterMap.mp z
    exact List.mem_filterMap.mpr ⟨e, List.mem_cons_of_mem _ he, hef⟩
/-- the block's names have gone: what was held is held, over what stood but for them -/
theorem held_less {B h h' : Heap} {l : List Env} {e L c : Addr} {cls a0 : Value} {oc : Obj} (x : Heap.HeldW B l e cls a0 L h) (hB : B.get? c = some oc) (hc : h.get? c = some oc) (hd : ∀ vs, oc.data ≠ .fields vs) (hs : Heap.SameBut c h h') : Heap.HeldW (less B c) l e cls a0 L h' := by
  have hcl : c ∉ frs l := fun z => by
    obtain ⟨q, _⟩ := x.2.2.1.mem z
    rw [hB] at q
    cases q
  obtain ⟨f1, f2, f3, oe, vs, T, oT, ts, a1, a2, a3, a4, a5, a6, a7, a8, a9⟩ := PySem.W.heldW_base (less_in B c) x
  have hec : e ≠ c := fun z => by subst z; rw [hc] at a1; cases a1; exact hd _ a3
  have hTc : T ≠ c := fun z => by subst z; rw [hc] at a7; cases a7; exact hd _ a8
  refine ⟨fun b o q => ?_, f2, frames_but hs f3 hcl, oe, vs, T, oT, ts, (hs.2 e hec).trans a1, a2, a3, a4, a5, a6, (hs.2 T hTc).trans a7, a8, a9⟩
  have hb : b ≠ c := fun z => by subst z; rw [less_at] at q; cases q
  exact (hs.2 b hb).trans (f1 b o q)
/-- the flight is marked with the same frame again -/
theorem flight_again {M : Model} {A : Around} {E : Value → Shared → Prop} {s : Shared} {base : Heap} {l : List Env} {e L : Addr} {cls a0 : Value} {Q : Unit → Shared → Prop} (R : Heap.HeldW base l e cls a0 L s.heap)
    (h : ∀ h', Heap.HeldW base l e cls a0 L h' → (∀ b o, s.heap.get? b = some o → (∀ vs, o.data ≠ .fields vs) → h'.get? b = some o) → Q () { s with heap := h' }) : wpAny M A (setFlight (.ref e) (some L)) Q E s := by
  obtain ⟨hkb, hen, hl, oe, vs, T, oT, ts, he, hcls, hd, h1, hnT, hTe, hT, hdT, h3⟩ := R
  have hz : 3 < ts.size := (Array.getElem?_eq_some_iff.mp h3).1
  unfold setFlight
  refine wpAny_bind (wpAny_field he hd h1 ?_)
  rw [if_pos (show (Value.ref T != Value.none) = true from by simp)]
  have oth : ∀ b, b ≠ T → (s.heap.update T (Obj.mapFields (·.setIfInBounds 3 ((some L).elim Value.none fun f => rawInt f)))).get? b = s.heap.get? b := fun b hb => Heap.get?_update_other _ _ (Ne.symm hb)
  have nT : ∀ b o, s.heap.get? b = some o → (∀ vs, o.data ≠ .fields vs) → b ≠ T := fun b o hb hnf z => by
    subst z
    rw [hT] at hb
    cases hb
    exact hnf ts hdT
  refine wpAny_setField hT hdT hz (h _ ⟨fun b o q => ?_, hen, hl.of_keeps fun b o hb hnf => ⟨o, (oth b (nT b o hb hnf)).trans hb, rfl⟩, ?_⟩ fun b o hb hnf => (oth b (nT b o hb hnf)).trans hb)
  · have hb : b ≠ T := fun z => by subst z; rw [hnT] at q; cases q
    exact (oth b hb).trans (hkb b o q)
  · exact ⟨oe, vs, T, _, _, (oth e (Ne.symm hTe)).trans he, hcls, hd, h1, hnT, hTe, Heap.get?_update_self _ hT (Obj.isFreed_of_fields (Obj.data_mapFields hdT _)), Obj.data_mapFields hdT _, by simp [hz]⟩
section
variable {X : Cx} {E : XK} {pins : List (Addr × Obj)} {σ : St} {H : Hp} {s : Shared}
theorem un_later2 {outer : List Env} {H H' : Hp} {h h1 h2 B : Heap} (u : Un (frs outer) [] H H' h h1) (F : h1.FunFrames B outer) (hB1 : B.StaysIn h1) (hB2 : B.StaysIn h2) (up : ∀ b ∈ frs outer, ∀ o, h1.get? b = some o → (∀ vs, o.data ≠ .fields vs) → ∃ sl, h2.get? b = some { o with slots := sl })
    (cov : ∀ b o, h.get? b = some o → b ∉ frs outer → ∃ o', B.get? b = some o') : Un (frs outer) [] H H' h h2 := by
  have at2 : ∀ b o, h.get? b = some o → b ∉ frs outer → ∀ o1, h1.get? b = some o1 → h2.get? b = some o1 := fun b o e hb o1 e1 => by
    obtain ⟨o', eB⟩ := cov b o e hb
    have q := hB1 b o' eB
    rw [e1] at q; cases q
    exact hB2 b _ eB
  refine ⟨fun b o e n hb hx => at2 b o e hb o (u.keep b o e n hb hx), fun b o e n hb hx => ?_, u.free, fun b o e hx => ?_, u.tups, u.frzs, u.tbls⟩
  · obtain ⟨sl, e1⟩ := u.slot b o e n hb hx
    obtain ⟨_, o1, q1, q2⟩ := frs_mem F hb
    rw [e1] at q1; cases q1
    obtain ⟨sl2, e2⟩ := up b hb _ e1 q2
    exact ⟨sl2, e2⟩
  · obtain ⟨o1, e1⟩ := u.there b o e hx
    by_cases hb : b ∈ frs outer
    · obtain ⟨_, o2, q1, q2⟩ := frs_mem F hb
      obtain ⟨sl2, e2⟩ := up b hb _ q1 q2
      exact ⟨_, e2⟩
    · exact ⟨o1, at2 b o e hb o1 e1⟩
/-- an exception of an element leaves this body -/
theorem leave_held {a C c L : Addr} {a0 : Value} {B : Heap} {H' : Hp} {s' : Shared} {h6 : Heap} (Bd : Body X E) (I : Inv X pins σ H s) (T : Thrown X.prog X.w X.stack H s a C a0 B H' s') (hL : X.env.frame = some L) (hcn : X.s₀.heap.objs.size ≤ c) (hcH : H' c = none)
    (held : Heap.HeldW (less B c) X.stack a (.ref C) a0 L h6) (ups : ∀ b ∈ frs X.outer, ∀ o, s'.heap.get? b = some o → (∀ vs, o.data ≠ .fields vs) → ∃ sl, h6.get? b = some { o with slots := sl }) {x : Option Addr} (cx : x = none → C0 h6 a) (q : E (.ref C) x H') : X.xe (.ref a) { s' with heap := h6 } := by
  rw [Bd.xe]
  have hh := held
  rw [Bd.stk] at hh
  show wpAny _ X.A (do noteFrame (.ref a) X.env; setFlight (.ref a) none) _ _ _
  refine wpAny_bind (wpAny_noteFrame_againW hL hh.2.2.2 (kp_on2 (e := a) (s := { s' with heap := h6 }) (P := fun h7 => Heap.FlyingW (less B c) (X.env :: X.outer) a (.ref C) a0 h7 ∧ h6.UpToSlots h7) kp_flight (fun Q' hq => wpAny_landsW hh fun h7 fly7 up7 => hq h7 ⟨fly7, up7⟩) fun h7 ⟨fly7, up7⟩ cx' => ?_))
  have fly : Heap.FlyingW (less B c) X.outer a (.ref C) a0 h7 := ⟨fly7.1, fly7.2.1, fly7.2.2.1.2.2, fly7.2.2.2⟩
  have cov0 : ∀ b o, X.s₀.heap.get? b = some o → b ∉ frs X.outer → ∃ o', B.get? b = some o' := fun b o e hb => by
    obtain ⟨o1, e1⟩ := (Bd.base I).there b o e (by simp)
    exact T.cov b o1 e1 (Bd.notin (I.old e) hb)
  have cov : ∀ b o, X.s₀.heap.get? b = some o → b ∉ frs X.outer → ∃ o', (less B c).get? b = some o' := fun b o e hb => by
    rw [less_ne (Nat.ne_of_lt (Nat.lt_of_lt_of_le (Heap.lt_size e) hcn))]
    exact cov0 b o e hb
  have u1 : Un (frs X.outer) [] X.H₀ H' X.s₀.heap s'.heap := by
    have ub := Bd.base I
    refine ⟨fun b o e n hb hx => T.un.keep b o (ub.keep b o e n hb hx) (ub.free b o e n hx) (Bd.notin (I.old e) hb) (by simp), fun b o e n hb hx => ?_, fun b o e n hx => ?_, fun b o e hx => ?_, fun b xs e => T.un.tups b xs (ub.tups b xs e),
      fun b o xs e => T.un.frzs b o xs (ub.frzs b o xs e), fun b ps e => ?_⟩
    · obtain ⟨sl, e1⟩ := ub.slot b o e n hb hx
      obtain ⟨sl', e2⟩ := T.un.any e1 (ub.free b o e n hx) (by simp)
      exact ⟨sl', e2⟩
    · obtain ⟨o1, e1⟩ := ub.there b o e hx
      exact T.un.free b o1 e1 (ub.free b o e n hx) (by simp)
    · obtain ⟨o1, e1⟩ := ub.there b o e hx
      exact T.un.there b o1 e1 (by simp)
    · obtain ⟨m1, e1⟩ := ub.tbls b ps e
      obtain ⟨m2, e2⟩ := T.un.tbls b _ e1
      exact ⟨m1 ++ m2, by rw [e2, Array.append_assoc]⟩
  have tf := T.fly
  rw [Bd.stk] at tf
  have F' : s'.heap.FunFrames (less B c) X.outer := PySem.W.funFrames_base (less_in B c) tf.2.2.1.2.2
  have st1 : (less B c).StaysIn s'.heap := fun b o e => tf.1 b o (less_in B c b o e)
  have trk : ∀ b u, H' b = some u → ∃ o', (less B c).get? b = some o' := fun b u e => by
    rw [less_ne fun z => by rw [z, hcH] at e; cases e]
    exact T.trk b u e
  exact ⟨a, C, a0, less B c, H', x, rfl, ⟨T.os.trans I.os, T.bare, un_later2 u1 F' st1 fly.1 (fun b hb o e hn => by
    obtain ⟨sl, e2⟩ := ups b hb o e hn
    obtain ⟨sl2, e3⟩ := up7 b { o with slots := sl } e2 hn
    exact ⟨sl2, e3⟩) cov, hok_later T.hok st1 fly.1 trk, fly, cov, trk⟩, fun z => cx' (cx z), q⟩
end
end L2
namespace L2
open PySem PySem.Spec PyProof.Rows
section
variable {prog : Program} {w : World} {A : Around} {R : Result → Shared → Prop} {s : Shared}
/-- the loop of a list comprehension whose turns may raise: Er is what holds where they do -/
theorem compLoopX {elt target iter : Expr} {ifs : List Expr} {scope : Scope} {pos : Pos} {it acc : Value} {env : Env} {Er : Value → Shared → Prop} (hEr : ∀ e s', Er e s' → notedBy (model prog w) A env (fun e s' => R (.error e) s') e s') (I : Nat → Shared → Prop)
    (turn : ∀ n s, I n s → wpAny (model prog w) A (pyNext it) (fun r s₁ => match r with
      | none => R (.ok .next) s₁
      | some v => wpAny (model prog w) A (letOwnedTupleGo target it v) (fun _ s₁' => wpAny (model prog w) A (assign target env v) (fun _ s₂ =>
          wpAny (model prog w) A (forIn ifs true fun c r => if r = true then do let ok ← isTrue c env (eval c env); pure (ForInStep.yield ok) else pure (ForInStep.yield r)) (fun ok s₃ =>
            if ok = true then wpAny (model prog w) A (eval elt env) (fun x s₄ =>
              wpAny (model prog w) A (call (.builtin "list.append") [acc, x]) (fun _ s₅ => ∃ m, m < n ∧ I m s₅) Er s₄) Er s₃
            else ∃ m, m < n ∧ I m s₃) Er s₂) Er s₁') Er s₁) Er s)
    (n : Nat) (h : I n s) :
    codeAny (model prog w) A (.compLoop (.ListComp elt [⟨target, iter, ifs, 0⟩] scope pos) 0 it acc env) R s := by
  refine codeAny_loop rfl I (fun n s hI => ?_) n h
  show wpAny _ A ((compTurn (.ListComp elt [⟨target, iter, ifs, 0⟩] scope pos) 0 it acc env).onRaise (fun x => do noteFrame x env; theTreesLotGoes x)) _ _ s
  refine wpAny_noted ?_
  rw [compTurn_list]
  refine wpAny_bind (wpAny_standAt (wpAny_bind (wpAny_mono (turn n s hI) (fun r s₁ h₁ => ?_) hEr)))
  cases r with
  | none => exact wpAny_pure h₁
  | some v =>
    refine wpAny_bind (wpAny_mono h₁ (fun _ s₁' h₁' => ?_) hEr)
    refine wpAny_bind (wpAny_mono h₁' (fun _ s₂ h₂ => wpAny_bind (wpAny_mono h₂ (fun ok s₃ h₃ => ?_) hEr)) hEr)
    cases ok with
    | false => exact wpAny_pure ⟨rfl, h₃⟩
    | true =>
      exact wpAny_bind (wpAny_bind (wpAny_mono h₃ (fun x s₄ h₄ => wpAny_bind (wpAny_mono h₄ (fun _ s₅ h₅ => wpAny_pure (wpAny_pure ⟨rfl, h₅⟩)) hEr)) hEr))
end
/-- what is wanted behind a comprehension's block; its env is named -/
def PostX (M : Model) (A : Around) (E : Value → Shared → Prop) (Q : Value → Shared → Prop) (acc : Value) (cenv : Env) (r : Result) (s' : Shared) : Prop :=
  match r with
  | .ok _ => ∃ m, s'.heap.Ns cenv.locals m ∧ ∀ h', Heap.SameBut cenv.locals s'.heap h' → Q acc { s' with heap := h' }
  | .error x => ∃ m, s'.heap.Ns cenv.locals m ∧ ∀ h', Heap.SameBut cenv.locals s'.heap h' → wpAny M A (passOn "comprehension.variables-let-go" x cenv : Sem Value) (fun _ _ => False) E { s' with heap := h' }
theorem comp_rule {M : Model} {A : Around} {E : Value → Shared → Prop} {s : Shared} {env : Env} {e : Expr} {scope : Scope} {pos : Pos} {newAcc first : Sem Value} {g : Comprehension} {gs : List Comprehension} {cl : List (Str × Addr)} {Q : Value → Shared → Prop}
    (hcl : clausesOf e = g :: gs) (hs : ∀ x, foldedSetIterable g.iter env x = pure x) (hclos : closureFor scope env = pure cl) (hkind : scope.kind = .function) (hnames : ∀ x ∈ scope.names, x.2 = .local → scope.names.lookup x.1 = some .local)
    (h : wpAny M A first (fun x s1 => wpAny M A (pyIter x) (fun it s2 => wpAny M A newAcc (fun acc s3 => wpAny M A (newFunctionEnv scope env.globals cl [] env.qual none .none (some env)) (fun cenv s4 =>
      codeAny M A (.compStart e 0 it acc { cenv with scope := relabel scope env }) (PostX M A E Q acc { cenv with scope := relabel scope env }) s4) E s3) E s2) E s1) E s) :
    wpAny M A (comprehension e scope env pos newAcc false first none) Q E s := by
  unfold comprehension
  rw [hclos, hcl]
  refine wpAny_bind (thn h fun x s1 h1 => wpAny_bind (wpAny_standAt (wpAny_bind (wpAny_of_eq (hs x) (wpAny_bind (wpAny_holding (thn h1 fun it s2 h2 => ?_)))))))
  refine wpAny_standIf (wpAny_bind (thn h2 fun acc s3 h3 => wpAny_bind (wpAny_pure (wpAny_bind (thn h3 fun cenv s4 h4 => ?_)))))
  dsimp only
  refine wpAny_holding (wpAny_bind (wpAny_attempt (wpAny_holding (wpAny_run (codeAny_mono h4 fun r s' hr => ?_)))))
  have own : ∀ x ∈ (scope.names.filter fun x => (x.2 == .local || x.2 == .cell) && x.1 != (".0" : Str)).reverse, x.2 = .local → Env.kindOf { cenv with scope := relabel scope env } x.1 = some .local :=
    fun x hx hl => lookup_relabel_local (hnames x (List.mem_filter.mp (List.mem_reverse.mp hx)).1 hl)
  cases r with
  | ok f =>
    obtain ⟨m, hn, hr⟩ := hr
    exact wpAny_bind (wpAny_holding (wpAny_comp_letGo (cenv := { cenv with scope := relabel scope env }) hkind _ s' m own hn fun h' _ _ hb => wpAny_pure (hr h' hb)))
  | error x =>
    obtain ⟨m, hn, hr⟩ := hr
    exact wpAny_bind (wpAny_holding (wpAny_comp_letGo (cenv := { cenv with scope := relabel scope env }) hkind _ s' m own hn fun h' _ _ hb => wpAny_mono (hr h' hb) (fun _ _ z => z.elim) fun _ _ z => z))
/-- the context of the block of a comprehension whose element may raise -/
def cxX (X : Cx) (Nc : List Str) (scope : Scope) (C : Addr) (fp : List Addr) (s : Shared) (H : Hp) (E : XK) : Cx := (cxC X Nc scope C fp s H).wish fun e s' =>
  ∃ (a C' : Addr) (a0 : Value) (B : Heap) (σ' : St) (H' H2 : Hp) (s0 : Shared) (x : Option Addr), e = .ref a ∧ Inv (cxC X Nc scope C fp s H) [] σ' H' s0 ∧ Thrown X.prog X.w X.stack H' s0 a C' a0 B H2 s' ∧ (x = none → C0 s'.heap a) ∧ E (.ref C') x H2
theorem passX {X : Cx} {Nc : List Str} {scope : Scope} {C : Addr} {fp : List Addr} {s : Shared} {H : Hp} {E : XK} : Passes (CX1 X.prog X.w) (cxX X Nc scope C fp s H E) E := by
  intro pins2 σ2 H2 s2 e s' I h
  obtain ⟨a, C', a0, B, H', x, rfl, T, cx, q⟩ := h
  exact ⟨a, C', a0, B, σ2, H2, H', s2, x, rfl, (Inv.unwish I).unpinned (pins := []), T, cx, q⟩
section
variable {X : Cx} {tg elt iter : Expr} {ifs : List Expr} {scope : Scope} {pos : Pos} {wi : TI} {g : TG} {tt : TT} {te : TE} {Nc : List Str} {ix : List (Option Nat)} {E : XK}
theorem pe_lcX (Bd : Body X E) (hc : X.calm = true) (S : CompScope X Nc ix scope) (hi : PI X tg iter wi)
    (hb : ∀ (C : Addr) (fp : List Addr) (s : Shared) (H : Hp), PG (cxX X Nc scope C fp s H E) tg g ∧ PTs (cxX X Nc scope C fp s H E) ifs tt ∧ PE (cxX X Nc scope C fp s H E) elt te)
    (hs : ∀ x, foldedSetIterable iter X.env x = pure x := by intro _; rfl) : PE X (.ListComp elt [⟨tg, iter, ifs, 0⟩] scope pos) (tLC wi ix g tt te) := by
  intro pins s0 σ H0 Q I0 h0
  rw [eval_ListComp]
  refine comp_rule rfl hs (closure_of (S.cells I0)) S.kind S.loc (thn (hi pins s0 σ H0 _ I0 h0) fun v s1 h1 => thn h1 fun itv s h2 => ?_)
  obtain ⟨it, fp, tn, J, H, e, I, T, st, f, q2⟩ := h2
  subst e
  obtain ⟨hg, ht, he⟩ := hb (s.heap.objs.size + 1) fp s H
  obtain ⟨W, ⟨m0, w0⟩, turn⟩ := q2 s.heap.objs.size (I.hok.fresh (Nat.le_refl _))
  refine wpAny_newObj_type (newEnv_comp ?_)
  have I4 := inv_comp (t' := s.toks) S I f (fun b hb => let ⟨o, e, _⟩ := T.obj _ _ st b hb; ⟨o, e⟩)
  have hsz : (s.heap.push { cls := .type "list", dict := none, data := .seq ([] : List Value).toArray }).objs.size = s.heap.objs.size + 1 := Heap.size_push ..
  dsimp only
  rw [hsz]
  have st4 : tn 0 (pushCells ((s.heap.push { cls := .type "list", dict := none, data := .seq ([] : List Value).toArray }).push { cls := .type "dict", data := .dict #[] }) scope.names) :=
    T.keep _ _ _ st fun b _ o e => pushCells_keeps _ _ b o (Heap.get?_push_of_some _ (Heap.get?_push_of_some _ e))
  have fr4 : ∀ b ∈ fp, upd H s.heap.objs.size (.lst []) b = none := fun b hb => by
    obtain ⟨o, e, _⟩ := T.obj _ _ st b hb
    rw [upd_ne (Nat.ne_of_lt (Heap.lt_size e))]
    exact (f b hb).1
  have stat : ∀ {H' : Hp}, (∀ b ∈ fp, H' b = none) → ∀ b ∈ fp, FpOk (cxX X Nc scope (s.heap.objs.size + 1) fp s H E) [] H' b := fun {H'} hn b hb => by
    obtain ⟨q1, q2⟩ := I4.ok.exf b hb
    exact ⟨hn b hb, q1, I4.ok.exfs b hb, .inl hb, q2, fun p hp => absurd (show p ∈ ([] : List (Addr × Obj)) from hp) (by simp)⟩
  have stat' : ∀ {H' : Hp}, (∀ b ∈ fp, H' b = none) → ∀ b ∈ fp, FpOk (cxC X Nc scope (s.heap.objs.size + 1) fp s H) [] H' b := fun hn b hb => stat hn b hb
  obtain ⟨L, hL⟩ : ∃ L, X.env.frame = some L := ⟨_, Bd.fr⟩
  have frs0 : X.A.frames = some (X.env :: X.outer) := by rw [← Bd.stk]; exact I.ok.frames
  -- an element has raised
  have raised : ∀ e s', (cxX X Nc scope (s.heap.objs.size + 1) fp s H E).xe e s' → notedBy (model X.prog X.w) X.A (cxC X Nc scope (s.heap.objs.size + 1) fp s H).env (fun e s' => PostX (model X.prog X.w) X.A X.xe (EP X pins σ Q) (.ref s.heap.objs.size) (cxC X Nc scope (s.heap.objs.size + 1) fp s H).env (.error e) s') e s' := by
    rintro e s' ⟨a, C', a0, B, σ', H', H2, sr, x, rfl, Jr, Tr, cx, qE⟩
    show wpAny _ X.A (noteFrame (.ref a) X.env) _ _ s'
    have fly := Tr.fly
    rw [Bd.stk] at fly
    refine kp_on2 (e := a) (P := fun h4 => Heap.HeldW B (X.env :: X.outer) a (.ref C') a0 L h4 ∧ s'.heap.UpToSlots h4) kp_note (fun Q' hq => wpAny_looks_onW frs0 hL fly fun h4 held up4 => hq h4 ⟨held, up4⟩) fun h4 ⟨held, up4⟩ c4 => ?_
    -- the block's namespace
    obtain ⟨m, hn, _⟩ := Jr.loc
    obtain ⟨oc, es, ep, hoc, hrest⟩ := id hn
    have hcls : (cxC X Nc scope (s.heap.objs.size + 1) fp s H).env.locals = s.heap.objs.size + 1 := rfl
    have hcn : s.heap.objs.size + 1 ∉ frs X.stack := fun z => by
      obtain ⟨_, o, ho, _⟩ := Heap.FunFrames.mem (show s.heap.FunFrames X.base X.stack from Jr.ok.funs) z
      exact absurd (Heap.lt_size ho) (Nat.not_lt.mpr (Nat.le_succ _))
    have hd : ∀ vs, oc.data ≠ .fields vs := fun vs z => by
      have := hrest
      simp_all
    have e1 : s'.heap.get? (s.heap.objs.size + 1) = some oc := Tr.un.keep _ _ hoc Jr.free hcn (by simp)
    obtain ⟨oB, eB⟩ : ∃ oB, B.get? (s.heap.objs.size + 1) = some oB := Tr.cov _ _ hoc hcn
    have e2 : s'.heap.get? (s.heap.objs.size + 1) = some oB := Tr.fly.1 _ _ eB
    rw [e1] at e2
    cases e2
    have e4 : h4.get? (s.heap.objs.size + 1) = some oc := held.1 _ _ eB
    have hH2 : H2 (s.heap.objs.size + 1) = none := Tr.un.free _ _ hoc Jr.free (by simp)
    have IX : Inv X pins σ H' sr := comp_back I f Jr
    refine ⟨m, Heap.Ns.at' hn fun o eo => ?_, fun h5 hs5 => ?_⟩
    · rw [show sr.heap.get? (cxC X Nc scope (s.heap.objs.size + 1) fp s H).env.locals = some oc from hoc] at eo
      cases eo
      exact e4
    · have held5 := held_less held eB e4 hd hs5
      obtain ⟨_, _, _, oe, vs, TT, oT, ts, he', _, hd', h1', _⟩ := id held5
      unfold PySem.passOn
      refine wpAny_bind (wpAny_field he' hd' h1' ?_)
      rw [if_neg (show ¬ ((Value.ref TT == Value.none) = true) from by simp)]
      show wpAny _ X.A (do setFlight (.ref a) X.env.frame; throw (.ref a)) _ _ _
      rw [hL]
      have c5 : C0 h4 a → C0 h5 a := fun ⟨o, eo, d⟩ => ⟨o, (hs5.2 a fun z => by have z : a = s.heap.objs.size + 1 := z; rw [z, e4] at eo; cases eo; obtain ⟨vs, dv, _⟩ := d; exact hd vs dv).trans eo, d⟩
      refine wpAny_bind (kp_on2 (e := a) (s := { s' with heap := h5 }) (P := fun h6 => Heap.HeldW (less B (s.heap.objs.size + 1)) (X.env :: X.outer) a (.ref C') a0 L h6 ∧ ∀ b o, h5.get? b = some o → (∀ vs, o.data ≠ .fields vs) → h6.get? b = some o) kp_flight (fun Q' hq => flight_again held5 fun h6 held6 up6 => hq h6 ⟨held6, up6⟩) fun h6 ⟨held6, up6⟩ c6 => wpAny_throw ?_)
      rw [← Bd.stk] at held6
      show X.xe (.ref a) { s' with heap := h6 }
      refine leave_held (s' := s') Bd IX Tr hL (Nat.le_trans I.sz (Nat.le_succ _)) hH2 held6 (fun b hb o eo hnf => ?_) (fun z => c6 (c5 (c4 (cx z)))) qE
      have hbs : b ∈ frs X.stack := by
        rw [Bd.stk]
        obtain ⟨ev, h1, h2⟩ := List.mem_filterMap.mp hb
        exact List.mem_filterMap.mpr ⟨ev, List.mem_cons_of_mem _ h1, h2⟩
      obtain ⟨sl, e5⟩ := up4 b o eo hnf
      have hbc : b ≠ s.heap.objs.size + 1 := fun z => hcn (by rw [← z]; exact hbs)
      exact ⟨sl, up6 b _ ((hs5.2 b hbc).trans e5) hnf⟩
  have loop : codeAny (model X.prog X.w) X.A (.compLoop (.ListComp elt [⟨tg, iter, ifs, 0⟩] scope pos) 0 (.ref it) (.ref s.heap.objs.size) (cxC X Nc scope (s.heap.objs.size + 1) fp s H).env)
      (PostX (model X.prog X.w) X.A X.xe (EP X pins σ Q) (.ref s.heap.objs.size) (cxC X Nc scope (s.heap.objs.size + 1) fp s H).env)
      { s with heap := pushCells ((s.heap.push { cls := .type "list", dict := none, data := .seq ([] : List Value).toArray }).push { cls := .type "dict", data := .dict #[] }) scope.names } := by
    refine compLoopX raised (fun n s' => ∃ i σ' H', Inv (cxC X Nc scope (s.heap.objs.size + 1) fp s H) [] σ' H' s' ∧ tn i s'.heap ∧ (∀ b ∈ fp, H' b = none) ∧ W i n σ' H') ?_ m0 ⟨0, _, _, I4, st4, fr4, w0⟩
    rintro n s5 ⟨i, σ5, H5, I5, st5, fr5, w5⟩
    have I5x : Inv (cxX X Nc scope (s.heap.objs.size + 1) fp s H E) [] σ5 H5 s5 := Inv.wish I5 _
    rcases turn i n σ5 H5 w5 with ⟨stop, qn⟩ | ⟨go, step⟩
    · refine thn (T.done (cxX X Nc scope (s.heap.objs.size + 1) fp s H E) rfl rfl rfl hc i [] s5 σ5 H5 _ I5x (stat fr5) st5 stop) fun r s6 ⟨hr, I6⟩ => ?_
      subst hr
      have I6' : Inv (cxC X Nc scope (s.heap.objs.size + 1) fp s H) [] σ5 H5 s6 := Inv.unwish I6
      obtain ⟨m, hn, _⟩ := I6'.loc
      exact ⟨m, hn, fun h' hsb => ⟨.ref _, H5, (comp_back I f I6').letgo (I.fpOk (Nat.le_succ _) I6'.free) hsb, rfl, qn⟩⟩
    · refine thn (T.item (cxX X Nc scope (s.heap.objs.size + 1) fp s H E) rfl rfl rfl hc i [] s5 σ5 H5 _ I5x (stat fr5) st5 go) fun r s6 ⟨u, hr, h6⟩ => ?_
      subst hr
      refine thn h6 fun _ s7 ⟨x, H7, I7, r7, y7, st7, fr7⟩ => ?_
      have I7' := Inv.pinned I7 (stat fr7) (T.obj _ _ st7)
      refine thn (hg _ s7 σ5 H7 x u _ I7' r7 (step x H7 y7)) fun _ s8 ⟨σ8, H8, I8, q8⟩ => ?_
      refine thn (ht _ s8 σ8 H8 _ I8 q8) fun b s9 ⟨H9, I9, q9⟩ => ?_
      have again : ∀ {s' : Shared} {σ' : St} {H' : Hp}, Inv (cxX X Nc scope (s.heap.objs.size + 1) fp s H E) ([] ++ pinsAt fp s7.heap) σ' H' s' → tn (i + 1) s'.heap ∧ ∀ b ∈ fp, H' b = none := fun {s' σ' H'} I' => by
        refine ⟨T.keep _ _ _ st7 fun b hb o e => (I'.pin (b, o) (List.mem_append_right _ (List.mem_append_right _ (mem_pinsAt hb e)))).1, fun b hb => ?_⟩
        obtain ⟨o, e, d⟩ := T.obj _ _ st7 b hb
        exact (I'.pin (b, o) (List.mem_append_right _ (List.mem_append_right _ (mem_pinsAt hb e)))).2.1
      cases b with
      | false =>
        rw [if_neg Bool.false_ne_true] at q9 ⊢
        obtain ⟨m', hm, w9⟩ := q9
        obtain ⟨a1, a2⟩ := again I9
        exact ⟨m', hm, i + 1, σ8, H9, Inv.unwish (Inv.unpinned I9), a1, a2, w9⟩
      | true =>
        rw [if_pos rfl] at q9 ⊢
        refine thn (he _ s9 σ8 H9 _ I9 q9) fun v s10 ⟨x', H10, I10, r10, xs, eD, hlt, m', hm, w10⟩ => ?_
        refine thn (mt_append (X := cxX X Nc scope (s.heap.objs.size + 1) fp s H E) _ s10 σ8 H10 (.ref s.heap.objs.size) [x'] (.ref s.heap.objs.size) [v] (fun _ H' => H' = upd H10 s.heap.objs.size (.lst (xs ++ [x']))) I10 rfl (.cons r10 .nil)
          ⟨_, xs, x', rfl, rfl, eD, hlt, rfl⟩) fun _ s11 ⟨_, H11, I11, _, e11⟩ => ?_
        subst e11
        obtain ⟨a1, a2⟩ := again I11
        exact ⟨m', hm, i + 1, σ8, _, Inv.unwish (Inv.unpinned I11), a1, a2, w10⟩
  exact codeAny_compStart_list loop (T.self X.A 0 _ _ _ st4 loop)
end
end L2
namespace L2
open PySem PySem.Spec PyProof.Rows
/-! ### a text walked sign by sign -/
/-- a text by its codes -/
abbrev ofCodes (cs : List Nat) : Str := ⟨cs.toArray⟩
def Its (cs : List Nat) : It := ⟨fun i _ => i < cs.length, fun i H v H' => H' = H ∧ ∃ c, cs[i]? = some c ∧ v = .str ⟨#[c]⟩, fun i _ => cs.length ≤ i⟩
theorem turn_str {P : Program} {w : World} {K : PySem.W.Frag} {tg : Expr} (it : Addr) (cs : List Nat) (t : Tok) : Turn P w K tg (Its cs) [it] it (fun i h => h.IsStrIter it "str_ascii_iterator" (ofCodes cs) t i) where
  mem := by simp
  obj := fun i h st b hb => by
    have e : b = it := by simpa using hb
    subst e
    obtain ⟨o, e, c, d⟩ := st
    exact ⟨o, e, fun v z => by rw [d] at z; cases z⟩
  keep := fun i h h' st k => let ⟨o, e, r⟩ := st; ⟨o, k it (by simp) o e, r⟩
  item := by
    intro X hP hw hK hc i pins s σ H E I hf st hg
    subst hP hw hK
    obtain ⟨f0, f1, f2, f3, f4, f5⟩ := hf it (by simp)
    have hi : i < cs.length := hg
    refine wpAny_pyNext_ascii_item st (c := cs[i]) (by simp [ofCodes, hi]) fun h' st' sb => ?_
    have I1 : Inv X pins σ H { s with heap := h', toks := s.toks + 1 } := I.turned (fun b o hb e => (sb.2 b hb).trans e) f0 f1 f3 f4 f5
    obtain ⟨o, e, c, d⟩ := id st'
    exact ⟨_, rfl, go_of (s := { s with heap := h', toks := s.toks + 1 }) e c d (by decide) ⟨.str ⟨#[cs[i]]⟩, H, I1, ⟨_, rfl⟩, ⟨rfl, cs[i], by simp [hi], rfl⟩, st', fun b hb => (hf b hb).1⟩⟩
  done := by
    intro X hP hw hK hc i pins s σ H E I hf st hg
    subst hP hw hK
    obtain ⟨f0, f1, f2, f3, f4, f5⟩ := hf it (by simp)
    have hi : cs.length ≤ i := hg
    exact wpAny_pyNext_ascii_end (I.ok.hd hc) st (by simp [ofCodes]; omega) fun h' eb => ⟨rfl, I.turned (t' := s.toks) (fun b o hb e => eb b o hb e) f0 f1 f3 f4 f5⟩
  self := fun _ _ _ _ _ st h => wpAny_pyIter_striter_ascii st h
section
variable {X : Cx}
def iStr (tl : TE) : TI := fun σ H R => tl σ H fun x H1 => ∃ cs : List Nat, x = .str (ofCodes cs) ∧ (∀ c ∈ cs, c < 128) ∧ R (Its cs) H1
theorem pi_str {tg l : Expr} {tl : TE} (hl : PE X l tl) : PI X tg l (iStr tl) := by
  intro pins s σ H R I h
  refine thn (hl pins s σ H _ I h) fun v s1 ⟨x, H1, I1, r1, q1⟩ => ?_
  obtain ⟨cs, rfl, ha, q⟩ := q1
  obtain ⟨t, rfl⟩ := r1
  refine wpAny_pyIter_ascii (by simp only [ofCodes, List.all_toArray, List.all_eq_true, decide_eq_true_eq]; exact ha) ?_
  refine ⟨s1.heap.objs.size, [s1.heap.objs.size], _, _, H1, rfl, I1.kept (t' := s1.toks) fun b o e => Heap.get?_push_of_some _ e, turn_str _ cs t, ⟨_, Heap.get?_push_size _ rfl, rfl, rfl⟩, fun b hb => ?_, q⟩
  have e : b = s1.heap.objs.size := by simpa using hb
  subst e
  exact I1.fpOk (Nat.le_refl _) (I1.hok.fresh (Nat.le_refl _))
/-! ### methods of texts -/
theorem mt_find : MtR X "str.find" (fun x vs H Q => ∃ y z, x = .str y ∧ vs = [.str z] ∧ Q (.int (Txt.find y z)) H) := by
  intro pins s σ H x vs v us Q I rx rv h
  obtain ⟨y, z, rfl, rfl, q⟩ := h
  obtain ⟨t, rfl⟩ := rx
  obtain ⟨u, rfl, ru⟩ := rv.one
  obtain ⟨t', rfl⟩ := ru
  exact SC.find ⟨.int (Txt.find y z), H, I.tok _, ⟨_, rfl⟩, q⟩
theorem strs_of : ∀ {ys : List Str} {us : List Value}, Vals (ys.map V.str) us → StrsAre us ys
  | [], _, .nil => .nil
  | y :: _, _, .cons r t => by
    obtain ⟨tk, rfl⟩ := r
    exact .cons y tk (strs_of t)
theorem mt_join (K : PySem.W.Frag) (hK : X.K = K := by rfl) : MtR X "str.join" (fun x vs H Q => ∃ (y : Str) (p : Addr) (ys : List Str), x = .str y ∧ vs = [.ref p] ∧ SqL K H p (ys.map V.str) ∧ (ys.map (·.length)).sum + ys.length * y.length ≤ 16777216 ∧ Q (.str (Txt.join y ys)) H) := by
  subst hK
  intro pins s σ H x vs v us Q I rx rv h
  obtain ⟨y, p, ys, rfl, rfl, hp, hz, q⟩ := h
  obtain ⟨t, rfl⟩ := rx
  obtain ⟨u, rfl, ru⟩ := rv.one
  cases ru
  obtain ⟨its, r1, p1, _⟩ := I.list hp
  exact join_list p1.isList (by simpa using strs_of r1) hz fun t' k => ⟨.str (Txt.join y ys), H, I.tok _, ⟨_, rfl⟩, q⟩
end
section
variable {K : PySem.W.Frag} {g : TG} {tt : TT} {te : TE} {D : Addr} {σ : St} {H : Hp} {Q : VK}
theorem lc_str {cs : List Nat} (Pv : Nat → St → Hp → Prop) (h0 : Pv 0 σ H)
    (hs : ∀ (i c : Nat) (σ : St) (H : Hp) (N : St → Hp → Prop), (∀ σ H, Pv (i + 1) σ H → N σ H) → cs[i]? = some c → Pv i σ H → g (.str ⟨#[c]⟩) σ H fun σ3 H3 => tt σ3 H3 fun b H4 =>
      if b = true then te σ3 H4 fun v H5 => ∃ ys, H5 D = some (.lst ys) ∧ ys.length < sizeLine ∧ N σ3 (upd H5 D (.lst (ys ++ [v]))) else N σ3 H4)
    (hd : ∀ σ H, Pv cs.length σ H → Q (.ref D) H) : lcRun (Its cs) g tt te D σ H Q := by
  refine ⟨fun i m σ H => m = cs.length - i ∧ i ≤ cs.length ∧ Pv i σ H, ⟨cs.length, by simp, Nat.zero_le _, h0⟩, ?_⟩
  rintro i m σ' H' ⟨rfl, hi, p⟩
  by_cases hlt : i < cs.length
  · refine .inr ⟨hlt, fun x H2 y => ?_⟩
    obtain ⟨e, c, hc, y⟩ := y
    subst e y
    exact hs i c σ' _ (fun σ3 H3 => ∃ m', m' < cs.length - i ∧ m' = cs.length - (i + 1) ∧ i + 1 ≤ cs.length ∧ Pv (i + 1) σ3 H3) (fun σ3 H3 z => ⟨cs.length - (i + 1), by omega, rfl, hlt, z⟩) hc p
  · have e : i = cs.length := by omega
    subst e
    exact .inl ⟨Nat.le_refl _, hd σ' H' p⟩
end
end L2
namespace L2
open PySem PySem.Spec PyProof.Rows
section
variable {X : Cx}
end
theorem join_signs : ∀ cs : List Nat, Txt.join Str.empty (cs.map fun c => (⟨#[c]⟩ : Str)) = ofCodes cs := by
  intro cs
  show Builtin.Str.glued Str.empty _ = _
  rw [PySem.StrLaws.glued_eq_join]
  induction cs with
  | nil => rfl
  | cons c r ih =>
    cases r with
    | nil => rfl
    | cons d r =>
      show (⟨#[c]⟩ : Str) ++ Str.empty ++ Str.join Str.empty ((d :: r).map fun c => (⟨#[c]⟩ : Str)) = _
      rw [ih]
      show (⟨#[c] ++ #[] ++ (d :: r).toArray⟩ : Str) = ⟨(c :: d :: r).toArray⟩
      congr 1
      simp
theorem ofCodes_append (a b : List Nat) : ofCodes a ++ ofCodes b = ofCodes (a ++ b) := by
  show (⟨a.toArray ++ b.toArray⟩ : Str) = ⟨(a ++ b).toArray⟩
  congr 1
  simp
theorem ofCodes_length (a : List Nat) : (ofCodes a).length = a.length := by simp [Str.length, ofCodes]
end L2
namespace L2
open PySem PySem.Spec PyProof.Rows
/-! ### exceptions made, not raised; their own __init__; their attributes -/
theorem hok_there {P : Program} {w : World} {H : Hp} {h : Heap} (x : HOk P w H h) {a : Addr} (e : h.get? a = none) : H a = none := by
  cases q : H a with
  | none => rfl
  | some u => exact absurd e (ps_raise.objOk_there (x a u q))
section
variable {X : Cx} {pins : List (Addr × Obj)} {σ : St} {H : Hp} {s : Shared}
/-- an exception as it is made, without a dict -/
def ExcNew (a C : Addr) (h : Heap) : Prop := ∃ t0 : Addr, h.get? a = some { cls := .ref C, data := .fields #[.ref t0, .none, .none, .none, .bool false, .none] }
/-- an exception with its dict at dx -/
def ExcDict (a C dx : Addr) (h : Heap) : Prop := ∃ t0 : Addr, h.get? a = some { cls := .ref C, dict := some dx, data := .fields #[.ref t0, .none, .none, .none, .bool false, .none] }
theorem ExcNew.mono {a C : Addr} (h1 h2 : Heap) (x : ExcNew a C h1) (k : ∀ o, h1.get? a = some o → h2.get? a = some o) : ExcNew a C h2 := let ⟨t, e⟩ := x; ⟨t, k _ e⟩
theorem ExcDict.mono {a C dx : Addr} (h1 h2 : Heap) (x : ExcDict a C dx h1) (k : ∀ o, h1.get? a = some o → h2.get? a = some o) : ExcDict a C dx h2 := let ⟨t, e⟩ := x; ⟨t, k _ e⟩
theorem ExcNew.at_ {a C : Addr} (h : Heap) (x : ExcNew a C h) : ExcAt a C h := let ⟨_, e⟩ := x; ⟨_, _, e, rfl, rfl⟩
theorem ExcDict.at_ {a C dx : Addr} (h : Heap) (x : ExcDict a C dx h) : ExcAt a C h := let ⟨_, e⟩ := x; ⟨_, _, e, rfl, rfl⟩
/-- what is known of an exception of the class C at a -/
def IsExc (H : Hp) (a C : Addr) : Prop := ∃ φ : Heap → Prop, H a = some (.ext φ) ∧ ∀ h, φ h → ExcAt a C h
theorem IsExc.same {H H' : Hp} {a C : Addr} (x : IsExc H a C) (s : Same H H') : IsExc H' a C := let ⟨φ, e, f⟩ := x; ⟨φ, s _ _ e, f⟩
/-! isinstance of one -/
end
end L2
namespace L2
open PySem PySem.Spec PyProof.Rows
theorem entry_unchain : entryFor table "proto.unchain" = some Builtin.«proto.unchain» := entryFor_of_fast (by kernel_rfl)
section
variable {prog : Program} {w : World} {A : Around} {E : Value → Shared → Prop} {s : Shared} {α : Type}
theorem raise_h {e a : Addr} {oe oa : Obj} {ves vas : Array Value} {Q : α → Shared → Prop} (hh : A.handled = some (.ref a)) (hne : a ≠ e) (he : s.heap.get? e = some oe) (de : oe.data = .fields ves) (ze : 2 < ves.size) (ha : s.heap.get? a = some oa) (da : oa.data = .fields vas) (v2 : vas[2]? = some .none)
    (hE : E (.ref e) { s with heap := s.heap.update e (Obj.mapFields (·.setIfInBounds 2 (.ref a))) }) : wpAny (model prog w) A (raiseNew (.ref e) : Sem α) Q E s := by
  unfold raiseNew
  refine wpAny_bind (wpAny_handled ?_)
  rw [hh]
  dsimp only
  rw [if_pos (show (Value.ref a != Value.ref e) = true by simp [hne])]
  refine wpAny_bind (wpAny_holding (wpAny_runValue (codeAny_builtin entry_unchain ?_)))
  show wpAny _ _ (field (.ref a) 2 >>= _) _ _ s
  refine wpAny_bind (wpAny_field ha da v2 ?_)
  rw [if_pos (show (Value.none == Value.none) = true by rfl)]
  refine wpAny_pure ?_
  show wpAny (model prog w) A (setField (.ref e) 2 (.ref a) >>= fun _ => throw (Value.ref e)) Q E s
  exact wpAny_bind (wpAny_setField he de ze (wpAny_throw hE))
end
end L2
namespace L2
open PySem PySem.Spec PyProof.Rows
/-! ### raise C(..) from None in an except's suite -/
section
variable {A : Around} {E : Value → Shared → Prop} {s : Shared} {env : Env}
variable {nm q : Str} {C N : Addr} {bs bm : List Value} {hdct : Bool} {sn : List Str} {sub : List Value} {ab : Bool} {col : Option Bool} {dd : Option Addr} {k0 k1 k2 k3 k5 : Option Value} {newId : String}
theorem raiseStmt_from {prog : Program} {w : World} {a : Addr} {x c : Sem Value} {Q : Flow → Shared → Prop} (hc : ∀ (Q : Value → Shared → Prop) (s : Shared), Q .none s → wpAny (model prog w) A c Q E s) (hbase : bm.contains (.type "BaseException") = true) (hh : A.handled = some (.ref a))
    (h : wpAny (model prog w) A x (fun v s₁ => ∃ e t, v = .ref e ∧ s₁.heap.get? C = some (excClassObj nm q C N bs bm hdct sn sub ab col dd k0 k1 k2 k3 k5 newId) ∧
      s₁.heap.get? e = some { cls := .ref C, data := .fields #[.ref t, .none, .none, .none, .bool false, .none] } ∧ a ≠ e ∧ C0 s₁.heap a ∧
      ∀ h' : Heap, (∀ b, b ≠ e → h'.get? b = s₁.heap.get? b) → h'.get? e = some { cls := .ref C, data := .fields #[.ref t, .none, .ref a, .none, .bool true, .none] } → E (.ref e) { s₁ with heap := h' }) E s) :
    wpAny (model prog w) A (raiseStmt env (some x) (some c)) Q E s := by
  have hcB : (Value.ref C :: bm).contains (.type "BaseException") = true := by rw [List.contains_cons, hbase, Bool.or_true]
  unfold raiseStmt
  refine wpAny_bind (wpAny_mono h (fun v s₁ h₁ => ?_) fun _ _ x => x)
  obtain ⟨e, t, rfl, hC, he, hne, ca, hE⟩ := h₁
  obtain ⟨hp, g, d, tk, os⟩ := s₁
  have nCe : e ≠ C := fun z => by
    have hC : hp.get? C = _ := hC
    have he : hp.get? e = _ := he
    rw [z, hC] at he; cases he
  have he2 : ((hp.update e (Obj.mapFields fun x => x.setIfInBounds 3 Value.none)).update e (Obj.mapFields fun x => x.setIfInBounds 4 (Value.bool true))).get? e = some { cls := .ref C, data := .fields #[.ref t, .none, .none, .none, .bool true, .none] } :=
    Heap.get?_update_self _ (Heap.get?_update_self _ he (Obj.isFreed_of_fields (Obj.data_mapFields rfl _))) (Obj.isFreed_of_fields (Obj.data_mapFields rfl _))
  have ot : ∀ b, b ≠ e → ((hp.update e (Obj.mapFields fun x => x.setIfInBounds 3 Value.none)).update e (Obj.mapFields fun x => x.setIfInBounds 4 (Value.bool true))).get? b = hp.get? b := fun b hb => by
    rw [Heap.get?_update_other _ _ (Ne.symm hb), Heap.get?_update_other _ _ (Ne.symm hb)]
  have hC2 := (ot C (Ne.symm nCe)).trans hC
  refine wpAny_bind (wpAny_holding (hc _ _ ?_))
  repeat (first | with_reducible refine wpAny_loadPart_at he ?_ | with_reducible refine wpAny_loadPart_at hC ?_ | (with_reducible refine wpAny_isSubtype_exc hC ?_; rw [hcB]) | wp_step)
  obtain ⟨oa, ha, vas, da, v2⟩ := ca
  refine raise_h (a := a) hh hne he2 rfl (by show 2 < 6; decide) ((ot a hne).trans ha) da v2 ?_
  refine hE _ (fun b hb => ?_) ?_
  · exact (Heap.get?_update_other _ _ (Ne.symm hb)).trans (ot b hb)
  · exact Heap.get?_update_self _ he2 (Obj.isFreed_of_fields (Obj.data_mapFields rfl _))
end
def Exc0 (a C : Addr) (h : Heap) : Prop := ExcAt a C h ∧ C0 h a
theorem Exc0.mono {a C : Addr} (h1 h2 : Heap) (x : Exc0 a C h1) (k : ∀ o, h1.get? a = some o → h2.get? a = some o) : Exc0 a C h2 := by
  obtain ⟨x, o, e, d⟩ := x
  exact ⟨x.mono k, o, k o e, d⟩
section
variable {X : Cx} {E E1 : XK} {pins : List (Addr × Obj)} {σ : St} {H : Hp} {s : Shared} {a : Addr}
theorem caught_inv0 {C : Addr} {a0 : Value} {B : Heap} {H' : Hp} {s' : Shared} {h2 : Heap} (I : Inv X pins σ H s) (T : Thrown X.prog X.w X.stack H s a C a0 B H' s') (fl : Heap.FlyingW B X.stack a (.ref C) a0 h2) (up : s'.heap.UpToSlots h2) (c : C0 h2 a) :
    Inv X pins σ (upd H' a (.ext (Exc0 a C))) { s' with heap := h2 } ∧ H' a = none := by
  obtain ⟨oe, vs, he, hcl, hd, _⟩ := fl.first
  obtain ⟨oe1, vs1, he1, _, hd1, _⟩ := T.fly.first
  have hBa : B.get? a = none := T.fly.2.1
  have hn : H' a = none := by
    cases q : H' a with
    | none => rfl
    | some u => obtain ⟨o', z⟩ := T.trk a u q; rw [hBa] at z; cases z
  have ha : s.heap.get? a = none := by
    cases q : s.heap.get? a with
    | none => rfl
    | some o =>
      by_cases hf : a ∈ frs X.stack
      · obtain ⟨_, o1, q1, q2⟩ := frs_mem T.fly.2.2.1 hf
        rw [he1] at q1; cases q1
        exact absurd hd1 (q2 vs1)
      · obtain ⟨o', z⟩ := T.cov a o q hf
        rw [hBa] at z; cases z
  have u1 := un_later T.un T.fly.2.2.1 T.fly.1 fl.1 up T.cov
  have hk1 := hok_later T.hok T.fly.1 fl.1 T.trk
  have ex : Exc0 a C h2 := ⟨⟨oe, vs, he, hcl, hd⟩, c⟩
  have hk2 : HOk X.prog X.w (upd H' a (.ext (Exc0 a C))) h2 := fun b o e => by
    by_cases hb : b = a
    · subst hb
      rw [upd_same] at e; cases e
      exact ⟨ex, ⟨oe, he⟩, Exc0.mono⟩
    · rw [upd_ne hb] at e
      exact (hk1 b o e).stay (fun _ _ _ q => q) (fun c q => by rw [upd_ne (ne_of_none q hn)]; exact q) fun c xs q => by rw [upd_ne (ne_of_none q hn)]; exact q
  exact ⟨I.call' (s' := { s' with heap := h2 }) (ch := []) T.os (u1.ext ha hn) hk2 T.bare (fun b z => absurd z (by simp)), hn⟩
def tTryF (K : PySem.W.Frag) (C2 C3 : Addr) (E1 E : XK) (tb : TS) (t : TA) : TS := fun D σ H => tb D σ H ∧ ∀ (σ' : St) (a C : Addr) (H' : Hp) (x : Option Addr), σ'.length = σ.length → E1 (.ref C) x H' → H' a = none →
  x = none ∧ PySem.W.subIn K (.ref C) (.ref C2) = some true ∧ t σ' (upd H' a (.ext (Exc0 a C))) fun vs H1 => vs.length ≤ sizeLine ∧ H1 a = some (.ext (Exc0 a C)) ∧ ∀ y, E (.ref C3) (some y) H1
theorem ps_tryF {cn x : Str} {np hpos pos rnp cpos rpos kpos : Pos} {kj : Nat} {body : List Stmt} {e : Expr} {es : List Expr} {tb : TS} {t : TA} {C2 C3 : Addr} {bmB : List Value} {Bn newId initId : String} (Bd : Body X E) (hg : Gl X cn) (hm : X.mg cn = some (.ref C2)) (hC : Catch X.K C2)
    (hg3 : Gl X x) (hm3 : X.mg x = some (.ref C3)) (hk : PySem.W.excIn X.K C3 bmB newId = true) (kp : PySem.W.keepIn X.K (.ref C3) = true) (FB : ExcBaseFacts Bn newId initId bmB)
    (hb : ∀ pins, PSs (tryCx X pins E1) body tb) (ha : ∀ a, PA (hndCx X a) (e :: es) t)
    (he : starEach (e :: es) X.env = (false, eval e X.env) :: starEach es X.env := by rfl) (hpl : (backTo cpos (starEach es X.env)).any (·.1) = false := by rfl) (hdb : (cn == ("__debug__" : Str)) = false := by decide) (hdb3 : (x == ("__debug__" : Str)) = false := by decide) :
    PS X (.Try body [.ExceptHandler (some (.Name cn np)) none [.Raise (some (.Call (.Name x rnp) (e :: es) [] cpos)) (some (.Constant .none kj kpos)) rpos] hpos] [] [] pos) (tTryF X.K C2 C3 E1 E tb t) := by
  intro pins s σ H D I h
  obtain ⟨h1, h2⟩ := h
  refine wpAny_Try_except (wpAny_mono (hb pins [] s σ H D I.toTry h1) (fun f s1 q => ?_) fun e' s1 q => ?_)
  · cases f with
    | next => obtain ⟨σ', H', I', n'⟩ := q; exact wpAny_execs_nil ⟨σ', H', I'.ofTry, n'⟩
    | brk => obtain ⟨σ', H', I', n'⟩ := q; exact ⟨σ', H', I'.ofTry, n'⟩
    | cont => obtain ⟨σ', H', I', n'⟩ := q; exact ⟨σ', H', I'.ofTry, n'⟩
    | ret u => obtain ⟨v, σ', H', I', r', n'⟩ := q; exact ⟨v, σ', H', I'.ofTry, r', n'⟩
  · obtain ⟨a, C, a0, B, σ0, H0, H', s0, y, rfl, I0, T, cx, qE⟩ := q
    have hframes : X.A.frames = some (X.env :: X.outer) := by rw [← Bd.stk]; exact I.ok.frames
    have fly := T.fly
    rw [Bd.stk] at fly
    refine kp_on2 (e := a) (P := fun h4 => Heap.HeldW B (X.env :: X.outer) a (.ref C) a0 X.env.locals h4 ∧ s1.heap.UpToSlots h4) kp_note (fun Q' hq => wpAny_looks_onW hframes Bd.fr fly fun h4 held up4 => hq h4 ⟨held, up4⟩) fun h4 ⟨held, up4⟩ c4 => ?_
    refine kp_on2 (e := a) (P := fun h5 => Heap.FlyingW B (X.env :: X.outer) a (.ref C) a0 h5 ∧ h4.UpToSlots h5) kp_flight (fun Q' hq => wpAny_landsW held fun h5 fly5 up5 => hq h5 ⟨fly5, up5⟩) fun h5 ⟨fly5, up5⟩ c5 => ?_
    have up45 := up4.trans up5
    rw [← Bd.stk] at fly5
    obtain ⟨J5, hna⟩ := caught_inv I0 T fly5 up45
    have I5 := J5.toHnd (a := a)
    obtain ⟨yn, hsub, q7⟩ := h2 σ0 a C H' y (by rw [I0.len, I.len]) qE hna
    have x5 : ExcAt a C h5 := (I5.hok a _ upd_same).1
    refine wpAny_handleBy_cons (codeAny_handlers_test (ld_glob (X := hndCx X a) I5 hg hm ?_ hdb)) (by intro q; cases q)
    refine excMatches_K (K := X.K) I5.kIn x5 hC hsub ?_
    refine codeAny_handlers_suite ?_
    refine kp_on2 (e := a) (P := fun h6 => Heap.FlyingW B X.stack a (.ref C) a0 h6 ∧ h5.UpToSlots h6) kp_flight (fun Q' hq => lands_againW fly5 fun h6 fly6 up6 => hq h6 ⟨fly6, up6⟩) fun h6 ⟨fly6, up6⟩ c6 => ?_
    obtain ⟨J6, _⟩ := caught_inv0 I0 T fly6 (up45.trans up6) (c6 (c5 (c4 (cx yn))))
    have I6 := J6.toHnd (a := a)
    have hin : ∀ env ∈ X.stack, ∀ b, env.frame = some b → b ∈ frs X.stack := fun env he b hb => List.mem_filterMap.mpr ⟨env, he, hb⟩
    obtain ⟨tl, N, nm, q, bs, hdct, sn, sub, ab, col, dd, k0, k1, k2, k3, k5, mN, hC3, hN, hni, T3⟩ := (own_of_K (I.mod.kin) hm3 hk).obj
    refine wpAny_bind (m := exec (.Raise (some (.Call (.Name x rnp) (e :: es) [] cpos)) (some (.Constant .none kj kpos)) rpos) X.env) (wpAny_mono (Q := fun _ _ => False) ?_ (fun _ _ z => z.elim) fun _ _ z => z)
    rw [arm_exec_Raise]
    refine wpAny_bind (wpAny_standAt ?_)
    refine raiseStmt_from (C := C3) (nm := nm) (q := q) (N := N) (bs := bs) (bm := tl) (hdct := hdct) (sn := sn) (sub := sub) (ab := ab) (col := col) (dd := dd) (k0 := k0) (k1 := k1) (k2 := k2) (k3 := k3) (k5 := k5) (newId := newId) (a := a)
      (fun Q s h => wpAny_bind (Constant_none (wpAny_bind (wpAny_standAt (wpAny_pure h))))) (T3.hasType FB.hasBase) rfl ?_
    refine wpAny_bind (wpAny_Call_Name_kw (ld_glob (X := hndCx X a) I6 hg3 hm3 ?_ hdb3))
    refine PySem.W.callWith_K (h₀ := X.base) I6.ok.mod.kin kp (wpAny_mono (ha a cpos pins _ σ0 _ _ I6 q7) (fun us s2 ⟨vs, H2, I2, r, hz, hHa, qy⟩ => ⟨I2.kIn, ?_⟩) fun _ _ z => z.elim) he hpl
    have IX : Inv X pins σ0 H2 s2 := I2.ofHnd I.ok.hd
    have ex := (I2.hok a _ hHa).1
    obtain ⟨hp, g, d, tk, os⟩ := s2
    refine wpAny_call_exc_subT (hrest := by show us.length ≤ sizeLine; rw [← r.length]; exact hz) FB (T3.keeps I2.bk) (I2.bk _ _ hC3) (hN.keeps I2.bk) hni fun h' e mx => ?_
    refine wpAny_bind (wpAny_standAt (wpAny_pure ?_))
    obtain ⟨t0, e0, tn, tt⟩ := mx.there
    have nw : ∀ b o, hp.get? b = some o → b ≠ e := fun b o q z => by rw [z, mx.new] at q; cases q
    obtain ⟨_, oa, ea, da⟩ := id ex
    have ea : hp.get? a = some oa := ea
    refine ⟨e, t0, rfl, mx.keeps _ _ (I2.bk _ _ hC3), e0, nw a oa ea, ⟨oa, mx.keeps _ _ ea, da⟩, fun h2 ot e2 => ?_⟩
    have keep : ∀ b o, hp.get? b = some o → h2.get? b = some o := fun b o q => (ot b (nw b o q)).trans (mx.keeps b o q)
    have F0 : hp.FunFrames (PySem.W.hideAll hp (frs X.stack)) X.stack := PySem.W.funFrames_hide IX.stack hin
    have F1 : hp.FunFrames (PySem.W.hideAll hp (frs X.stack)) (X.env :: X.outer) := by rw [← Bd.stk]; exact F0
    have hB0 : (PySem.W.hideAll hp (frs X.stack)).StaysIn hp := fun b o q => PySem.W.of_hideAll _ q
    have hBget : ∀ b o, hp.get? b = some o → b ∉ frs X.stack → (PySem.W.hideAll hp (frs X.stack)).get? b = some o := fun b o e hb => PySem.W.hideAll_get _ e hb
    have hl2 : h2.FunFrames (PySem.W.hideAll hp (frs X.stack)) (X.env :: X.outer) := F1.of_keeps fun b o hb _ => ⟨o, keep b o hb, rfl⟩
    have hkb : (PySem.W.hideAll hp (frs X.stack)).StaysIn h2 := fun b o q => keep b o (hB0 b o q)
    have hen : (PySem.W.hideAll hp (frs X.stack)).get? e = none := by
      cases q : (PySem.W.hideAll hp (frs X.stack)).get? e with
      | none => rfl
      | some o => exact absurd rfl (nw e o (hB0 e o q))
    show wpAny _ (X.A.mark (some (.ref a))) (noteFrame (.ref e) X.env) _ _ _
    unfold noteFrame
    simp only [Bd.fr]
    refine wpAny_bind (wpAny_field e2 rfl (x := .none) rfl ?_)
    rw [if_neg (by decide)]
    refine wpAny_entryW (a0 := .ref t0) (show (X.A.mark (some (.ref a))).frames = some (X.env :: X.outer) from hframes) hl2 Bd.fr e2 hkb hen rfl (by show 1 < 6; decide) rfl fun h3 hN3 => ?_
    obtain ⟨n1, n2, n3, n4⟩ := hN3
    have held3 : Heap.HeldW (PySem.W.hideAll hp (frs X.stack)) (X.env :: X.outer) e (.ref C3) (.ref t0) X.env.locals h3 := ⟨n1, hen, n2, n3⟩
    obtain ⟨_, _, _, oe, vs', TT, oT, ts, he', _, hd', h1', _⟩ := id held3
    show wpAny _ X.A (do
      if (← field (.ref e) 1) == .none then unsupported "frame.own-activation:exception-without-traceback"
      setFlight (.ref e) X.env.frame) _ _ _
    refine wpAny_bind (wpAny_field he' hd' h1' ?_)
    rw [if_neg (show ¬ ((Value.ref TT == Value.none) = true) from by simp), Bd.fr]
    refine flight_again held3 fun h4' held4 up4' => ?_
    show X.xe (.ref e) _
    rw [Bd.xe]
    show wpAny _ X.A (do noteFrame (.ref e) X.env; setFlight (.ref e) none) _ _ _
    refine wpAny_bind (wpAny_noteFrame_againW Bd.fr held4.2.2.2 (wpAny_landsW held4 fun h7 fly7 up7 => ?_))
    have fly8 : Heap.FlyingW (PySem.W.hideAll hp (frs X.stack)) X.outer e (.ref C3) (.ref t0) h7 := ⟨fly7.1, fly7.2.1, fly7.2.2.1.2.2, fly7.2.2.2⟩
    have up8 : hp.UpToSlots h7 := (Heap.UpToSlots.of_keeps keep).trans (Heap.UpToSlots.trans n4 (Heap.UpToSlots.trans (fun b o hb hn => ⟨o.slots, up4' b o hb hn⟩) up7))
    have cov : ∀ b o, X.s₀.heap.get? b = some o → b ∉ frs X.outer → ∃ o', (PySem.W.hideAll hp (frs X.stack)).get? b = some o' := fun b o e hb => by
      obtain ⟨o1, e1⟩ := (Bd.base IX).there b o e (by simp)
      exact ⟨o1, hBget b o1 e1 (Bd.notin (IX.old e) hb)⟩
    have trk : ∀ b u, H2 b = some u → ∃ o', (PySem.W.hideAll hp (frs X.stack)).get? b = some o' := fun b u e => by
      have hb : b ∉ frs X.stack := fun z => by rw [IX.stkFree b z] at e; cases e
      obtain ⟨o1, e1⟩ : ∃ o1, hp.get? b = some o1 := by
        cases hq : hp.get? b with
        | some o1 => exact ⟨o1, rfl⟩
        | none => exact absurd (hok_there IX.hok hq) (by rw [e]; simp)
      exact ⟨o1, hBget b o1 e1 hb⟩
    have F2 : hp.FunFrames (PySem.W.hideAll hp (frs X.stack)) X.outer := by obtain ⟨_, _, k⟩ := F1; exact k
    exact ⟨e, C3, .ref t0, _, H2, some e, rfl, ⟨IX.os, IX.bare, un_later (Bd.base IX) F2 hB0 fly8.1 up8 cov, hok_later IX.hok hB0 fly8.1 trk, fly8, cov, trk⟩, (fun z => by cases z), qy e⟩
end
end L2
namespace L2
open PySem PySem.Spec PyProof.Rows
/-! ### try: x = f(..) except C as n: the variables stand as they did -/
def tryCxS (X : Cx) (pins : List (Addr × Obj)) (σ : St) (E : XK) : Cx := { X with
  pn := X.pn ++ pins
  xe := fun e s' => ∃ (a C : Addr) (a0 : Value) (B : Heap) (H H' : Hp) (s : Shared) (x : Option Addr), e = .ref a ∧ Inv X pins σ H s ∧ Thrown X.prog X.w X.stack H s a C a0 B H' s' ∧ (x = none → C0 s'.heap a) ∧ E (.ref C) x H' }
section
variable {X : Cx} {E : XK} {pins : List (Addr × Obj)} {σ σ1 : St} {H : Hp} {s : Shared} {a : Addr}
theorem Inv.toTryS (I : Inv X pins σ1 H s) : Inv (tryCxS X pins σ E) [] σ1 H s :=
  ⟨⟨I.ok.mod, I.ok.kind, I.ok.glob, I.ok.blt, I.ok.above, I.ok.inj, I.ok.has, I.ok.cab, I.ok.hd, I.ok.frames, I.ok.stk, I.ok.exf, I.ok.bs, I.ok.bsz, I.ok.noex, I.ok.exfs, I.ok.funs, I.ok.frf⟩,
    I.os, I.bare, I.base, I.loc, I.cell, I.free, I.freeC, fun p hp => I.pin p (by rw [List.append_nil] at hp; exact hp), I.hok, I.len⟩
theorem Inv.ofTryS {pins2 : List (Addr × Obj)} (I : Inv (tryCxS X pins σ E) pins2 σ1 H s) : Inv X pins σ1 H s :=
  ⟨⟨I.ok.mod, I.ok.kind, I.ok.glob, I.ok.blt, I.ok.above, I.ok.inj, I.ok.has, I.ok.cab, I.ok.hd, I.ok.frames, I.ok.stk, I.ok.exf, I.ok.bs, I.ok.bsz, I.ok.noex, I.ok.exfs, I.ok.funs, I.ok.frf⟩,
    I.os, I.bare, I.base, I.loc, I.cell, I.free, I.freeC, fun p hp => I.pin p (List.mem_append_left _ hp), I.hok, I.len⟩
theorem run_fnS {CX : CXT} {k : Nat} {f : Addr} {fd : FuncData} {ps : List Str} {sp : Sp} {dvs : List V} {ds : List Value} {Q : VK} {us : List Value} {vs : List V} (F : FnOk X.prog X.w X.K X.mg X.base CX k f fd ps sp) (hr : Room k X.A) (hb : Binds X.K fd ps ds) (hd : Vals dvs ds)
    (hx : ∀ (e : Value) (s' : Shared), CX X.stack H s E e s' → X.xe e s')
    (I : Inv X pins σ H s) (r : Vals vs us) (h : sp (vs ++ dvs) H Q E) : wpAny (model X.prog X.w) X.A (call (.ref f) us) (EP X pins σ Q) X.xe s := by
  have r2 : Vals (vs ++ dvs) (us ++ ds) := r.append hd
  have hl : (us ++ ds).length = ps.length := by rw [← r2.length]; exact F.len _ _ _ _ h
  refine wpAny_call (codeAny_mono (F.run X.A X.stack s H ⟨us, []⟩ (us ++ ds) (vs ++ dvs) Q E hr I.env0 (hb s us I.kIn hl) r2 h) fun r s' hq => ?_)
  cases r with
  | error e => exact hx e s' hq
  | ok fl =>
    cases fl with
    | ret u => exact I.after hq
    | next => exact False.elim hq
    | brk => exact False.elim hq
    | cont => exact False.elim hq
def tTryD (K : PySem.W.Frag) (C2 : Addr) (i j : Nat) (sp : Sp) (E : XK) (t : TA) (th : TS) : TS := fun D σ H =>
  tCall sp [] E t σ H (fun v H' => D.nx (σ.set j (some v)) H') ∧ ∀ (a C : Addr) (H' : Hp) (x : Option Addr), E (.ref C) x H' → H' a = none → PySem.W.subIn K (.ref C) (.ref C2) = some true ∧
    th { nx := fun σ2 H2 => D.nx (σ2.set i none) H2, rt := D.rt, bk := fun σ2 H2 => D.bk (σ2.set i none) H2, ct := fun σ2 H2 => D.ct (σ2.set i none) H2 } (σ.set i (some (.ref a))) (upd H' a (.ext (ExcAt a C)))
theorem ps_tryD {n cn f y : Str} {np hpos pos fp cpos ypos apos : Pos} {e : Expr} {es : List Expr} {suite : List Stmt} {b₀ : Stmt} {t : TA} {th : TS} {C2 : Addr} {i j k : Nat} {ps : List Str} {sp : Sp} {E0 : XK} (Bd : Body X E0) (hN : X.N.Nodup) (hi : X.N[i]? = some n)
    (hl : X.env.kindOf n = some .local) (hj : X.N[j]? = some y) (hy : Loc X.env.scope y) (hg : Gl X cn) (hm : X.mg cn = some (.ref C2)) (hC : Catch X.K C2)
    (Df : Def X.prog X.w X.K X.mg X.base k f ps sp) (hr : Room k X.A) (ha : ∀ pins σ, PA (tryCxS X pins σ E) (e :: es) t) (hh : ∀ a, PSs (hndCx X a) (b₀ :: suite) th) (hgf : Gl X f := by rfl) (hdb : (cn == ("__debug__" : Str)) = false := by decide) (hdf : (f == ("__debug__" : Str)) = false := by decide)
    (hst : starEach (e :: es) X.env = (false, eval e X.env) :: starEach es X.env := by rfl) (hpl : (backTo cpos (starEach es X.env)).any (·.1) = false := by rfl)
    (hs : swapsWith (.Call (.Name f fp) (e :: es) [] cpos) (some (.Name y ypos)) apos.line X.env = pure false := by rfl) (hf : X.fn y = true ∨ X.env.scope.names.lookup y = some .local := by first | exact .inl rfl | exact .inr rfl | assumption) :
    PS X (.Try [.Assign [.Name y ypos] (.Call (.Name f fp) (e :: es) [] cpos) apos] [.ExceptHandler (some (.Name cn np)) (some n) (b₀ :: suite) hpos] [] [] pos) (tTryD X.K C2 i j sp E t th) := by
  intro pins s σ H D I h
  obtain ⟨h1, h2⟩ := h
  have J : Inv (tryCxS X pins σ E) [] σ H s := I.toTryS
  obtain ⟨fa, fd, Ff, hmf, hkf, hbf⟩ := Df.ex
  have body : wpAny (model X.prog X.w) X.A (eval (.Call (.Name f fp) (e :: es) [] cpos) X.env) (EP (tryCxS X pins σ E) [] σ fun v H' => D.nx (σ.set j (some v)) H') (tryCxS X pins σ E).xe s := by
    refine wpAny_Call_Name_kw (ld_glob (X := tryCxS X pins σ E) J hgf hmf ?_ hdf)
    refine PySem.W.callWith_K (h₀ := X.base) I.ok.mod.kin hkf (thn (ha pins σ cpos [] s σ H _ J h1) fun us s2 ⟨vs, H2, I2, r, q2⟩ => ⟨I2.kIn, ?_⟩) hst hpl
    exact run_fnS (X := tryCxS X pins σ E) Ff hr hbf .nil (fun e' s' z => by
      obtain ⟨a1, C1, a0, B, H', x, rfl, T, cx, qE⟩ := z
      exact ⟨a1, C1, a0, B, H2, H', s2, x, rfl, I2.ofTryS, T, cx, qE⟩) I2 r q2
  have full : wpAny (model X.prog X.w) X.A (execs [.Assign [.Name y ypos] (.Call (.Name f fp) (e :: es) [] cpos) apos] X.env) (SP X pins D) (tryCxS X pins σ E).xe s := by
    refine wpAny_execs_cons (thn (wpAny_Assign_Name (Q := SP X pins D) (thn body fun v s1 ⟨x, H1, I1, r1, q1⟩ => store_ok (X := tryCxS X pins σ E) I1 hN hj hy r1 (fun s2 I2 => ⟨_, H1, I2.ofTryS, q1⟩) hf) hs) fun f s1 q => ?_)
    cases f with
    | next => exact wpAny_execs_nil q
    | ret v => exact q
    | brk => exact q
    | cont => exact q
  refine wpAny_Try_except (wpAny_mono full (fun f s1 q => ?_) fun e' s1 q => ?_)
  · cases f with
    | next => exact wpAny_execs_nil q
    | brk => exact q
    | cont => exact q
    | ret u => exact q
  · obtain ⟨a, C, a0, B, H0, H', s0, x, rfl, I0, T, cx, qE⟩ := q
    have hframes : X.A.frames = some (X.env :: X.outer) := by rw [← Bd.stk]; exact I.ok.frames
    have fly := T.fly
    rw [Bd.stk] at fly
    refine wpAny_looks_onW hframes Bd.fr fly fun h4 held up4 => ?_
    refine wpAny_landsW held fun h5 fly5 up5 => ?_
    have up45 := up4.trans up5
    rw [← Bd.stk] at fly5
    obtain ⟨J5, hna⟩ := caught_inv I0 T fly5 up45
    have I5 := J5.toHnd (a := a)
    obtain ⟨hsub, q7⟩ := h2 a C H' x qE hna
    have x5 : ExcAt a C h5 := (I5.hok a _ upd_same).1
    refine wpAny_handleBy_cons (codeAny_handlers_test (ld_glob (X := hndCx X a) I5 hg hm ?_ hdb)) (by intro q; cases q)
    refine excMatches_K (K := X.K) I5.kIn x5 hC hsub ?_
    refine codeAny_handlers_suite_as ?_
    refine lands_againW fly5 fun h6 fly6 up6 => ?_
    obtain ⟨J6, _⟩ := caught_inv I0 T fly6 (up45.trans up6)
    have I6 := J6.toHnd (a := a)
    refine store_ok (X := hndCx X a) (v := .ref a) I6 hN hi (.inl hl) rfl (fun s7 I7 => ?_) (.inr hl)
    refine wpAny_mono (hh a pins s7 _ _ _ I7 q7) (fun f s8 q8 => ?_) fun _ _ z => z.elim
    have hp : (X.env.scope.kind == .class || (X.env.scope.kind == .module && X.env.locals != X.env.globals)) = false := by rw [I.ok.kind]; rfl
    have goes : ∀ {σ8 : St} {H8 : Hp} {P : Prop} {f : Flow}, Inv (hndCx X a) pins σ8 H8 s8 → (∀ s9, Inv X pins (σ8.set i none) H8 s9 → SP X pins D f s9) →
        wpAny (model X.prog X.w) X.A (do bindName X.env n .none; unbindBehindTheSuite X.env n hpos) (fun _ s₃ => SP X pins D f s₃) X.xe s8 := fun {σ8 H8 P f} I8 k => by
      have J8 := I8.ofHnd I.ok.hd
      obtain ⟨m, hn, hlk⟩ := id J8.loc
      refine wpAny_nameGoes_keeps hl hn hp fun h9 v hn9 hs9 => k _ ?_
      have cne := J8.cne
      obtain ⟨oL, _, _, hoL, _⟩ := id hn
      refine ⟨J8.ok, J8.os, J8.bare, ⟨fun b o e nn hb hx => ?_, fun b o e nn hb hx => ?_, J8.base.free, fun b o e hx => ?_, J8.base.tups, J8.base.frzs, J8.base.tbls⟩, ⟨_, hn9, fun j y v' e1 e2 e3 => ?_⟩, fun y c e => ?_, J8.free, J8.freeC, fun p hp => ?_, fun b ob e => ?_, by simpa using J8.len⟩
      · exact (hs9.2 b (J8.old e)).trans (J8.base.keep b o e nn hb hx)
      · obtain ⟨sl, e1⟩ := J8.base.slot b o e nn hb hx
        exact ⟨sl, (hs9.2 b (J8.old e)).trans e1⟩
      · obtain ⟨o', e1⟩ := J8.base.there b o e hx
        exact ⟨o', (hs9.2 b (J8.old e)).trans e1⟩
      · by_cases hj : j = i
        · subst hj
          have hlt : j < σ8.length := by rw [J8.len]; exact (List.getElem?_eq_some_iff.mp hi).1
          rw [List.getElem?_set_self hlt] at e2
          cases e2
        · rw [List.getElem?_set_ne (Ne.symm hj)] at e2
          obtain ⟨u', r', q⟩ := hlk j y v' e1 e2 e3
          refine ⟨u', r', ?_⟩
          rcases q with ⟨k', e⟩ | ⟨k', c, e, z⟩
          · refine .inl ⟨k', ?_⟩
            have hne : y ≠ n := fun e => hj (nodup_ix hN e1 (e ▸ hi))
            simp [hne, e]
          · exact .inr ⟨k', c, e, z.sameBut hs9 (cne y c e)⟩
      · obtain ⟨w', z⟩ := J8.cell y c e
        exact ⟨w', z.sameBut hs9 (cne y c e)⟩
      · obtain ⟨e, nn, ne, nf, d⟩ := J8.pin p hp
        exact ⟨(hs9.2 p.1 ne).trans e, nn, ne, nf, d⟩
      · refine (J8.hok b ob e).stay (fun c w' hc q => (hs9.2 c ?_).trans q) (fun _ q => q) fun _ _ q => q
        rintro rfl
        rcases hc with z | z
        · rw [← z, J8.free] at e; cases e
        · rw [J8.free] at z; cases z
    cases f with
    | next => obtain ⟨σ8, H8, I8, n8⟩ := q8; exact goes (P := True) I8 fun s9 I9 => ⟨_, H8, I9, n8⟩
    | brk => obtain ⟨σ8, H8, I8, n8⟩ := q8; exact goes (P := True) I8 fun s9 I9 => ⟨_, H8, I9, n8⟩
    | cont => obtain ⟨σ8, H8, I8, n8⟩ := q8; exact goes (P := True) I8 fun s9 I9 => ⟨_, H8, I9, n8⟩
    | ret u => obtain ⟨v, σ8, H8, I8, r8, n8⟩ := q8; exact goes (P := True) I8 fun s9 I9 => ⟨v, _, H8, I9, r8, n8⟩
end
end L2
/-! a list taken apart by a row of targets -/
namespace L2
open PySem PySem.Spec PyProof.Rows
section
variable {prog : Program} {w : World} {A : Around} {E : Value → Shared → Prop}
theorem drawL {it l : Addr} {xs : Array Value} (ne : l ≠ it) : ∀ (n i : Nat) (s : Shared) (Q : List Value → Shared → Prop), s.heap.IsListIter it l i → s.heap.IsList l xs → i + n ≤ xs.size →
    (∀ g, g.IsListIter it l (i + n) → Heap.SameBut it s.heap g → Q ((xs.toList.drop i).take n) { s with heap := g }) → wpAny (model prog w) A (draw (.ref it) n) Q E s
  | 0, i, s, Q, a, _, _, q => wpAny_pure (by have := q s.heap a (Heap.SameBut.refl ..); rw [List.take_zero] at this; exact this)
  | n + 1, i, s, Q, a, b, le, q => by
    have lt : i < xs.size := Nat.lt_of_lt_of_le (Nat.lt_add_of_pos_right (Nat.succ_pos n)) le
    have e1 : xs.toList.drop i = xs[i] :: xs.toList.drop (i + 1) := by simp [List.drop_eq_getElem_cons, lt]
    show wpAny _ _ (pyNext (.ref it) >>= _) Q E s
    refine wpAny_bind (wpAny_pyNext_list_item a b (x := xs[i]) (by simp [lt]) fun g a1 c1 => ?_)
    refine wpAny_bind (wpAny_holding (drawL ne n (i + 1) _ _ a1 (b.extBut c1.extBut ne) (by omega) fun g2 a2 c2 => wpAny_pure ?_))
    have z := q g2 (by rw [Nat.add_comm n 1, ← Nat.add_assoc]; exact a2) (c1.trans c2)
    rw [e1, List.take_succ_cons] at z
    exact z
theorem unpackL {s : Shared} {l : Addr} {xs : Array Value} {ts : List (Bool × (Value → Sem Unit))} {Q : Unit → Shared → Prop} (hh : A.handled = none) (b : s.heap.IsList l xs) (hn : ts.length = xs.size) (hs : ts.findIdx? (·.1) = none)
    (q : ∀ g, Heap.ExtBut s.heap.objs.size s.heap g → wpAny (model prog w) A (assignInOrder (ts.map (·.2)) xs.toList) Q E { s with heap := g }) : wpAny (model prog w) A (unpack (.ref l) ts) Q E s := by
  have ne : l ≠ s.heap.objs.size := by obtain ⟨o, ho, _⟩ := b; exact Nat.ne_of_lt (Heap.lt_size ho)
  unfold unpack
  rw [hn, hs]
  refine wpAny_bind (wpAny_holding ?_)
  unfold unpackItems
  refine wpAny_bind ?_
  unfold notIterableAtAll
  refine wpAny_bind (wpAny_specialOf b.typeIs slot_list_iter.lookup (wpAny_pure ?_))
  simp only [Bool.false_eq_true, if_false]
  refine wpAny_bind (wpAny_holding (wpAny_pyIter_list b ?_))
  refine wpAny_bind (wpAny_holding (drawL ne xs.size 0 _ _ ⟨_, Heap.get?_push_size _ rfl, rfl, rfl⟩ (b.push _) (by omega) fun g a1 c1 => ?_))
  have al : (xs.toList.drop 0).take xs.size = xs.toList := by rw [List.drop_zero]; exact List.take_of_length_le (by simp)
  rw [al, if_neg (by simp)]
  have b1 : g.IsList l xs := (b.push _).extBut c1.extBut ne
  refine wpAny_bind (wpAny_holding (wpAny_pyNext_list_end hh a1 b1 (by simp) fun g2 c2 => ?_))
  simp only [Option.isSome_none, Bool.false_eq_true, if_false]
  exact wpAny_pure (q g2 fun y o hy e => c2 y o hy (c1.extBut y o hy (Heap.get?_push_of_some _ e)))
end
def gTupL (K : PySem.W.Frag) (n : Nat) (t : TGs) : TG := fun v σ H Q => ∃ a xs, v = .ref a ∧ SqL K H a xs ∧ xs.length = n ∧ t xs σ H Q
theorem pg_tupL {X : Cx} (K : PySem.W.Frag) {pos : Pos} {es : List Expr} {k : Nat} {t : TGs} {n : Nat} (hc : X.calm = true) (h : PGs X es t) (hK : X.K = K := by rfl)
    (hn : (assignEach es X.env).length = n := by rfl) (hst : (assignEach es X.env).findIdx? (·.1) = none := by rfl) : PG X (.Tuple es k pos) (gTupL K n t) := by
  subst hK
  intro pins s σ H v u Q I r hw
  obtain ⟨a, xs, e1, hq, hl, hw⟩ := hw
  subst e1
  cases r
  obtain ⟨its, rv, ht, _⟩ := I.list hq
  have hl' : s.heap.IsList a its.toArray := by obtain ⟨o, n, e, c, _, d⟩ := ht; exact ⟨o, e, c, n, d⟩
  rw [assign_Tuple]
  refine wpAny_bind (wpAny_standAt (unpackL (I.ok.hd hc) hl' (by simp [hn, ← hl, rv.length]) hst fun g hx => ?_))
  have I1 : Inv X pins σ H { s with heap := g } := I.kept (t' := s.toks) fun b o e => hx b o (Nat.ne_of_lt (Heap.lt_size e)) e
  exact h pins _ σ H xs _ Q I1 (by simpa using rv) hw
end L2
namespace L2
open PySem PySem.Spec PyProof.Rows
/-! ### a set of ints and texts, made of a list or a tuple; its length -/
def hasK (ks : List Key) (k : Key) : Bool := ks.any fun x => decide (x = k)
theorem hasK_iff {ks : List Key} {k : Key} : hasK ks k = true ↔ k ∈ ks := by
  unfold hasK
  rw [List.any_eq_true]
  exact ⟨fun ⟨x, h, e⟩ => by rw [← of_decide_eq_true e]; exact h, fun h => ⟨k, h, decide_eq_true rfl⟩⟩
theorem hasK_cons {ks : List Key} {k x : Key} : hasK (x :: ks) k = (hasK ks k || decide (k = x)) := by
  show (decide (x = k) || hasK ks k) = _
  rw [Bool.or_comm]
  exact congrArg _ (decide_eq_decide.mpr eq_comm)
def dd : List Key → List Key
  | [] => []
  | k :: ks => if hasK ks k = true then dd ks else k :: dd ks
theorem dd_len : ∀ (ks : List Key), (dd ks).length ≤ ks.length
  | [] => Nat.le_refl _
  | x :: ks => by
    have := dd_len ks
    unfold dd
    split
    · rw [List.length_cons]; omega
    · rw [List.length_cons, List.length_cons]; omega
theorem dd_nodup : ∀ (ks : List Key), (dd ks).length = ks.length ↔ ks.Nodup
  | [] => by simp [dd]
  | x :: ks => by
    have h := dd_len ks
    have ih := dd_nodup ks
    rw [List.nodup_cons]
    unfold dd
    split
    · rename_i hx
      have hx := hasK_iff.mp hx
      rw [List.length_cons]
      exact ⟨fun z => by omega, fun z => absurd hx z.1⟩
    · rename_i hx
      have hx : ¬ x ∈ ks := fun z => hx (hasK_iff.mpr z)
      rw [List.length_cons, List.length_cons]
      exact ⟨fun z => ⟨hx, ih.mp (by omega)⟩, fun z => by have := ih.mpr z.2; omega⟩
/-- the set at a has just the keys ks -/
def KSet (P : Program) (w : World) (a : Addr) (ks : List Key) : HO := .ext fun h => h.SetOf (mixKind P w) a (hasK ks) (dd ks).length
theorem mix_scan {prog : Program} {w : World} : ∀ {k : Key} {v : Value}, RelV (kV k) v → (mixKind prog w).is k v = true ∧ v.scannable = true
  | .inl i, _, ⟨t, e⟩ => by subst e; exact ⟨mixKind_int prog w i t, rfl⟩
  | .inr x, _, ⟨t, e⟩ => by subst e; exact ⟨mixKind_str prog w x t, rfl⟩
theorem set_more {prog : Program} {w : World} {h : Heap} {a : Addr} {k : Key} {ks : List Key}
    (q : h.SetOf (mixKind prog w) a (fun k' => hasK ks k' || decide (k' = k)) (if hasK ks k then (dd ks).length else (dd ks).length + 1)) : h.SetOf (mixKind prog w) a (hasK (k :: ks)) (dd (k :: ks)).length := by
  have e1 : (fun k' => hasK ks k' || decide (k' = k)) = hasK (k :: ks) := funext fun k' => hasK_cons.symm
  have e2 : (if hasK ks k then (dd ks).length else (dd ks).length + 1) = (dd (k :: ks)).length := by
    show _ = (if hasK ks k = true then dd ks else k :: dd ks).length
    split <;> rfl
  rw [e1, e2] at q
  exact q
section
variable {prog : Program} {w : World} {A : Around} {R : Result → Shared → Prop} {I : Addr} {fp wr : List Addr} {G : Array GenState → Array GenState → Prop} {St : Nat → Shared → Prop}
theorem set_loop (us : List Value) (ks : List Key) (hu : Vals (ks.map kV) us) (W : WalksS prog w A.in1 I fp wr G us.length (fun i v => us[i]? = some v) St) (S : Addr) (nS : S ∉ fp) (hb : us.length + 1 < scanBound) :
    ∀ (m i : Nat) (s : Shared), us.length - i = m → i ≤ us.length → St i s → s.heap.SetOf (mixKind prog w) S (hasK (ks.take i).reverse) (dd (ks.take i).reverse).length →
      (∀ s', Moved (S :: wr) G s s' → s'.heap.SetOf (mixKind prog w) S (hasK ks.reverse) (dd ks.reverse).length → R (.ok (.ret .none)) s') →
      codeAny (model prog w) A (.builtin "set.update.loop" ⟨[.ref S, .ref I], []⟩) R s := by
  have hlen : ks.length = us.length := by rw [← hu.length, List.length_map]
  have nw : S ∉ wr := fun z => nS (W.sub _ z)
  have sb : ∀ b ∈ wr, b ∈ S :: wr := fun b z => List.mem_cons_of_mem _ z
  have stays : ∀ {s s' : Shared} {f : Key → Bool} {n : Nat}, Moved wr G s s' → s.heap.SetOf (mixKind prog w) S f n → s'.heap.SetOf (mixKind prog w) S f n :=
    fun hm ⟨o, es, ep, t, ho, r⟩ => ⟨o, es, ep, t, hm.heap S _ nw ho, r⟩
  intro m
  induction m with
  | zero =>
    intro i s hm hi st hS hR
    obtain rfl : i = us.length := by omega
    refine codeAny_builtin F.entry_set_update_loop ?_
    rw [Around.under_plainId F.plain_set_update_loop _]
    refine wpAny_bind (m := pyNext (.ref I)) (W.done s _ _ st fun s' mv => ?_)
    refine wpAny_pure (hR s' (mv.mono sb) ?_)
    have e : ks.take us.length = ks := List.take_of_length_le (by omega)
    rw [e] at hS
    exact stays mv hS
  | succ m ih =>
    intro i s hm hi st hS hR
    have hlt : i < us.length := by omega
    refine codeAny_builtin F.entry_set_update_loop ?_
    rw [Around.under_plainId F.plain_set_update_loop _]
    refine wpAny_bind (m := pyNext (.ref I)) (W.item i s _ _ hlt st fun v s' hv st' mv => ?_)
    obtain ⟨k, hk, rk⟩ : ∃ k, ks[i]? = some k ∧ RelV (kV k) v := by
      have hi' : i < ks.length := by omega
      obtain ⟨u, e1, e2⟩ := hu.get (i := i) (x := kV ks[i]) (by rw [List.getElem?_map, List.getElem?_eq_getElem hi']; rfl)
      have hv' : us[i]? = some v := hv
      rw [e1] at hv'
      cases hv'
      exact ⟨_, List.getElem?_eq_getElem hi', e2⟩
    obtain ⟨k1, k2⟩ := mix_scan (prog := prog) (w := w) rk
    refine wpAny_bind (m := holding [v] (setAdd S v)) (wpAny_holding ?_)
    unfold setAdd
    refine wpAny_holding (wpAny_bind ((mixKind prog w).pyHash k1 ?_))
    have hS1 := stays mv hS
    have hroom : (dd (ks.take i).reverse).length + 1 < scanBound := by
      have := dd_len (ks.take i).reverse
      rw [List.length_reverse, List.length_take] at this
      omega
    refine wpAny_setAddHashed_of (knd := mixKind prog w) (s := { s' with toks := s'.toks + 1 }) k1 k2 hS1 hroom fun h' eq hS2 => ?_
    have e : (ks.take (i + 1)).reverse = k :: (ks.take i).reverse := by rw [List.take_succ, hk, List.reverse_append]; rfl
    have hS3 := set_more hS2
    rw [← e] at hS3
    refine wpAny_pure ⟨plainId_quiet F.plain_set_update_loop _, ih (i + 1) _ (by omega) hlt (W.frame _ s' _ _ st' (Nat.le_succ _) fun b z o eo => ?_) hS3 fun s2 mv2 hS4 => hR s2 (Moved.trans W.gtrans ((mv.mono sb).then_heap (Nat.le_succ _) fun b o z eo => ?_) mv2) hS4⟩
    · rw [eq.2 b (fun y : b = S => nS (by rw [← y]; exact z))]; exact eo
    · rw [eq.2 b (fun y : b = S => z (by rw [y]; exact List.mem_cons_self))]; exact eo
end
end L2
namespace L2
open PySem PySem.Spec PyProof.Rows
section
variable {prog : Program} {w : World} {A : Around} {E : Value → Shared → Prop} {s : Shared}

set_option maxHeartbeats 2000000 in
theorem set_called {u : Value} {Q : Value → Shared → Prop}
    (hn : ∀ led : Bool, wpAny (model prog w) A.in1.in1 (Builtin.«set.__init__» ⟨[.ref s.heap.objs.size, u], []⟩)
        (fun fin s' => match fin with | .done f => wants (fun r s2 => r = .none ∧ Q (.ref s.heap.objs.size) s2) E (.ok f) s' | .again c' => c'.quiet = true ∧ codeAny (model prog w) A.in1 c' (wants (fun r s2 => r = .none ∧ Q (.ref s.heap.objs.size) s2) E) s')
        (fun e s' => wants (fun r s2 => r = .none ∧ Q (.ref s.heap.objs.size) s2) E (.error e) s') { s with heap := s.heap.push { cls := .type "set", dict := none, data := .set #[] 0 (.fresh 0 0 led) } }) :
    wpAny (model prog w) A (call (.type "set") [u]) Q E s := by
  have ft := F.called_set
  obtain ⟨c0, tl0, hmro⟩ := ft.mro
  have g1 := ft.made; have g2 := ft.sub; have g3 := ft.notType; have g4 := ft.canCreate; have g5 := F.typeCall_set_1 u
  refine wpAny_call (codeAny_of_tree (wpAny_pure (a := _) ⟨Code.quiet_builtin _ (by decide +kernel), codeAny_builtin F.entry_type_call ?_⟩))
  rw [Around.under_plain (weight_type_call_type "set" [u] []) rfl]
  repeat (any_goals (first | assumption | (wp_step)))
  refine codeAny_mono (code_set_new_1 u (E := E) (Q₁ := fun obj z => ∃ led : Bool, obj = .ref s.heap.objs.size ∧ z = { s with heap := s.heap.push { cls := .type "set", dict := none, data := .set #[] 0 (.fresh 0 0 led) } }) fun led => ⟨led, rfl, rfl⟩) fun r s₁ hr => ?_
  cases r with
  | error e => exact hr
  | ok fl =>
    cases fl with
    | ret obj =>
      obtain ⟨led, rfl, rfl⟩ := hr
      have hT : Shared.TypeIs { s with heap := s.heap.push { cls := .type "set", dict := none, data := .set #[] 0 (.fresh 0 0 led) } } (.ref s.heap.objs.size) "set" := ⟨_, Heap.get?_push_size _ rfl, rfl⟩
      have g6 := ft.init.lookup; have g7 := ft.init.bind (.ref s.heap.objs.size)
      repeat (any_goals (first | assumption | (wp_step)))
      refine codeAny_mono (codeAny_call_builtin ft.init.plain F.entry_set_init (check_set_init_1 hT (hn led))) fun r2 s2 hr2 => ?_
      cases r2 with
      | error e => exact hr2
      | ok f2 =>
        cases f2 with
        | ret r =>
          obtain ⟨rfl, hq⟩ := hr2
          repeat (any_goals (first | assumption | (wp_step)))
        | _ => exact hr2.elim
    | _ => exact hr.elim
end
end L2
namespace L2
open PySem PySem.Spec PyProof.Rows
section
variable {prog : Program} {w : World} {A : Around} {E : Value → Shared → Prop} {s : Shared}
set_option maxHeartbeats 4000000 in
theorem set_of_seq {T : String} {l : Addr} {us : List Value} {ks : List Key} {Q : Value → Shared → Prop} (hh : A.handled = none) (hT : (T = "list" ∧ s.heap.IsList l us.toArray) ∨ (T = "tuple" ∧ s.heap.IsTuple l us.toArray))
    (hu : Vals (ks.map kV) us) (hb : us.length + 1 < scanBound)
    (h : ∀ (h' : Heap) (tk : Nat), h'.SetOf (mixKind prog w) s.heap.objs.size (hasK ks.reverse) (dd ks.reverse).length → (∀ b o, s.heap.get? b = some o → h'.get? b = some o) → Q (.ref s.heap.objs.size) { s with heap := h', toks := tk }) :
    wpAny (model prog w) A (call (.type "set") [.ref l]) Q E s := by
  refine set_called fun led => ?_
  have hS : (s.heap.push { cls := .type "set", dict := none, data := .set #[] 0 (.fresh 0 0 led) }).get? s.heap.objs.size = some { cls := .type "set", dict := none, data := .set #[] 0 (.fresh 0 0 led) } := Heap.get?_push_size _ rfl
  have z4 : A.in1.in1.in1.handled = none := by simp [hh]
  have hlt : l < s.heap.objs.size := by
    rcases hT with ⟨_, o, ho, _⟩ | ⟨_, o, ho, _⟩ <;> exact Heap.lt_size ho
  have nl : l ≠ (s.heap.push { cls := .type "set", dict := none, data := .set #[] 0 (.fresh 0 0 led) }).objs.size := by
    rw [Heap.size_push]; exact Nat.ne_of_lt (Nat.lt_succ_of_lt hlt)
  have nS : s.heap.objs.size ∉ [(s.heap.push { cls := .type "set", dict := none, data := .set #[] 0 (.fresh 0 0 led) }).objs.size, l] := by
    rw [Heap.size_push]
    intro z
    rcases List.mem_cons.mp z with z | z
    · exact absurd z (Nat.ne_of_lt (Nat.lt_succ_self _))
    · exact absurd (List.mem_singleton.mp z) (Nat.ne_of_gt hlt)
  have fin : ∀ (I : Obj) (G : Array GenState → Array GenState → Prop) (hG : ∀ a b, G a b → b = a) (St : Nat → Shared → Prop),
      WalksS prog w A.in1.in1.in1 (s.heap.push { cls := .type "set", dict := none, data := .set #[] 0 (.fresh 0 0 led) }).objs.size [(s.heap.push { cls := .type "set", dict := none, data := .set #[] 0 (.fresh 0 0 led) }).objs.size, l] [(s.heap.push { cls := .type "set", dict := none, data := .set #[] 0 (.fresh 0 0 led) }).objs.size] G us.length (fun i v => us[i]? = some v) St →
      St 0 { s with heap := (s.heap.push { cls := .type "set", dict := none, data := .set #[] 0 (.fresh 0 0 led) }).push I } →
      codeAny (model prog w) A.in1.in1 (.builtin "set.update.loop" ⟨[.ref s.heap.objs.size, .ref (s.heap.push { cls := .type "set", dict := none, data := .set #[] 0 (.fresh 0 0 led) }).objs.size], []⟩)
        (fun r s' => ∃ v, r = .ok (.ret v) ∧ Q (.ref s.heap.objs.size) s') { s with heap := (s.heap.push { cls := .type "set", dict := none, data := .set #[] 0 (.fresh 0 0 led) }).push I } := by
    intro I G hG St W st0
    refine set_loop us ks hu W s.heap.objs.size nS hb us.length 0 _ rfl (Nat.zero_le _) st0 ?_ fun s' hm hS' => ⟨_, rfl, ?_⟩
    · have hget : ((s.heap.push { cls := .type "set", dict := none, data := .set #[] 0 (.fresh 0 0 led) }).push I).get? s.heap.objs.size = some { cls := .type "set", dict := none, data := .set #[] 0 (.fresh 0 0 led) } := Heap.get?_push_of_some _ hS
      exact ⟨_, #[], 0, _, hget, ⟨rfl, rfl, rfl⟩, rfl, fun e he => by simp at he, fun k => by simp [hasK], by decide, rfl, rfl⟩
    · obtain ⟨h', g', d', tk', os'⟩ := s'
      have eg : g' = s.gens := hG _ _ hm.gens
      have ed : d' = s.drawn := hm.drawn
      have eo : os' = s.os := hm.os
      subst eg ed eo
      refine h h' tk' hS' fun b o e => ?_
      have hbl := Heap.lt_size e
      refine hm.heap b o (fun z => ?_) (Heap.get?_push_of_some _ (Heap.get?_push_of_some _ e))
      rcases List.mem_cons.mp z with z | z
      · rw [z] at hbl; exact Nat.lt_irrefl _ hbl
      · have z := List.mem_singleton.mp z
        rw [Heap.size_push] at z
        rw [z] at hbl
        exact absurd hbl (Nat.not_lt.mpr (Nat.le_succ _))
  unfold Builtin.«set.__init__» noKeywords Builtin.Frozenset.updateFrom
  have eP : (fun (i : Nat) (v : Value) => us.toArray[i]? = some v) = fun i v => us[i]? = some v := by funext i v; simp
  generalize hPI : pyIter = PI
  rcases hT with ⟨rfl, hl⟩ | ⟨rfl, hl⟩
  · obtain ⟨ol, hol, hcl, nl0, hdl⟩ := hl
    obtain ⟨ocls, odict, odata, oslots⟩ := ol
    simp only at hcl hdl
    subst hcl hdl
    have hol2 : (s.heap.push { cls := .type "set", dict := none, data := .set #[] 0 (.fresh 0 0 led) }).get? l = some { cls := .type "list", dict := odict, data := .seq us.toArray nl0, slots := oslots } := Heap.get?_push_of_some _ hol
    have y1 := F.sub_list_set; have y2 := F.sub_list_frozenset
    have y3 : (Value.type "list" == Value.type "dict") = false := by decide
    wp_walk
    subst hPI
    have hl1 : (s.heap.push { cls := .type "set", dict := none, data := .set #[] 0 (.fresh 0 0 led) }).IsList l us.toArray := ⟨_, hol2, rfl, nl0, rfl⟩
    refine wpAny_pyIter_list hl1 (wpAny_bind (wpAny_runValue ?_))
    have W := (Walks.list z4 _ l nl us.toArray).toS (prog := prog) (w := w)
    rw [eP, List.size_toArray] at W
    refine codeAny_mono (fin _ _ (fun a b e => e) _ W ⟨⟨_, Heap.get?_push_size _ rfl, rfl, rfl⟩, hl1.push _⟩) fun r s' hr => ?_
    obtain ⟨v, rfl, q⟩ := hr
    exact wpAny_pure (a := _) (wpAny_pure (a := _) ⟨rfl, q⟩)
  · obtain ⟨ol, hol, hcl, nl0, hdl⟩ := hl
    obtain ⟨ocls, odict, odata, oslots⟩ := ol
    simp only at hcl hdl
    subst hcl hdl
    have hol2 : (s.heap.push { cls := .type "set", dict := none, data := .set #[] 0 (.fresh 0 0 led) }).get? l = some { cls := .type "tuple", dict := odict, data := .seq us.toArray nl0, slots := oslots } := Heap.get?_push_of_some _ hol
    have y1 : isSubtype (.type "tuple") (.type "set") = pure false := by rw [isSubtype_type]; kernel_rfl
    have y2 : isSubtype (.type "tuple") (.type "frozenset") = pure false := by rw [isSubtype_type]; kernel_rfl
    have y3 : (Value.type "tuple" == Value.type "dict") = false := by decide
    wp_walk
    subst hPI
    have hl1 : (s.heap.push { cls := .type "set", dict := none, data := .set #[] 0 (.fresh 0 0 led) }).IsTuple l us.toArray := ⟨_, hol2, rfl, nl0, rfl⟩
    refine wpAny_pyIter_tuple hl1 (wpAny_bind (wpAny_runValue ?_))
    have W := (Walks.tuple z4 _ l nl us.toArray).toS (prog := prog) (w := w)
    rw [eP, List.size_toArray] at W
    refine codeAny_mono (fin _ _ (fun a b e => e) _ W ⟨⟨_, Heap.get?_push_size _ rfl, rfl, rfl⟩, hl1.push _⟩) fun r s' hr => ?_
    obtain ⟨v, rfl, q⟩ := hr
    exact wpAny_pure (a := _) (wpAny_pure (a := _) ⟨rfl, q⟩)
end
end L2
namespace L2
open PySem PySem.Spec PyProof.Rows
section
variable {X : Cx}
def rSet (P : Program) (w : World) (K : PySem.W.Frag) : List V → Hp → VK → Prop := fun xs H Q => ∃ (p : Addr) (ks : List Key), xs = [.ref p] ∧ (SqL K H p (ks.map kV) ∨ SqT K H p (ks.map kV)) ∧ ks.length + 1 < scanBound ∧ ∀ q, H q = none → Q (.ref q) (upd H q (KSet P w q ks.reverse))
theorem call_setK (K : PySem.W.Frag) (hK : X.K = K := by rfl) (hc : X.calm = true := by rfl) : CallR X (.type "set") (rSet X.prog X.w K) := by
  subst hK
  intro pins s σ H xs us Q I r h
  obtain ⟨p, ks, rfl, hs, hb, q⟩ := h
  obtain ⟨u, rfl, rx⟩ := vals1 r
  cases rx
  have hn : H s.heap.objs.size = none := I.hok.fresh (Nat.le_refl _)
  have fin : ∀ (h' : Heap) (tk : Nat), h'.SetOf (mixKind X.prog X.w) s.heap.objs.size (hasK ks.reverse) (dd ks.reverse).length → (∀ b o, s.heap.get? b = some o → h'.get? b = some o) → EP X pins σ Q (.ref s.heap.objs.size) { s with heap := h', toks := tk } := by
    intro h' tk hS kp
    have e0 := hS
    obtain ⟨o, _, _, _, ho, _⟩ := e0
    refine ⟨.ref s.heap.objs.size, _, I.laid (o := KSet X.prog X.w s.heap.objs.size ks.reverse) kp (Nat.le_refl _) ⟨hS, ⟨o, ho⟩, fun h1 h2 ⟨o, es, ep, t, ho, rr⟩ hk => ⟨o, es, ep, t, hk _ ho, rr⟩⟩, rfl, q _ hn⟩
  rcases hs with hs | hs
  · obtain ⟨its, rv, pl, hz⟩ := I.list hs
    have hl := rv.length
    rw [List.length_map] at hl
    exact set_of_seq (I.ok.hd hc) (.inl ⟨rfl, pl.isList⟩) rv (by omega) fin
  · obtain ⟨its, rv, pl, hz⟩ := I.tuple hs
    have hl := rv.length
    rw [List.length_map] at hl
    exact set_of_seq (I.ok.hd hc) (.inr ⟨rfl, pl⟩) rv (by omega) fin
def rLenSet (P : Program) (w : World) : List V → Hp → VK → Prop := fun xs H Q => ∃ (p : Addr) (ks : List Key), xs = [.ref p] ∧ H p = some (KSet P w p ks) ∧ Q (.int (dd ks).length) H
theorem call_lenKS : CallR X (.builtin "len") (rLenSet X.prog X.w) := by
  intro pins s σ H xs us Q I r h
  obtain ⟨p, ks, rfl, hp, q⟩ := h
  obtain ⟨u, rfl, rx⟩ := vals1 r
  cases rx
  obtain ⟨⟨o, es, ep, t, ho, hex, hd, hel, hmem, hb, hf, hn⟩, _⟩ := I.hok p _ hp
  refine PySem.call_len_set ho hex hd hf ?_ ⟨.int _, H, I.tok _, ⟨_, by rw [hn]⟩, q⟩
  have : scanBound < 2 ^ 63 := by decide
  omega
end
end L2
namespace L2
open PySem PySem.Spec PyProof.Rows
/-! ### a list or a tuple walked; range with a step -/
def SqB (b : Bool) (K : PySem.W.Frag) (H : Hp) (a : Addr) (xs : List V) : Prop := if b = true then SqL K H a xs else SqT K H a xs
theorem SqB.or {b : Bool} {K : PySem.W.Frag} {H : Hp} {a : Addr} {xs : List V} (h : SqB b K H a xs) : SqL K H a xs ∨ SqT K H a xs := by
  cases b
  · exact .inr h
  · exact .inl h
def ItS (b : Bool) (K : PySem.W.Frag) (a : Addr) (xs : List V) : It := ⟨fun i H => SqB b K H a xs ∧ i < xs.length, fun i H x H' => H' = H ∧ xs[i]? = some x, fun i H => SqB b K H a xs ∧ xs.length ≤ i⟩
theorem Turn.weak {P : Program} {w : World} {K : PySem.W.Frag} {tg : Expr} {J J' : It} {fp : List Addr} {it : Addr} {tn : Nat → Heap → Prop} (T : Turn P w K tg J fp it tn) (hg : ∀ i H, J'.go i H → J.go i H)
    (hy : ∀ i H x H', J'.go i H → J.yld i H x H' → J'.yld i H x H') (hs : ∀ i H, J'.stop i H → J.stop i H) : Turn P w K tg J' fp it tn where
  mem := T.mem
  obj := T.obj
  keep := T.keep
  item := fun X hP hw hK hc i pins s σ H E I hf st g => thn (T.item X hP hw hK hc i pins s σ H E I hf st (hg i H g)) fun r s1 ⟨u, e, q⟩ => ⟨u, e, thn q fun _ s2 ⟨x, H', I2, r2, y, rest⟩ => ⟨x, H', I2, r2, hy i H x H' g y, rest⟩⟩
  done := fun X hP hw hK hc i pins s σ H E I hf st g => T.done X hP hw hK hc i pins s σ H E I hf st (hs i H g)
  self := T.self
section
variable {X : Cx} {tg : Expr}
def iSeq (K : PySem.W.Frag) (tl : TE) : TI := fun σ H R => tl σ H fun x H1 => ∃ (b : Bool) (a : Addr) (xs : List V), x = .ref a ∧ SqB b K H1 a xs ∧ R (ItS b K a xs) H1
theorem pi_seqK (K : PySem.W.Frag) {l : Expr} {tl : TE} (hl : PE X l tl) (hK : X.K = K := by rfl) : PI X tg l (iSeq K tl) := by
  subst hK
  intro pins s σ H R I h
  refine thn (hl pins s σ H _ I h) fun v s1 ⟨x, H1, I1, r1, q1⟩ => ?_
  obtain ⟨b, a, xs, e, hq, q⟩ := q1
  subst e
  cases r1
  cases b with
  | true =>
    obtain ⟨its, rv, p, hz⟩ := I1.list (show SqL X.K H1 a xs from hq)
    refine wpAny_pyIter_list p.isList ⟨s1.heap.objs.size, [s1.heap.objs.size], _, _, H1, rfl, I1.kept (t' := s1.toks) fun b o e => Heap.get?_push_of_some _ e,
      (turn_list a _).weak (J' := ItS true X.K a xs) (fun i H g => ⟨xs, xs[i]'g.2, g.1, by simp [g.2]⟩) (fun i H x H' g y => ⟨y.1, y.2 xs g.1⟩) (fun i H g => ⟨xs, g.1, g.2⟩), ⟨_, Heap.get?_push_size _ rfl, rfl, rfl⟩, fun b hb => ?_, q⟩
    cases List.mem_singleton.mp hb
    exact I1.fpOk (Nat.le_refl _) (I1.hok.fresh (Nat.le_refl _))
  | false =>
    obtain ⟨its, rv, p, hz⟩ := I1.tuple (show SqT X.K H1 a xs from hq)
    refine wpAny_pyIter_tuple (show s1.heap.IsTuple a its.toArray from p) ⟨s1.heap.objs.size, [s1.heap.objs.size], _, _, H1, rfl, I1.kept (t' := s1.toks) fun b o e => Heap.get?_push_of_some _ e,
      (turn_tuple a _).weak (J' := ItS false X.K a xs) (fun i H g => ⟨xs, xs[i]'g.2, g.1, by simp [g.2]⟩) (fun i H x H' g y => ⟨y.1, y.2 xs g.1⟩) (fun i H g => ⟨xs, g.1, g.2⟩), ⟨_, Heap.get?_push_size _ rfl, rfl, rfl⟩, fun b hb => ?_, q⟩
    cases List.mem_singleton.mp hb
    exact I1.fpOk (Nat.le_refl _) (I1.hok.fresh (Nat.le_refl _))
end
theorem for_seq {b : Bool} {K : PySem.W.Frag} {a : Addr} {xs : List V} {g : TG} {tb : TS} {D : Ends} {σ : St} {H : Hp} (Pv : Nat → St → Hp → Prop) (h0 : Pv 0 σ H) (hl : ∀ i σ H, i ≤ xs.length → Pv i σ H → SqB b K H a xs)
    (hs : ∀ i x σ H, xs[i]? = some x → Pv i σ H → g x σ H fun σ2 H2 => tb { D with nx := Pv (i + 1), ct := Pv (i + 1), bk := D.nx } σ2 H2) (hd : ∀ σ H, Pv xs.length σ H → D.nx σ H) :
    ∃ W : Nat → Nat → St → Hp → Prop, (∃ m, W 0 m σ H) ∧ ∀ i m σ H, W i m σ H →
      ((ItS b K a xs).stop i H ∧ D.nx σ H) ∨ ((ItS b K a xs).go i H ∧ ∃ N : St → Hp → Prop, (∀ σ' H', N σ' H' → ∃ m', m' < m ∧ W (i + 1) m' σ' H') ∧ ∀ x H', (ItS b K a xs).yld i H x H' → g x σ H' fun σ2 H2 => tb { D with nx := N, ct := N, bk := D.nx } σ2 H2) := by
  refine ⟨fun i m σ H => m = xs.length - i ∧ i ≤ xs.length ∧ Pv i σ H, ⟨_, rfl, Nat.zero_le _, h0⟩, ?_⟩
  rintro i m σ H ⟨rfl, hi, p⟩
  have q := hl i σ H hi p
  by_cases lt : i < xs.length
  · refine .inr ⟨⟨q, lt⟩, Pv (i + 1), fun σ' H' p' => ⟨xs.length - (i + 1), by omega, rfl, lt, p'⟩, ?_⟩
    rintro x H' ⟨rfl, y⟩
    exact hs i x σ _ y p
  · obtain rfl : i = xs.length := by omega
    exact .inl ⟨⟨q, Nat.le_refl _⟩, hd σ H p⟩
/-- lo, lo + st, .. (n of them) -/
def Itr3 (lo st : Int) (n : Nat) : It := ⟨fun i _ => i < n, fun i H x H' => H' = H ∧ x = .int (lo + i * st), fun i _ => n ≤ i⟩
theorem turn_range3 {P : Program} {w : World} {K : PySem.W.Frag} {tg : Expr} (it : Addr) (lo st : Int) (n : Nat) : Turn P w K tg (Itr3 lo st n) [it] it (fun i h => IsRangeIter h it (lo + (i : Nat) * st) ((n : Int) - (i : Nat)) st) where
  mem := by simp
  obj := fun i h q b hb => by
    cases List.mem_singleton.mp hb
    exact ⟨_, q, fun v z => by cases (show Data.fields _ = Data.cell v from z)⟩
  keep := fun i h h' q k => k it (by simp) _ q
  item := by
    intro X hP hw hK hc i pins s σ H E I hf q hg
    subst hP hw hK
    obtain ⟨f0, f1, f2, f3, f4, f5⟩ := hf it (by simp)
    refine (Walks.range (prog := X.prog) (w := X.w) (I.ok.hd hc) it lo st n).item i s _ _ hg q fun v h' tk hv st' kk => ?_
    obtain ⟨t, rfl⟩ := hv
    have I1 : Inv X pins σ H { s with heap := h', toks := tk } := I.turned (fun b o hb e => kk b o (by simpa using hb) e) f0 f1 f3 f4 f5
    exact ⟨_, rfl, go_of (s := { s with heap := h', toks := tk }) (n := "range_iterator") st' rfl rfl (by decide) ⟨.int (lo + i * st), H, I1, ⟨t, rfl⟩, ⟨rfl, rfl⟩, st', fun b hb => (hf b hb).1⟩⟩
  done := by
    intro X hP hw hK hc i pins s σ H E I hf q hg
    subst hP hw hK
    obtain ⟨f0, f1, f2, f3, f4, f5⟩ := hf it (by simp)
    exact wpAny_pyNext_range_end (I.ok.hd hc) q (by have : n ≤ i := hg; omega) fun h' eb => ⟨rfl, I.turned (t' := s.toks) (fun b o hb e => eb b o hb e) f0 f1 f3 f4 f5⟩
  self := fun _ _ _ _ _ st h => wpAny_pyIter_rangeiter st h
section
variable {X : Cx} {tg : Expr}
theorem op_mulW : OpR X (binaryOp .Mult) (rI IntMulOk fun i j => .int (i * j)) := opI fun _ _ _ _ _ _ _ hc q => mul_int q hc
/-- range(a, b, c), c small and above nought -/
def iRng3 (ta : TA) : TI := fun σ H R => ta σ H fun vs H1 => ∃ i j k : Int, vs = [.int i, .int j, .int k] ∧ (-(2 ^ 40) ≤ i ∧ i < 2 ^ 40 ∧ -(2 ^ 40) ≤ j ∧ j < 2 ^ 40 ∧ 0 < k ∧ k < 1000000) ∧ R (Itr3 i k (Builtin.Range.rangeSize i j k).toNat) H1
theorem small_three {i j k : Int} (h : -(2 ^ 40) ≤ i ∧ i < 2 ^ 40 ∧ -(2 ^ 40) ≤ j ∧ j < 2 ^ 40 ∧ 0 < k ∧ k < 1000000) : Builtin.Range.small i j k = true := by
  have h1 := rangeSize_toNat i j k
  have h2 := rangeSize_toNat_le i j k
  unfold Builtin.Range.small
  generalize Builtin.Range.rangeSize i j k = z at *
  rw [if_pos (by omega)]
  simp only [Builtin.Range.rangeFitsLong, Bool.and_eq_true, Bool.or_eq_true, decide_eq_true_eq, beq_iff_eq]
  omega
theorem pi_range3 {a b c : Expr} {ta : TA} {p pos : Pos} (hg : Gl X "range") (hm : X.mg "range" = none) (ha : PA X [a, b, c] ta) (hs : starEach [a, b, c] X.env = (false, eval a X.env) :: starEach [b, c] X.env := by rfl) (hs2 : (backTo pos (starEach [b, c] X.env)).any (·.1) = false := by rfl) :
    PI X tg (.Call (.Name "range" p) [a, b, c] [] pos) (iRng3 ta) := by
  intro pins s σ H R I h
  refine Call_ (ld_blt I hg hm boot_range (PyProof.Rows.callWith_type1 (thn (ha pos pins s σ H _ I h) fun us s1 ⟨vs, H1, I1, r1, q1⟩ => ?_) hs hs2))
  obtain ⟨i, j, k, e, hb, q⟩ := q1
  subst e
  cases r1 with
  | cons r rr =>
    cases rr with
    | cons r' rr =>
      cases rr with
      | cons r'' rr =>
        cases rr
        obtain ⟨t, rfl⟩ := r
        obtain ⟨t', rfl⟩ := r'
        obtain ⟨t'', rfl⟩ := r''
        refine call_range_3 (by omega) ?_ (.inl (PyProof.noPylong_small (by omega)))
        refine wpAny_pyIter_range (IsRange.new ..) (small_three hb) ?_
        have I2 : Inv X pins σ H1 { s1 with heap := s1.heap.push { cls := .type "range", data := .fields #[.int i t, .int j t', .int k t''] } } := I1.kept (t' := s1.toks) fun b o e => Heap.get?_push_of_some _ e
        refine ⟨_, [_], _, _, H1, rfl, I2.kept (t' := s1.toks) fun b o e => Heap.get?_push_of_some _ e, turn_range3 _ i k (Builtin.Range.rangeSize i j k).toNat, ?_, fun b hb => ?_, q⟩
        · have e1 : i + ((0 : Nat) : Int) * k = i := by simp
          have e2 : (((Builtin.Range.rangeSize i j k).toNat : Nat) : Int) - ((0 : Nat) : Int) = Builtin.Range.rangeSize i j k := by have := rangeSize_toNat i j k; omega
          show IsRangeIter _ _ (i + ((0 : Nat) : Int) * k) ((((Builtin.Range.rangeSize i j k).toNat : Nat) : Int) - ((0 : Nat) : Int)) k
          rw [e1, e2]
          exact Heap.get?_push_size _ rfl
        · cases List.mem_singleton.mp hb
          exact I2.fpOk (Nat.le_refl _) (I2.hok.fresh (Nat.le_refl _))
end
end L2
namespace L2
open PySem PySem.Spec PyProof.Rows
/-! ### " ".join(a tuple), text.split(" ") -/
section
variable {X : Cx}
theorem mt_joinT (K : PySem.W.Frag) (hK : X.K = K := by rfl) : MtR X "str.join" (fun x vs H Q => ∃ (y : Str) (p : Addr) (ys : List Str), x = .str y ∧ vs = [.ref p] ∧ SqT K H p (ys.map V.str) ∧ (ys.map (·.length)).sum + ys.length * y.length ≤ 16777216 ∧ Q (.str (Txt.join y ys)) H) := by
  subst hK
  intro pins s σ H x vs v us Q I rx rv h
  obtain ⟨y, p, ys, rfl, rfl, hp, hz, q⟩ := h
  obtain ⟨t, rfl⟩ := rx
  obtain ⟨u, rfl, ru⟩ := rv.one
  cases ru
  obtain ⟨its, r1, ⟨o, ho, hc, n, hd⟩, _⟩ := I.tuple hp
  exact join_tuple (items := its.toArray) ⟨o, ho, hc, n, hd⟩ (by simpa using strs_of r1) hz fun t' k => ⟨.str (Txt.join y ys), H, I.tok _, ⟨_, rfl⟩, q⟩
theorem split_nn (x y : Str) : Txt.split x y ≠ [] := by
  unfold Txt.split
  split
  · simp
  · split
    · simp
    · rw [StrLaws.partsBetween_eq]
      intro e
      cases h : Builtin.Str.occurrences x y 0 x.length (x.length + 1) with
      | nil => rw [h] at e; cases e
      | cons _ _ => rw [h] at e; cases e
theorem strs_back : ∀ (l : List (Str × Tok)), Vals ((l.map (·.1)).map V.str) (strValues l)
  | [] => .nil
  | (y, t) :: l => .cons ⟨t, rfl⟩ (strs_back l)
theorem split_call {prog : Program} {w : World} {A : Around} {E : Value → Shared → Prop} {s : Shared} {x y : Str} {t u : Tok} {Q : Value → Shared → Prop} (hy : (y.length == 0) = false) (hz : x.length ≤ sizeLine) (hz2 : (Txt.split x y).length ≤ sizeLine)
    (hq : ∀ (l : List (Str × Tok)) (k : Tok), l.map (·.1) = Txt.split x y → Q (.ref s.heap.objs.size) { s with heap := s.heap.push { cls := .type "list", data := .seq (strValues l).toArray }, toks := k }) : wpAny (model prog w) A (call (.builtin "str.split") [.str x t, .str y u]) Q E s := by
  cases h1 : (decide (x.length < y.length) || decide (Builtin.Str.strKind x < Builtin.Str.strKind y)) with
  | true => exact call_meets F.slot_str_split (typeIs_str _ _ _) F.entry_str_split (F.args_str_split_2 _ _) (meets_str_split_cannot_occur x y t u h1) (hq [(x, t)] s.toks (if_pos h1).symm)
  | false =>
    cases hf : (Builtin.Str.occurrences x y 0 x.length (x.length + 1)).isEmpty with
    | true => exact call_meets F.slot_str_split (typeIs_str _ _ _) F.entry_str_split (F.args_str_split_2 _ _) (meets_str_split_not_found x y t u h1 hy hf) (hq [(x, t)] s.toks ((if_neg (by rw [h1]; decide)).trans (if_pos hf)).symm)
    | false =>
      have e : Txt.split x y = Builtin.Str.partsBetween x (Builtin.Str.occurrences x y 0 x.length (x.length + 1)) y.length := (if_neg (by rw [h1]; decide)).trans (if_neg (by rw [hf]; decide))
      rw [e] at hq hz2
      refine call_meets F.slot_str_split (typeIs_str _ _ _) F.entry_str_split (F.args_str_split_2 _ _) (meets_str_split_sep x y t u h1 hy hf hz hz2) ?_
      have := hq (numbered s.toks (Builtin.Str.partsBetween x (Builtin.Str.occurrences x y 0 x.length (x.length + 1)) y.length)) (s.toks + (Builtin.Str.partsBetween x (Builtin.Str.occurrences x y 0 x.length (x.length + 1)) y.length).length) (numbered_texts _ _)
      rw [← strsFrom_eq] at this
      exact this
def rSplit : V → List V → Hp → VK → Prop := fun x vs H Q => ∃ a b : Str, x = .str a ∧ vs = [.str b] ∧ (b.length == 0) = false ∧ a.length ≤ 1000 ∧ (Txt.split a b).length ≤ 2000 ∧ ∀ q : Addr, H q = none → Q (.ref q) (upd H q (.lst ((Txt.split a b).map V.str)))
theorem mt_split : MtR X "str.split" rSplit := by
  intro pins s σ H x vs v us Q I rx rv h
  obtain ⟨a, b, rfl, rfl, hb, ha, hz, q⟩ := h
  obtain ⟨t, rfl⟩ := rx
  obtain ⟨u, rfl, ru⟩ := rv.one
  obtain ⟨t', rfl⟩ := ru
  refine split_call hb (by rw [sizeLine_eq]; omega) (by rw [sizeLine_eq]; omega) fun l k e => ?_
  refine ⟨.ref _, _, I.laid (t' := k) (o := .lst ((Txt.split a b).map V.str)) (a := s.heap.objs.size) (fun b o eb => Heap.get?_push_of_some _ eb) (Nat.le_refl _) ⟨by rw [List.length_map, sizeLine_eq]; omega, _, 0, ?_, Heap.get?_push_size _ rfl⟩, rfl, q _ (I.hok.fresh (Nat.le_refl _))⟩
  rw [← e]
  exact strs_back l
end
section
variable {g : TG} {tt : TT} {te : TE} {D : Addr} {σ : St} {H : Hp} {Q : VK}
theorem lc_range3 {lo st : Int} {n : Nat} (Pv : Nat → St → Hp → Prop) (h0 : Pv 0 σ H)
    (hs : ∀ (i : Nat) (σ : St) (H : Hp) (N : St → Hp → Prop), (∀ σ H, Pv (i + 1) σ H → N σ H) → i < n → Pv i σ H → g (.int (lo + i * st)) σ H fun σ3 H3 => tt σ3 H3 fun b H4 =>
      if b = true then te σ3 H4 fun v H5 => ∃ ys, H5 D = some (.lst ys) ∧ ys.length < sizeLine ∧ N σ3 (upd H5 D (.lst (ys ++ [v]))) else N σ3 H4)
    (hd : ∀ σ H, Pv n σ H → Q (.ref D) H) : lcRun (Itr3 lo st n) g tt te D σ H Q := by
  refine ⟨fun i m σ H => m = n - i ∧ i ≤ n ∧ Pv i σ H, ⟨n, by simp, Nat.zero_le _, h0⟩, ?_⟩
  rintro i m σ' H' ⟨rfl, hi, p⟩
  by_cases hlt : i < n
  · refine .inr ⟨hlt, fun x H2 y => ?_⟩
    obtain ⟨e, y⟩ := y
    subst e y
    exact hs i σ' _ (fun σ3 H3 => ∃ m', m' < n - i ∧ m' = n - (i + 1) ∧ i + 1 ≤ n ∧ Pv (i + 1) σ3 H3) (fun σ3 H3 z => ⟨n - (i + 1), by omega, rfl, hlt, z⟩) hlt p
  · have e : i = n := by omega
    subst e
    exact .inl ⟨Nat.le_refl _, hd σ' H' p⟩
end
end L2
namespace L2
open PySem PySem.Spec PyProof.Rows
/-! ### nested lists and tuples of numbers and texts, as data; two of them compared -/
inductive IsDat (K : PySem.W.Frag) (H : Hp) : Nat → V → PyData → Prop where
  | non {n : Nat} : IsDat K H n .non .none
  | bl {n : Nat} (b : Bool) : IsDat K H n (.bl b) (.bool b)
  | int {n : Nat} (i : Int) : IsDat K H n (.int i) (.int i)
  | str {n : Nat} (x : Str) (h : PyData.strOk x = true) : IsDat K H n (.str x) (.str x)
  | lst {n : Nat} {a : Addr} {xs : List V} {ds : List PyData} (ha : SqL K H a xs) (hl : xs.length = ds.length) (h : ∀ (i : Nat) (x : V) (d : PyData), xs[i]? = some x → ds[i]? = some d → IsDat K H n x d) : IsDat K H (n + 1) (.ref a) (.list ds)
  | tup {n : Nat} {a : Addr} {xs : List V} {ds : List PyData} (ha : SqT K H a xs) (hl : xs.length = ds.length) (h : ∀ (i : Nat) (x : V) (d : PyData), xs[i]? = some x → ds[i]? = some d → IsDat K H n x d) : IsDat K H (n + 1) (.ref a) (.tuple ds)
theorem layAll : ∀ (ds : List PyData), (∀ d ∈ ds, d.canLay0 = true) → PyData.canLayAll0 ds = true
  | [], _ => rfl
  | d :: ds, h => by
    show (PyData.canLay0 d && PyData.canLayAll0 ds) = true
    rw [h d List.mem_cons_self, layAll ds fun x hx => h x (List.mem_cons_of_mem _ hx)]; rfl
theorem depAll {n : Nat} : ∀ (ds : List PyData), (∀ d ∈ ds, d.depth ≤ n) → PyData.depthAll ds ≤ n
  | [], _ => Nat.zero_le _
  | d :: ds, h => by
    show max (PyData.depth d) (PyData.depthAll ds) ≤ n
    exact Nat.max_le.mpr ⟨h d List.mem_cons_self, depAll ds fun x hx => h x (List.mem_cons_of_mem _ hx)⟩
theorem pair_of {xs : List V} {ds : List PyData} (hl : xs.length = ds.length) {d : PyData} (h : d ∈ ds) : ∃ (i : Nat) (x : V), xs[i]? = some x ∧ ds[i]? = some d := by
  obtain ⟨i, hi, e⟩ := List.getElem_of_mem h
  exact ⟨i, xs[i]'(by omega), List.getElem?_eq_getElem _, by rw [List.getElem?_eq_getElem hi, e]⟩
theorem IsDat.lay {K : PySem.W.Frag} {H : Hp} {n : Nat} {v : V} {d : PyData} (h : IsDat K H n v d) : d.canLay0 = true := by
  induction h with
  | non => rfl
  | bl => rfl
  | int => rfl
  | str x hx => exact hx
  | lst ha hl h ih => exact layAll _ fun d hd => let ⟨i, x, h1, h2⟩ := pair_of hl hd; ih i x d h1 h2
  | tup ha hl h ih => exact layAll _ fun d hd => let ⟨i, x, h1, h2⟩ := pair_of hl hd; ih i x d h1 h2
theorem IsDat.dep {K : PySem.W.Frag} {H : Hp} {n : Nat} {v : V} {d : PyData} (h : IsDat K H n v d) : d.depth ≤ n := by
  induction h with
  | non => exact Nat.zero_le _
  | bl => exact Nat.zero_le _
  | int => exact Nat.zero_le _
  | str x hx => exact Nat.zero_le _
  | lst ha hl h ih => exact Nat.succ_le_succ (depAll _ fun d hd => let ⟨i, x, h1, h2⟩ := pair_of hl hd; ih i x d h1 h2)
  | tup ha hl h ih => exact Nat.succ_le_succ (depAll _ fun d hd => let ⟨i, x, h1, h2⟩ := pair_of hl hd; ih i x d h1 h2)
theorem IsDat.up {K : PySem.W.Frag} {H : Hp} {n m : Nat} {v : V} {d : PyData} (h : IsDat K H n v d) (hm : n ≤ m) : IsDat K H m v d := by
  induction h generalizing m with
  | non => exact .non
  | bl b => exact .bl b
  | int i => exact .int i
  | str x hx => exact .str x hx
  | lst ha hl h ih => cases m with
    | zero => omega
    | succ m => exact .lst ha hl fun i x d h1 h2 => ih i x d h1 h2 (by omega)
  | tup ha hl h ih => cases m with
    | zero => omega
    | succ m => exact .tup ha hl fun i x d h1 h2 => ih i x d h1 h2 (by omega)
theorem readsAll_of {h : Heap} : ∀ (us : List Value) (ds : List PyData), us.length = ds.length → (∀ (i : Nat) (u : Value) (d : PyData), us[i]? = some u → ds[i]? = some d → ∃ as, Reads h u d as) → ∃ as, ReadsAll h us ds as
  | [], [], _, _ => ⟨[], .nil⟩
  | [], _ :: _, e, _ => by cases e
  | _ :: _, [], e, _ => by cases e
  | u :: us, d :: ds, e, q => by
    obtain ⟨as, r⟩ := q 0 u d rfl rfl
    obtain ⟨bs, rs⟩ := readsAll_of us ds (Nat.succ.inj e) fun i u d h1 h2 => q (i + 1) u d (by simpa using h1) (by simpa using h2)
    exact ⟨as ++ bs, .cons r rs⟩
theorem Vals.back : ∀ {xs : List V} {us : List Value} {i : Nat} {u : Value}, Vals xs us → us[i]? = some u → ∃ x, xs[i]? = some x ∧ RelV x u
  | _, _, _, _, .nil, e => by simp at e
  | _, _, 0, _, .cons r _, e => by simp at e; subst e; exact ⟨_, rfl, r⟩
  | _, _, i + 1, u, .cons _ t, e => by
    obtain ⟨x, h1, h2⟩ := Vals.back (i := i) (u := u) t (by simpa using e)
    exact ⟨x, by simpa using h1, h2⟩
section
variable {X : Cx} {pins : List (Addr × Obj)} {σ : St} {H : Hp} {s : Shared}
theorem IsDat.reads (I : Inv X pins σ H s) {n : Nat} {v : V} {d : PyData} (h : IsDat X.K H n v d) : ∀ {u : Value}, RelV v u → ∃ as, Reads s.heap u d as := by
  induction h with
  | non => intro u r; cases r; exact ⟨_, .none⟩
  | bl b => intro u r; cases r; exact ⟨_, .bool b⟩
  | int i => intro u r; obtain ⟨t, rfl⟩ := r; exact ⟨_, .int i t⟩
  | str x hx => intro u r; obtain ⟨t, rfl⟩ := r; exact ⟨_, .str x t⟩
  | lst ha hl h ih =>
    intro u r
    cases r
    obtain ⟨its, rv, ⟨o, n, ho, hc, _, hd⟩, hz⟩ := I.list ha
    obtain ⟨as, rs⟩ := readsAll_of (h := s.heap) its _ (by rw [← rv.length, hl]) fun i u d h1 h2 => by
      obtain ⟨x, h3, h4⟩ := rv.back h1
      exact ih i x d h3 h2 h4
    exact ⟨_, .list ho hc hd (by simpa using rs)⟩
  | tup ha hl h ih =>
    intro u r
    cases r
    obtain ⟨its, rv, ⟨o, ho, hc, n, hd⟩, hz⟩ := I.tuple ha
    obtain ⟨as, rs⟩ := readsAll_of (h := s.heap) its _ (by rw [← rv.length, hl]) fun i u d h1 h2 => by
      obtain ⟨x, h3, h4⟩ := rv.back h1
      exact ih i x d h3 h2 h4
    exact ⟨_, .tuple ho hc hd (by simpa using rs)⟩
def rEqD (K : PySem.W.Frag) (neg : Bool) : R2 := fun x y H Q => ∃ d e, IsDat K H 8 x d ∧ IsDat K H 8 y e ∧ Q (.bl (if neg then !PyData.eqv d e else PyData.eqv d e)) H
theorem op_eqD (K : PySem.W.Frag) (hu : X.A.units + 16 < cLine) (hK : X.K = K := by rfl) : OpR X (compareOp .Eq) (rEqD K false) := by
  subst hK
  intro pins s σ H x y v u Q I rx ry h
  obtain ⟨d, e, h1, h2, q⟩ := h
  obtain ⟨as, r1⟩ := h1.reads I rx
  obtain ⟨bs, r2⟩ := h2.reads I ry
  have z := h1.dep
  exact SeqAt.compareEq_reads r1 r2 h1.lay h2.lay (by omega) ⟨.bl _, H, I, rfl, q⟩
theorem op_neD (K : PySem.W.Frag) (hu : X.A.units + 16 < cLine) (hK : X.K = K := by rfl) : OpR X (compareOp .NotEq) (rEqD K true) := by
  subst hK
  intro pins s σ H x y v u Q I rx ry h
  obtain ⟨d, e, h1, h2, q⟩ := h
  obtain ⟨as, r1⟩ := h1.reads I rx
  obtain ⟨bs, r2⟩ := h2.reads I ry
  have z := h1.dep
  exact SeqAt.compareNe_reads r1 r2 h1.lay h2.lay (by omega) ⟨.bl _, H, I, rfl, q⟩
end
theorem IsDat.eqv {K : PySem.W.Frag} {H : Hp} {n : Nat} {v : V} {d : PyData} (h : IsDat K H n v d) : PyData.eqv d d = true := SeqAt.eqv_refl d h.lay
theorem IsDat.same {K : PySem.W.Frag} {H H' : Hp} {n : Nat} {v : V} {d : PyData} (h : IsDat K H n v d) (s : Same H H') : IsDat K H' n v d := by
  induction h with
  | non => exact .non
  | bl b => exact .bl b
  | int i => exact .int i
  | str x hx => exact .str x hx
  | lst ha hl h ih => exact .lst (s.seq ha) hl ih
  | tup ha hl h ih => exact .tup (s.tup ha) hl ih
/-- tuples stay -/
def Kept (H H' : Hp) : Prop := ∀ (a : Addr) (xs : List V), Rd H a (.tup xs) → Rd H' a (.tup xs)
theorem Kept.tup {K : PySem.W.Frag} {H H' : Hp} {a : Addr} {xs : List V} (k : Kept H H') (h : SqT K H a xs) : SqT K H' a xs := h.elim (fun h => .inl (k a xs h)) .inr
theorem Kept.refl {H : Hp} : Kept H H := fun _ _ h => h
theorem Kept.trans {H H' H'' : Hp} (a : Kept H H') (b : Kept H' H'') : Kept H H'' := fun x xs h => b x xs (a x xs h)
theorem Kept.same {H H' : Hp} (s : Same H H') : Kept H H' := fun a xs h => by
  rcases h with h | ⟨o, h⟩
  · exact .inl (s _ _ h)
  · exact .inr ⟨o, s _ _ h⟩
mutual
def noL : PyData → Bool
  | .none | .bool _ | .int _ | .str _ => true
  | .tuple xs => noLAll xs
  | .list _ | .dict _ => false
def noLAll : List PyData → Bool
  | [] => true
  | x :: xs => noL x && noLAll xs
end
theorem noLAll_mem : ∀ {ds : List PyData} {d : PyData}, noLAll ds = true → d ∈ ds → noL d = true
  | x :: xs, d, h, hd => by
    have h : (noL x && noLAll xs) = true := h
    rw [Bool.and_eq_true] at h
    rcases List.mem_cons.mp hd with rfl | hd
    · exact h.1
    · exact noLAll_mem h.2 hd
theorem IsDat.kept {K : PySem.W.Frag} {H H' : Hp} {n : Nat} {v : V} {d : PyData} (h : IsDat K H n v d) (k : Kept H H') (hn : noL d = true) : IsDat K H' n v d := by
  induction h with
  | non => exact .non
  | bl b => exact .bl b
  | int i => exact .int i
  | str x hx => exact .str x hx
  | lst ha hl h ih => cases hn
  | tup ha hl h ih => exact .tup (k.tup ha) hl fun i x d h1 h2 => ih i x d h1 h2 (noLAll_mem hn (List.mem_of_getElem? h2))

mutual
def plainD : PyData → Bool
  | .none | .int _ | .str _ => true
  | .list xs | .tuple xs => plainDs xs
  | .bool _ | .dict _ => false
def plainDs : List PyData → Bool
  | [] => true
  | x :: xs => plainD x && plainDs xs
end
mutual
theorem eqv_eq : ∀ d e : PyData, plainD d = true → plainD e = true → PyData.eqv d e = true → d = e
  | .none, .none, _, _, _ => rfl
  | .int i, .int j, _, _, h => by rw [show i = j from by simpa [PyData.eqv] using h]
  | .str x, .str y, _, _, h => by rw [show x = y from by simpa [PyData.eqv] using h]
  | .list xs, .list ys, p, q, h => by rw [eqvs_eq xs ys p q (by simpa [PyData.eqv] using h)]
  | .tuple xs, .tuple ys, p, q, h => by rw [eqvs_eq xs ys p q (by simpa [PyData.eqv] using h)]
  | .bool _, _, p, _, _ => by cases p
  | .dict _, _, p, _, _ => by cases p
  | .none, .bool _, _, q, _ | .none, .dict _, _, q, _ | .int _, .bool _, _, q, _ | .int _, .dict _, _, q, _ | .str _, .bool _, _, q, _ | .str _, .dict _, _, q, _ | .list _, .bool _, _, q, _ | .list _, .dict _, _, q, _ | .tuple _, .bool _, _, q, _ | .tuple _, .dict _, _, q, _ => by cases q
  | .none, .int _, _, _, h | .none, .str _, _, _, h | .none, .list _, _, _, h | .none, .tuple _, _, _, h => by simp [PyData.eqv] at h
  | .int _, .none, _, _, h | .int _, .str _, _, _, h | .int _, .list _, _, _, h | .int _, .tuple _, _, _, h => by simp [PyData.eqv] at h
  | .str _, .none, _, _, h | .str _, .int _, _, _, h | .str _, .list _, _, _, h | .str _, .tuple _, _, _, h => by simp [PyData.eqv] at h
  | .list _, .none, _, _, h | .list _, .int _, _, _, h | .list _, .str _, _, _, h | .list _, .tuple _, _, _, h => by simp [PyData.eqv] at h
  | .tuple _, .none, _, _, h | .tuple _, .int _, _, _, h | .tuple _, .str _, _, _, h | .tuple _, .list _, _, _, h => by simp [PyData.eqv] at h
theorem eqvs_eq : ∀ xs ys : List PyData, plainDs xs = true → plainDs ys = true → PyData.eqvAll xs ys = true → xs = ys
  | [], [], _, _, _ => rfl
  | x :: xs, y :: ys, p, q, h => by
    have p : (plainD x && plainDs xs) = true := p
    have q : (plainD y && plainDs ys) = true := q
    have h : (PyData.eqv x y && PyData.eqvAll xs ys) = true := by simpa [PyData.eqvAll] using h
    rw [Bool.and_eq_true] at p q h
    rw [eqv_eq x y p.1 q.1 h.1, eqvs_eq xs ys p.2 q.2 h.2]
  | [], _ :: _, _, _, h => by simp [PyData.eqvAll] at h
  | _ :: _, [], _, _, h => by simp [PyData.eqvAll] at h
end
theorem SqB.same {b : Bool} {K : PySem.W.Frag} {H H' : Hp} {a : Addr} {xs : List V} (h : SqB b K H a xs) (s : Same H H') : SqB b K H' a xs := by
  cases b
  · exact s.tup (show SqT K H a xs from h)
  · exact s.seq (show SqL K H a xs from h)
end L2
namespace L2
open PySem PySem.Spec PyProof.Rows
/-! ### one tuple less than another: item by item -/
def LesAt (A : Around) (s : Shared) (x y : Value) (b : Bool) : Prop := ∀ (prog : Program) (w : World) (E : Value → Shared → Prop) (Q : Value → Shared → Prop), Q (.bool b) s → wpAny (model prog w) A (richCompare .Lt x y) Q E s
def lexR (e l : Nat → Bool) (z : Bool) : List Nat → Bool
  | [] => z
  | j :: r => if e j = true then lexR e l z r else l j
theorem tuple_ltAt (l b : Addr) (us ws : Array Value) (n n2 : Nat) (dd dd2 : Option Addr) (sl sl2 : Array (Option Value)) (e g : Nat → Bool) :
    Meets (Builtin.«tuple.__lt__» ⟨[.ref l, .ref b], []⟩)
      (fun A R s => s.heap.get? l = some { cls := .type "tuple", dict := dd, data := .seq us n, slots := sl } ∧ s.heap.get? b = some { cls := .type "tuple", dict := dd2, data := .seq ws n2, slots := sl2 } ∧
        (∀ (j : Nat) (h1 : j < us.size) (h2 : j < ws.size), SeqAt.EqAt A.in1 s us[j] ws[j] (e j)) ∧ (∀ (j : Nat) (h1 : j < us.size) (h2 : j < ws.size), e j = false → LesAt A.in1 s us[j] ws[j] (g j)) ∧
        R (.ok (.ret (.bool (lexR e g (decide (us.size < ws.size)) (List.range (min us.size ws.size)))))) s) :=
  .of_wp fun prog w A R s h => by
    obtain ⟨hp, g0, d, tk, os⟩ := s
    obtain ⟨hl, hb, he, hg, h⟩ := h
    have f2 := AutoSeq1.sub_tuple_tuple
    have hZ : (us.toList.zip ws.toList).length = min us.size ws.size := by simp
    wp_walk using AutoSeq1.wpAny_loadPart' hl, AutoSeq1.wpAny_loadPart' hb, wpAny_forIn_list _ (fun rest b s' => b.1 = none ∧ s' = ⟨hp, g0, d, tk, os⟩ ∧ ∃ i, rest = (us.toList.zip ws.toList).drop i ∧
      R (.ok (.ret (.bool (lexR e g (decide (us.size < ws.size)) ((List.range (min us.size ws.size)).drop i))))) ⟨hp, g0, d, tk, os⟩) _
    case turn =>
      rintro ⟨y, x⟩ rest b s' ⟨hb', rfl, i, hz, hR⟩
      have hL : i < (us.toList.zip ws.toList).length := by
        rcases Nat.lt_or_ge i (us.toList.zip ws.toList).length with h' | h'
        · exact h'
        · rw [List.drop_of_length_le h'] at hz; cases hz
      have hm : i < min us.size ws.size := hZ ▸ hL
      have h1 : i < us.size := Nat.lt_of_lt_of_le hm (Nat.min_le_left _ _)
      have h2 : i < ws.size := Nat.lt_of_lt_of_le hm (Nat.min_le_right _ _)
      rw [List.drop_eq_getElem_cons hL] at hz
      injection hz with hq hw
      have hy : y = us[i] := by have := congrArg Prod.fst hq; simpa using this
      have hx : x = ws[i] := by have := congrArg Prod.snd hq; simpa using this
      subst hy hx
      have hd : (List.range (min us.size ws.size)).drop i = i :: (List.range (min us.size ws.size)).drop (i + 1) := by simp [List.drop_eq_getElem_cons, hm]
      rw [hd] at hR
      refine wpAny_bind (he i h1 h2 prog w _ _ ?_)
      cases hy : e i with
      | true =>
        rw [lexR, if_pos hy] at hR
        wp_walk
        exact ⟨rfl, rfl, i + 1, hw, hR⟩
      | false =>
        rw [lexR, if_neg (by rw [hy]; decide)] at hR
        refine wpAny_bind (wpAny_rule (wpAny_bind (hg i h1 h2 hy prog w _ _ ?_)))
        wp_walk
        exact ⟨_, rfl, hR⟩
    case fin =>
      rintro ⟨b1, b2⟩ s' ⟨hb', rfl, i, hz, hR⟩
      simp only at hb'
      subst hb'
      have hG : min us.size ws.size ≤ i := by
        rcases Nat.lt_or_ge i (us.toList.zip ws.toList).length with h' | h'
        · rw [List.drop_eq_getElem_cons h'] at hz; cases hz
        · exact hZ ▸ h'
      rw [List.drop_of_length_le (by simpa using hG)] at hR
      wp_walk
      exact ⟨_, rfl, by simpa [Builtin.Tuple.tupleCompareSizes, lexR] using hR⟩
    case h =>
      exact ⟨rfl, rfl, 0, rfl, by simpa using h⟩
theorem LesAt.tuples {A : Around} {s : Shared} {l b : Addr} {us ws : Array Value} {e g : Nat → Bool} (hl : s.heap.IsTuple l us) (hb : s.heap.IsTuple b ws) (hu : A.units < cLine)
    (he : ∀ (j : Nat) (h1 : j < us.size) (h2 : j < ws.size), SeqAt.EqAt A.in1 s us[j] ws[j] (e j)) (hg : ∀ (j : Nat) (h1 : j < us.size) (h2 : j < ws.size), e j = false → LesAt A.in1 s us[j] ws[j] (g j)) : LesAt A s (.ref l) (.ref b) (lexR e g (decide (us.size < ws.size)) (List.range (min us.size ws.size))) := fun prog w E Q h => by
  obtain ⟨⟨cls, dd, data, sl⟩, ho, hc, n, hd⟩ := id hl
  obtain ⟨⟨cls2, dd2, data2, sl2⟩, ho2, hc2, n2, hd2⟩ := id hb
  simp only at hc hd hc2 hd2
  subst hc hd hc2 hd2
  exact richCompare_meets_room (op := .Lt) ⟨_, ho, rfl⟩ ⟨_, ho2, rfl⟩ F.slot_tuple_lt F.entry_tuple_lt (F.args_tuple_lt_2 _ _) (tuple_ltAt l b us ws n n2 dd dd2 sl sl2 e g)
    ⟨ho, ho2, he, hg, show Value.bool _ ≠ Value.notImplemented ∧ Q (.bool _) s from ⟨(fun x => nomatch x), h⟩⟩ hu
end L2
namespace L2
open PySem PySem.Spec PyProof.Rows
mutual
def lesD : PyData → PyData → Bool
  | .int a, .int b => decide (a < b)
  | .str x, .str y => decide (x.cps.toList < y.cps.toList)
  | .tuple xs, .tuple ys => lesDs xs ys
  | _, _ => false
def lesDs : List PyData → List PyData → Bool
  | [], [] => false
  | [], _ :: _ => true
  | _ :: _, [] => false
  | x :: xs, y :: ys => if PyData.eqv x y = true then lesDs xs ys else lesD x y
end
mutual
def okD : PyData → PyData → Bool
  | .int _, .int _ => true
  | .str _, .str _ => true
  | .tuple xs, .tuple ys => okDs xs ys
  | _, _ => false
def okDs : List PyData → List PyData → Bool
  | x :: xs, y :: ys => okD x y && okDs xs ys
  | _, _ => true
end
abbrev pairLes (xs ys : List PyData) (j : Nat) : Bool := lesD (xs.getD j .none) (ys.getD j .none)
theorem lexR_map (e g : Nat → Bool) (z : Bool) : ∀ l : List Nat, lexR e g z (l.map (· + 1)) = lexR (fun j => e (j + 1)) (fun j => g (j + 1)) z l
  | [] => rfl
  | x :: r => by rw [List.map_cons, lexR, lexR, lexR_map e g z r]
theorem lexR_eq : ∀ xs ys : List PyData, lexR (SeqAt.pairEq xs ys) (pairLes xs ys) (decide (xs.length < ys.length)) (List.range (min xs.length ys.length)) = lesDs xs ys
  | [], [] => by rfl
  | [], _ :: _ => by simp [lexR, lesDs]
  | _ :: _, [] => by simp [lexR, lesDs]
  | x :: xs, y :: ys => by
    have e : min (x :: xs).length (y :: ys).length = min xs.length ys.length + 1 := by simp only [List.length_cons]; omega
    rw [e, List.range_succ_eq_map, lexR]
    have e2 : List.map Nat.succ (List.range (min xs.length ys.length)) = (List.range (min xs.length ys.length)).map (· + 1) := rfl
    rw [e2, lexR_map, lesDs]
    have e3 : decide ((x :: xs).length < (y :: ys).length) = decide (xs.length < ys.length) := by simp
    rw [e3]
    have := lexR_eq xs ys
    rw [← this]
    rfl
section
variable {A : Around} {s : Shared}
theorem LesAt.int (i j : Int) (t u : Tok) : LesAt A s (.int i t) (.int j u) (decide (i < j)) := fun prog w E Q h => lt_int h
theorem LesAt.str (x y : Str) (t u : Tok) : LesAt A s (.str x t) (.str y u) (decide (x.cps.toList < y.cps.toList)) := fun prog w E Q h => lt_str h
end
theorem reads_len {h : Heap} : ∀ {vs : List Value} {xs : List PyData} {as : List Addr}, ReadsAll h vs xs as → vs.length = xs.length
  | _, _, _, .nil => rfl
  | _, _, _, .cons _ q => congrArg Nat.succ (reads_len q)
theorem readsAll_at {h : Heap} : ∀ {vs : List Value} {xs : List PyData} {as : List Addr}, ReadsAll h vs xs as → ∀ (j : Nat) (hj : j < vs.length), ∃ bs, Reads h vs[j] (xs.getD j .none) bs
  | _, _, _, .nil, _, hj => absurd hj (Nat.not_lt_zero _)
  | _, _, _, .cons r _, 0, _ => ⟨_, r⟩
  | _, _, _, .cons _ q, j + 1, hj => readsAll_at q j (Nat.lt_of_succ_lt_succ hj)
theorem okDs_at : ∀ (xs ys : List PyData), okDs xs ys = true → ∀ j, j < xs.length → j < ys.length → okD (xs.getD j .none) (ys.getD j .none) = true
  | [], _, _, _, h, _ => absurd h (Nat.not_lt_zero _)
  | _ :: _, [], _, _, _, h => absurd h (Nat.not_lt_zero _)
  | x :: xs, y :: ys, o, j, h1, h2 => by
    have go : okD x y = true ∧ okDs xs ys = true := by simpa [okDs] using o
    cases j with
    | zero => exact go.1
    | succ j => exact okDs_at xs ys go.2 j (Nat.lt_of_succ_lt_succ h1) (Nat.lt_of_succ_lt_succ h2)
theorem lay_at : ∀ (xs : List PyData), PyData.canLayAll0 xs = true → ∀ j, j < xs.length → (xs.getD j .none).canLay0 = true
  | [], _, _, h => absurd h (Nat.not_lt_zero _)
  | x :: xs, o, j, h => by
    have ga : x.canLay0 = true ∧ PyData.canLayAll0 xs = true := by simpa [PyData.canLayAll0] using o
    cases j with
    | zero => exact ga.1
    | succ j => exact lay_at xs ga.2 j (Nat.lt_of_succ_lt_succ h)
theorem dep_at : ∀ (xs : List PyData) (j : Nat), j < xs.length → (xs.getD j .none).depth ≤ PyData.depthAll xs
  | [], _, h => absurd h (Nat.not_lt_zero _)
  | x :: xs, j, h => by
    show _ ≤ max x.depth (PyData.depthAll xs)
    cases j with
    | zero => exact Nat.le_max_left _ _
    | succ j => exact Nat.le_trans (dep_at xs j (Nat.lt_of_succ_lt_succ h)) (Nat.le_max_right _ _)
theorem lt_reads : ∀ (n : Nat) (d e : PyData) (A : Around) (s : Shared) (a b : Value) (as bs : List Addr), d.depth ≤ n → Reads s.heap a d as → Reads s.heap b e bs → d.canLay0 = true → e.canLay0 = true → okD d e = true →
    A.units + n < cLine → LesAt A s a b (lesD d e) := by
  intro n
  induction n with
  | zero =>
    intro d e A s a b as bs hn ra rb ha hb ho hu
    cases ra with
    | int => cases rb with
      | int => exact LesAt.int _ _ _ _
      | _ => simp [okD] at ho
    | str => cases rb with
      | str => exact LesAt.str _ _ _ _
      | _ => simp [okD] at ho
    | tuple => exact absurd hn (by show ¬ (_ + 1 ≤ 0); omega)
    | _ => simp [okD] at ho
  | succ n ih =>
    intro d e A s a b as bs hn ra rb ha hb ho hu
    cases ra with
    | int => cases rb with
      | int => exact LesAt.int _ _ _ _
      | _ => simp [okD] at ho
    | str => cases rb with
      | str => exact LesAt.str _ _ _ _
      | _ => simp [okD] at ho
    | @tuple a o vs m xs _ h1 h2 h3 h4 =>
      cases rb with
      | @tuple b o2 ws m2 ys _ k1 k2 k3 k4 =>
        have l1 := reads_len h4
        have l2 := reads_len k4
        have e1 : vs.size = xs.length := by simpa using l1
        have e2 : ws.size = ys.length := by simpa using l2
        have ho : okDs xs ys = true := by simpa [okD] using ho
        have hn : PyData.depthAll xs ≤ n := Nat.le_of_succ_le_succ hn
        have q := LesAt.tuples (A := A) (s := s) (e := SeqAt.pairEq xs ys) (g := pairLes xs ys) ⟨o, h1, h2, m, h3⟩ ⟨o2, k1, k2, m2, k3⟩ (by omega) (fun j j1 j2 => ?_) (fun j j1 j2 _ => ?_)
        · rw [e1, e2, lexR_eq] at q
          have e3 : lesD (.tuple xs) (.tuple ys) = lesDs xs ys := by rw [lesD]
          rw [e3]
          exact q
        · have := SeqAt.eqAt_readsAll xs ys A.in1 s vs.toList ws.toList _ _ h4 k4 ha hb (by show A.units + 1 + _ < cLine; omega) j (by simpa using j1) (by simpa using j2)
          simpa using this
        · obtain ⟨as2, q1⟩ := readsAll_at h4 j (by simpa using j1)
          obtain ⟨bs2, q2⟩ := readsAll_at k4 j (by simpa using j2)
          have := ih _ _ A.in1 s _ _ as2 bs2 (Nat.le_trans (dep_at xs j (by omega)) hn) q1 q2 (lay_at xs ha j (by omega)) (lay_at ys hb j (by omega)) (okDs_at xs ys ho j (by omega) (by omega)) (by show A.units + 1 + n < cLine; omega)
          simpa [pairLes] using this
      | _ => simp [okD] at ho
    | _ => simp [okD] at ho
end L2
namespace L2
open PySem PySem.Spec PyProof.Rows
/-! ### the sort of fewer than 64 things by any total order: what it asks and what it comes to -/
section
open PySem.W
structure Ord (N : Nat) (lt : Nat → Nat → Bool) : Prop where
  tot : ∀ x y, x < N → y < N → lt x y = true → lt y x = false
  trn : ∀ x y z, x < N → y < N → z < N → lt y x = false → lt z y = false → lt z x = false
structure PmN (N : Nat) (p : Array Nat) : Prop where
  sz : p.size = N
  lo : ∀ i, i < N → p.getD i 0 < N
  pm : p.Perm (List.toArray (List.range N))
variable {N : Nat} {lt : Nat → Nat → Bool} {cmp : Nat → Nat → (Bool → Shared → Prop) → Shared → Prop} {s : Shared}
def Asc (lt : Nat → Nat → Bool) (p : Array Nat) (m : Nat) : Prop := ∀ i j, i ≤ j → j < m → lt (p.getD j 0) (p.getD i 0) = false
def Dsc (lt : Nat → Nat → Bool) (p : Array Nat) (m : Nat) : Prop := ∀ i j, i ≤ j → j < m → lt (p.getD i 0) (p.getD j 0) = false
def Eqs (lt : Nat → Nat → Bool) (p : Array Nat) (a b : Nat) : Prop := ∀ i j, a ≤ i → i < b → a ≤ j → j < b → lt (p.getD i 0) (p.getD j 0) = false
theorem Ord.refl (o : Ord N lt) {x : Nat} (h : x < N) : lt x x = false := by
  cases e : lt x x with
  | false => rfl
  | true => rw [← o.tot x x h h e, e]
theorem PmN.of {p q : Array Nat} (h : PmN N p) (hp : q.Perm p) (hz : q.size = p.size) : PmN N q := by
  have e := hp.trans h.pm
  refine ⟨hz.trans h.sz, fun i hi => ?_, e⟩
  have hq : i < q.size := by rw [hz, h.sz]; exact hi
  have m : q.getD i 0 ∈ q := by
    have : q.getD i 0 = q[i] := by simp [Array.getD, hq]
    rw [this]; exact Array.getElem_mem hq
  have m2 := e.mem_iff.mp m
  simpa using m2
theorem rev_at {p : Array Nat} {i j : Nat} (hj : j ≤ p.size) (k : Nat) : (kas_rev p i j).getD k 0 = if i ≤ k ∧ k < j then p.getD (i + j - 1 - k) 0 else p.getD k 0 := by
  unfold kas_rev
  rw [Array.getD_eq_getD_getElem?, getElem?_mirror_all hj k]
  split <;> rw [Array.getD_eq_getD_getElem?]
theorem PmN.rev {p : Array Nat} {i j : Nat} (h : PmN N p) : PmN N (kas_rev p i j) := h.of (mirror_perm ..) (mirror_size ..)
theorem bub_at {p : Array Nat} {k l : Nat} (hk : k < p.size) (hl : l ≤ k) (i : Nat) : (bubble p k (k - l)).getD i 0 = if i = l then p.getD k 0 else if l < i ∧ i ≤ k then p.getD (i - 1) 0 else p.getD i 0 := by
  rw [Array.getD_eq_getD_getElem?, getElem?_bubble hk _ (by omega)]
  have e : k - (k - l) = l := by omega
  rw [e]
  by_cases c1 : i = l
  · rw [if_pos c1, if_pos c1]; exact (Array.getD_eq_getD_getElem? ..).symm
  · rw [if_neg c1, if_neg c1]
    by_cases c2 : l < i ∧ i ≤ k
    · rw [if_pos c2, if_pos c2]; exact (Array.getD_eq_getD_getElem? ..).symm
    · rw [if_neg c2, if_neg c2]; exact (Array.getD_eq_getD_getElem? ..).symm
theorem PmN.bub {p : Array Nat} {i j : Nat} (h : PmN N p) : PmN N (bubble p i j) := h.of (bubble_perm ..) (bubble_size ..)
def Cmp (N : Nat) (lt : Nat → Nat → Bool) (cmp : Nat → Nat → (Bool → Shared → Prop) → Shared → Prop) (s : Shared) : Prop := ∀ i j C, i < N → j < N → C (lt i j) s → cmp i j C s
theorem asc_ok (hc : Cmp N lt cmp s) (o : Ord N lt) {p : Array Nat} (h : PmN N p) {Q : Nat → Shared → Prop} : ∀ (f n : Nat), 1 ≤ n → n + f ≤ N → Asc lt p n →
    (∀ m, n ≤ m → m ≤ n + f → Asc lt p m → (m = n + f ∨ lt (p.getD m 0) (p.getD (m - 1) 0) = true) → Q m s) → (kas_asc p f n).kasWp cmp Q s
  | 0, n, _, _, a, q => q n (Nat.le_refl _) (by omega) a (.inl rfl)
  | f + 1, n, h1, hf, a, q => by
    refine hc _ _ _ (h.lo n (by omega)) (h.lo _ (by omega)) ?_
    cases e : lt (p.getD n 0) (p.getD (n - 1) 0) with
    | true => exact q n (Nat.le_refl _) (by omega) a (.inr e)
    | false =>
      refine asc_ok hc o h f (n + 1) (by omega) (by omega) (fun i j hij hj => ?_) fun m m1 m2 m3 m4 => q m (by omega) (by omega) m3 (m4.imp (fun z => by omega) id)
      by_cases hjn : j < n
      · exact a i j hij hjn
      · obtain rfl : j = n := by omega
        by_cases hi : i = j
        · subst hi; exact o.refl (h.lo i (by omega))
        · exact o.trn _ (p.getD (j - 1) 0) _ (h.lo i (by omega)) (h.lo _ (by omega)) (h.lo j (by omega)) (a i (j - 1) (by omega) (by omega)) e
theorem Dsc.rev {p : Array Nat} {n r : Nat} (h : PmN N p) (hn : n ≤ N) (hr : r ≤ n) (d : Dsc lt p n) (e : Eqs lt p r n) : Dsc lt (kas_rev p r n) n := by
  intro i j hij hj
  rw [rev_at (by rw [h.sz]; exact hn), rev_at (by rw [h.sz]; exact hn)]
  by_cases c1 : r ≤ i
  · rw [if_pos ⟨c1, by omega⟩, if_pos ⟨by omega, hj⟩]
    exact e _ _ (by omega) (by omega) (by omega) (by omega)
  · rw [if_neg (by omega)]
    by_cases c2 : r ≤ j
    · rw [if_pos ⟨c2, hj⟩]
      exact d _ _ (by omega) (by omega)
    · rw [if_neg (by omega)]
      exact d _ _ hij hj
theorem desc_ok (hc : Cmp N lt cmp s) (o : Ord N lt) {Q : Array Nat × Nat × Nat → Shared → Prop} : ∀ (f : Nat) (p : Array Nat) (n q : Nat), PmN N p → q + 1 ≤ n → n + f ≤ N → Dsc lt p n → Eqs lt p (n - (q + 1)) n →
    (∀ p' n' q', PmN N p' → q' + 1 ≤ n' → n' ≤ n + f → Dsc lt p' n' → Eqs lt p' (n' - (q' + 1)) n' → Q (p', n', q') s) → (kas_desc f p n q).kasWp cmp Q s
  | 0, p, n, q, h, h1, hf, d, e, k => k p n q h h1 (by omega) d e
  | f + 1, p, n, q, h, h1, hf, d, e, k => by
    refine hc _ _ _ (h.lo n (by omega)) (h.lo _ (by omega)) ?_
    have more : ∀ p' : Array Nat, PmN N p' → Dsc lt p' n → lt (p'.getD (n - 1) 0) (p'.getD n 0) = false → Dsc lt p' (n + 1) := by
      intro p' h' d' z i j hij hj
      by_cases hjn : j < n
      · exact d' i j hij hjn
      · obtain rfl : j = n := by omega
        by_cases hi : i = j
        · subst hi; exact o.refl (h'.lo i (by omega))
        · exact o.trn _ (p'.getD (j - 1) 0) _ (h'.lo j (by omega)) (h'.lo _ (by omega)) (h'.lo i (by omega)) z (d' i (j - 1) (by omega) (by omega))
    have one : ∀ p' : Array Nat, PmN N p' → Eqs lt p' (n + 1 - (0 + 1)) (n + 1) := by
      intro p' h' i j a1 a2 a3 a4
      obtain rfl : i = n := by omega
      obtain rfl : j = i := by omega
      exact o.refl (h'.lo j (by omega))
    cases e1 : lt (p.getD n 0) (p.getD (n - 1) 0) with
    | true =>
      have z := o.tot _ _ (h.lo n (by omega)) (h.lo _ (by omega)) e1
      show (if q > 0 then kas_desc f (kas_rev p (n - (q + 1)) n) (n + 1) 0 else kas_desc f p (n + 1) 0).kasWp cmp Q s
      by_cases hq : q > 0
      · rw [if_pos hq]
        have dr := d.rev h (by omega) (by omega) e
        have z2 : lt ((kas_rev p (n - (q + 1)) n).getD (n - 1) 0) ((kas_rev p (n - (q + 1)) n).getD n 0) = false := by
          rw [rev_at (by rw [h.sz]; omega), rev_at (by rw [h.sz]; omega), if_pos (by omega), if_neg (by omega)]
          exact o.trn _ (p.getD (n - 1) 0) _ (h.lo n (by omega)) (h.lo _ (by omega)) (h.lo _ (by omega)) z (e _ _ (by omega) (by omega) (by omega) (by omega))
        exact desc_ok hc o f _ (n + 1) 0 h.rev (by omega) (by omega) (more _ h.rev dr z2) (one _ h.rev) fun p' n' q' a b c => k p' n' q' a b (by omega)
      · rw [if_neg hq]
        exact desc_ok hc o f p (n + 1) 0 h (by omega) (by omega) (more _ h d z) (one _ h) fun p' n' q' a b c => k p' n' q' a b (by omega)
    | false =>
      refine hc _ _ _ (h.lo _ (by omega)) (h.lo n (by omega)) ?_
      cases e2 : lt (p.getD (n - 1) 0) (p.getD n 0) with
      | true => exact k p n q h h1 (by omega) d e
      | false =>
        refine desc_ok hc o f p (n + 1) (q + 1) h (by omega) (by omega) (more _ h d e2) (fun i j a1 a2 a3 a4 => ?_) fun p' n' q' a b c => k p' n' q' a b (by omega)
        have fwd : ∀ i, n - (q + 1) ≤ i → i < n → lt (p.getD i 0) (p.getD n 0) = false ∧ lt (p.getD n 0) (p.getD i 0) = false := by
          intro i b1 b2
          exact ⟨o.trn _ (p.getD (n - 1) 0) _ (h.lo n (by omega)) (h.lo _ (by omega)) (h.lo i (by omega)) e2 (e _ _ b1 b2 (by omega) (by omega)),
            o.trn _ (p.getD (n - 1) 0) _ (h.lo i (by omega)) (h.lo _ (by omega)) (h.lo n (by omega)) (e _ _ (by omega) (by omega) b1 b2) e1⟩
        by_cases c1 : i < n
        · by_cases c2 : j < n
          · exact e i j (by omega) c1 (by omega) c2
          · obtain rfl : j = n := by omega
            exact (fwd i (by omega) c1).1
        · obtain rfl : i = n := by omega
          by_cases c2 : j < i
          · exact (fwd j (by omega) c2).2
          · obtain rfl : j = i := by omega
            exact o.refl (h.lo j (by omega))
theorem tail3_ok (hc : Cmp N lt cmp s) (o : Ord N lt) {p : Array Nat} {n : Nat} (h : PmN N p) (h1 : 1 ≤ n) (hn : n ≤ N) (d : Dsc lt p n) {Q : Nat × Array Nat → Shared → Prop} (q : ∀ m p', 1 ≤ m → m ≤ N → PmN N p' → Asc lt p' m → Q (m, p') s) : (kas_tail3 n N p).kasWp cmp Q s := by
  unfold kas_tail3
  rw [KasT.kasWp_bind]
  refine asc_ok hc o h.rev (N - n) n h1 (by omega) (fun i j hij hj => ?_) fun m a b c _ => q m _ (by omega) (by omega) h.rev c
  rw [rev_at (by rw [h.sz]; exact hn), rev_at (by rw [h.sz]; exact hn), if_pos ⟨Nat.zero_le _, hj⟩, if_pos ⟨Nat.zero_le _, by omega⟩]
  exact d _ _ (by omega) (by omega)
theorem descPart_ok (hc : Cmp N lt cmp s) (o : Ord N lt) {p : Array Nat} {n : Nat} (h : PmN N p) (h1 : 1 ≤ n) (hn : n < N) (e : Eqs lt p 0 n) (z : lt (p.getD n 0) (p.getD (n - 1) 0) = true) {Q : Nat × Array Nat → Shared → Prop} (q : ∀ m p', 1 ≤ m → m ≤ N → PmN N p' → Asc lt p' m → Q (m, p') s) : (kas_descPart n N p).kasWp cmp Q s := by
  unfold kas_descPart
  rw [KasT.kasWp_bind]
  have z' := o.tot _ _ (h.lo n hn) (h.lo _ (by omega)) z
  refine desc_ok hc o (N - (n + 1)) p (n + 1) 0 h (by omega) (by omega) (fun i j hij hj => ?_) (fun i j a1 a2 a3 a4 => ?_) fun p' n' q' g1 g2 g3 g4 g5 => ?_
  · by_cases hjn : j < n
    · exact e i j (by omega) (by omega) (by omega) hjn
    · obtain rfl : j = n := by omega
      by_cases hi : i = j
      · subst hi; exact o.refl (h.lo i (by omega))
      · exact o.trn _ (p.getD (j - 1) 0) _ (h.lo j (by omega)) (h.lo _ (by omega)) (h.lo i (by omega)) z' (e _ _ (by omega) (by omega) (by omega) (by omega))
  · obtain rfl : i = n := by omega
    obtain rfl : j = i := by omega
    exact o.refl (h.lo j (by omega))
  · show (if q' > 0 then kas_tail3 n' N (kas_rev p' (n' - (q' + 1)) n') else kas_tail3 n' N p').kasWp cmp Q s
    by_cases hq : q' > 0
    · rw [if_pos hq]
      exact tail3_ok hc o g1.rev (by omega) (by omega) (g4.rev g1 (by omega) (by omega) g5) q
    · rw [if_neg hq]
      exact tail3_ok hc o g1 (by omega) (by omega) g4 q
theorem count_ok (hc : Cmp N lt cmp s) (o : Ord N lt) {p : Array Nat} (h : PmN N p) (hN : 1 ≤ N) {Q : Nat × Array Nat → Shared → Prop} (q : ∀ m p', 1 ≤ m → m ≤ N → PmN N p' → Asc lt p' m → Q (m, p') s) : (kas_count N p).kasWp cmp Q s := by
  unfold kas_count
  rw [KasT.kasWp_bind]
  refine asc_ok hc o h (N - 1) 1 (Nat.le_refl _) (by omega) (fun i j hij hj => ?_) fun m a b c z => ?_
  · obtain rfl : j = 0 := by omega
    obtain rfl : i = 0 := by omega
    exact o.refl (h.lo 0 (by omega))
  · show (if (m == N) = true then KasT.ret (m, p) else if m > 1 then .ask (p.getD 0 0) (p.getD (m - 1) 0) fun c => if c = true then .ret (m, p) else kas_descPart m N (kas_rev p 0 m) else kas_descPart m N p).kasWp cmp Q s
    by_cases hm : m = N
    · rw [if_pos (by simp [hm])]
      exact q m p a (by omega) h c
    · rw [if_neg (by simp [hm])]
      have z' : lt (p.getD m 0) (p.getD (m - 1) 0) = true := z.resolve_left (by omega)
      by_cases h1 : m > 1
      · rw [if_pos h1]
        refine hc _ _ _ (h.lo 0 (by omega)) (h.lo _ (by omega)) ?_
        cases e : lt (p.getD 0 0) (p.getD (m - 1) 0) with
        | true => exact q m p a (by omega) h c
        | false =>
          have eq : Eqs lt p 0 m := by
            intro i j _ i2 _ j2
            exact o.trn _ (p.getD (m - 1) 0) _ (h.lo j (by omega)) (h.lo _ (by omega)) (h.lo i (by omega)) (c j (m - 1) (by omega) (by omega)) (o.trn _ (p.getD 0 0) _ (h.lo _ (by omega)) (h.lo 0 (by omega)) (h.lo i (by omega)) e (c 0 i (by omega) (by omega)))
          refine descPart_ok hc o h.rev (by omega) (by omega) (fun i j _ i2 _ j2 => ?_) ?_ q
          · rw [rev_at (by rw [h.sz]; omega), rev_at (by rw [h.sz]; omega), if_pos (by omega), if_pos (by omega)]
            exact eq _ _ (by omega) (by omega) (by omega) (by omega)
          · rw [rev_at (by rw [h.sz]; omega), rev_at (by rw [h.sz]; omega), if_neg (by omega), if_pos (by omega)]
            cases e3 : lt (p.getD m 0) (p.getD (0 + m - 1 - (m - 1)) 0) with
            | true => rfl
            | false =>
              have := o.trn _ (p.getD (0 + m - 1 - (m - 1)) 0) _ (h.lo _ (by omega)) (h.lo _ (by omega)) (h.lo m (by omega)) (eq (0 + m - 1 - (m - 1)) (m - 1) (by omega) (by omega) (by omega) (by omega)) e3
              rw [z'] at this; cases this
      · rw [if_neg h1]
        obtain rfl : m = 1 := by omega
        refine descPart_ok hc o h (by omega) (by omega) (fun i j _ i2 _ j2 => ?_) z' q
        obtain rfl : j = 0 := by omega
        obtain rfl : i = 0 := by omega
        exact o.refl (h.lo 0 (by omega))
theorem place_ok (hc : Cmp N lt cmp s) (o : Ord N lt) {p : Array Nat} {k : Nat} (h : PmN N p) (hk : k < N) (a : Asc lt p k) {Q : Nat → Shared → Prop} : ∀ (f l r : Nat), l ≤ r → r ≤ k → r - l ≤ f →
    (∀ i, i < l → lt (p.getD k 0) (p.getD i 0) = false) → (∀ i, r ≤ i → i < k → lt (p.getD i 0) (p.getD k 0) = false) →
    (∀ l, l ≤ k → (∀ i, i < l → lt (p.getD k 0) (p.getD i 0) = false) → (∀ i, l ≤ i → i < k → lt (p.getD i 0) (p.getD k 0) = false) → Q l s) → (kas_place p k f l r).kasWp cmp Q s
  | 0, l, r, h1, h2, h3, g1, g2, q => q l (by omega) g1 (fun i a b => g2 i (by omega) b)
  | f + 1, l, r, h1, h2, h3, g1, g2, q => by
    show (if l ≥ r then KasT.ret l else .ask (p.getD k 0) (p.getD ((l + r) / 2) 0) fun c => if c = true then kas_place p k f l ((l + r) / 2) else kas_place p k f ((l + r) / 2 + 1) r).kasWp cmp Q s
    by_cases hlr : l ≥ r
    · rw [if_pos hlr]
      exact q l (by omega) g1 (fun i a b => g2 i (by omega) b)
    · rw [if_neg hlr]
      refine hc _ _ _ (h.lo k hk) (h.lo _ (by omega)) ?_
      cases e : lt (p.getD k 0) (p.getD ((l + r) / 2) 0) with
      | true =>
        have e' := o.tot _ _ (h.lo k hk) (h.lo _ (by omega)) e
        refine place_ok hc o h hk a f l ((l + r) / 2) (by omega) (by omega) (by omega) g1 (fun i a1 a2 => ?_) q
        exact o.trn _ (p.getD ((l + r) / 2) 0) _ (h.lo k hk) (h.lo _ (by omega)) (h.lo i (by omega)) e' (a _ _ a1 a2)
      | false =>
        refine place_ok hc o h hk a f ((l + r) / 2 + 1) r (by omega) h2 (by omega) (fun i a1 => ?_) g2 q
        exact o.trn _ (p.getD ((l + r) / 2) 0) _ (h.lo i (by omega)) (h.lo _ (by omega)) (h.lo k hk) (a _ _ (by omega) (by omega)) e
theorem bin_ok (hc : Cmp N lt cmp s) (o : Ord N lt) {Q : Array Nat → Shared → Prop} : ∀ (f : Nat) (p : Array Nat) (k : Nat), PmN N p → k + f ≤ N → Asc lt p k →
    (∀ p', PmN N p' → Asc lt p' (k + f) → Q p' s) → (kas_bin f p k).kasWp cmp Q s
  | 0, p, k, h, _, a, q => q p h a
  | f + 1, p, k, h, hf, a, q => by
    show ((kas_place p k k 0 k).bind fun l => kas_bin f (bubble p k (k - l)) (k + 1)).kasWp cmp Q s
    rw [KasT.kasWp_bind]
    refine place_ok hc o h (by omega) a k 0 k (Nat.zero_le _) (Nat.le_refl _) (by omega) (fun i hi => absurd hi (Nat.not_lt_zero _)) (fun i a b => by omega) fun l hl g1 g2 => ?_
    refine bin_ok hc o f _ (k + 1) h.bub (by omega) (fun i j hij hj => ?_) fun p' h' a' => q p' h' (by rw [show k + (f + 1) = k + 1 + f by omega]; exact a')
    have b1 : (bubble p k (k - l)).getD l 0 = p.getD k 0 := by rw [bub_at (by rw [h.sz]; omega) hl, if_pos rfl]
    have b2 : ∀ i, l < i → i ≤ k → (bubble p k (k - l)).getD i 0 = p.getD (i - 1) 0 := fun i x y => by rw [bub_at (by rw [h.sz]; omega) hl, if_neg (by omega), if_pos ⟨x, y⟩]
    have b3 : ∀ i, i < l → (bubble p k (k - l)).getD i 0 = p.getD i 0 := fun i x => by rw [bub_at (by rw [h.sz]; omega) hl, if_neg (by omega), if_neg (by omega)]
    rcases Nat.lt_trichotomy i l with ci | ci | ci
    · rw [b3 i ci]
      rcases Nat.lt_trichotomy j l with cj | cj | cj
      · rw [b3 j cj]; exact a _ _ hij (by omega)
      · rw [cj, b1]; exact g1 i ci
      · rw [b2 j cj (by omega)]; exact a _ _ (by omega) (by omega)
    · rw [ci, b1]
      rcases Nat.lt_trichotomy j l with cj | cj | cj
      · omega
      · rw [cj, b1]; exact o.refl (h.lo k (by omega))
      · rw [b2 j cj (by omega)]; exact g2 _ (by omega) (by omega)
    · rw [b2 i ci (by omega), b2 j (by omega) (by omega)]
      exact a _ _ (by omega) (by omega)
theorem sort_ok (hc : Cmp N lt cmp s) (o : Ord N lt) (hN : 1 ≤ N) {Q : Array Nat → Shared → Prop} (q : ∀ p, PmN N p → Asc lt p N → Q p s) : (kas_sort N).kasWp cmp Q s := by
  unfold kas_sort
  rw [KasT.kasWp_bind]
  refine count_ok hc o ⟨by simp, fun i hi => by simp [Array.getD, hi], Array.Perm.refl _⟩ hN fun m p' h1 hm h a => ?_
  show (if m < N then kas_bin (N - max m 1) p' (max m 1) else KasT.ret p').kasWp cmp Q s
  have e : max m 1 = m := by omega
  rw [e]
  by_cases hlt : m < N
  · rw [if_pos hlt]
    exact bin_ok hc o _ _ _ h (by omega) a fun p'' h'' a'' => q p'' h'' (by rw [show m + (N - m) = N by omega] at a''; exact a'')
  · rw [if_neg hlt]
    obtain rfl : m = N := by omega
    exact q p' h a
end
end L2
namespace L2
open PySem PySem.Spec PyProof.Rows
/-! ### sorted(..) of fewer than 64 things -/
section
open PySem.W
variable {prog : Program} {w : World} {A : Around} {E : Value → Shared → Prop} {s : Shared}
def Grows (h h' : Heap) : Prop := ∀ (b : Addr) (o : Obj), h.get? b = some o → h'.get? b = some o
structure SortBy (prog : Program) (w : World) (A : Around) (h : Heap) (vs : List Value) (lt : Nat → Nat → Bool) (κ : SortKind) : Prop where
  ord : Ord vs.length lt
  kind : ∀ (s' : Shared) (E : Value → Shared → Prop) (Q : SortKind → Shared → Prop), Grows h s'.heap → 2 ≤ vs.length → Q κ s' → wpAny (model prog w) A (keyKind' vs.toArray) Q E s'
  cmp : ∀ (s' : Shared) (i j : Nat) (C : Bool → Shared → Prop), Grows h s'.heap → i < vs.length → j < vs.length → C (lt i j) s' → wpAny (model prog w) A (keyLt' κ (vs.getD i Value.none) (vs.getD j Value.none)) C (fun _ _ => False) s'
def pickV (vs : List Value) (p : Array Nat) : List Value := p.toList.map fun i => vs.getD i Value.none
theorem pickV_all (vs : List Value) : pickV vs (List.toArray (List.range vs.length)) = vs := by
  unfold pickV
  refine List.ext_getElem (by simp) fun i h1 h2 => ?_
  simp [h2]
theorem list_sort_by {h : Heap} {a : Addr} {vs : List Value} {n : Nat} {κ : SortKind} {lt : Nat → Nat → Bool} {P : PySem.Fin → Shared → Prop} (ho : s.heap.get? a = some (seqObj "list" vs.toArray n))
    (hg : ∀ (b : Addr) (o : Obj), h.get? b = some o → b ≠ a ∧ s.heap.get? b = some o) (S : SortBy prog w A h vs lt κ) (h64 : vs.length < 64)
    (q : ∀ p, PmN vs.length p → Asc lt p vs.length → P (.done (.ret .none)) { s with heap := sortedHeap s.heap a vs (pickV vs p).toArray }) : wpAny (model prog w) A (Builtin.«list.sort» ⟨[.ref a], []⟩) P E s := by
  rw [list_sort_plain]
  have ha : a < s.heap.objs.size := Heap.lt_size ho
  have hz : vs.toArray.size = vs.length := List.size_toArray ..
  refine wpAny_bind (listItems_at ho rfl (wpAny_bind (listUpdate_at ho rfl ?_ (by rw [hz, sizeLine_eq]; omega) (Nat.zero_le _))))
  obtain ⟨e1, ho1⟩ : ∃ e1, (s.heap.update a (Obj.mapSeq fun _ => #[])).get? a = some (seqObj "list" #[] e1) := ⟨_, get?_update_seq ho (fun _ => #[])⟩
  refine wpAny_bind (seqEpoch_at ho1 rfl (wpAny_bind (wpAny_newTuple ?_ (by show vs.length ≤ _; rw [sizeLine_eq]; omega))))
  refine wpAny_bind (wpAny_newList (wpAny_holding ?_) (Nat.zero_le _))
  have ho6 : (((s.heap.update a (Obj.mapSeq fun _ => #[])).push (seqObj "tuple" vs.toArray 0)).push (seqObj "list" #[] 0)).get? a = some (seqObj "list" #[] e1) := Heap.get?_push_of_some _ (Heap.get?_push_of_some _ ho1)
  have gr : Grows h (((s.heap.update a (Obj.mapSeq fun _ => #[])).push (seqObj "tuple" vs.toArray 0)).push (seqObj "list" #[] 0)) := fun b o e =>
    Heap.get?_push_of_some _ (Heap.get?_push_of_some _ (((Heap.SameBut.update s.heap a (Obj.mapSeq fun _ => (#[] : Array Value))).2 b (hg b o e).1).trans (hg b o e).2))
  show wpAny (model prog w) A _ P E { s with heap := ((s.heap.update a (Obj.mapSeq fun _ => #[])).push (seqObj "tuple" vs.toArray 0)).push (seqObj "list" #[] 0) }
  dsimp only
  by_cases h2 : vs.toArray.size < 2
  · rw [if_pos h2, if_pos h2]
    refine wpAny_bind (wpAny_pure ?_)
    rw [StateT.run_pure]
    refine wpAny_bind (wpAny_pure ?_)
    dsimp only
    refine wpAny_bind (seqEpoch_at ho6 rfl ?_)
    have hout : (arrOf (SortSt.mk' general' (vs.toArray.zip vs.toArray) #[] 7 none)).map (·.2) = vs.toArray := by
      show (pairsOf vs).map (·.2) = _
      apply Array.toList_inj.mp
      rw [Array.toList_map, pairsOf_toList, List.map_snd_zip (Nat.le_refl _)]
    rw [hout]
    refine wpAny_bind (listUpdate_at ho6 rfl ?_ (Nat.zero_le _) (by rw [hz, sizeLine_eq]; omega))
    simp only [bne_self_eq_false, Bool.false_eq_true, if_false]
    have := q (List.toArray (List.range vs.length)) ⟨by simp, fun i hi => by simp [Array.getD, hi], Array.Perm.refl _⟩ (fun i j hij hj => by
      obtain rfl : j = i := by omega
      exact S.ord.refl (by simp [Array.getD, hj]))
    rw [pickV_all] at this
    exact wpAny_pure this
  · rw [if_neg h2, if_neg h2]
    have hl2 : 2 ≤ vs.length := by omega
    refine wpAny_bind (S.kind _ E _ gr hl2 ?_)
    have est : SortSt.mk' κ (vs.toArray.zip vs.toArray) #[] 7 none = kas_st κ (pairsOf vs) (List.toArray (List.range vs.length)) := by
      have e := kas_range (pairsOf vs)
      rw [pairsOf_size] at e
      show SortSt.mk' κ (pairsOf vs) #[] 7 none = SortSt.mk' κ _ #[] 7 none
      rw [e]
    have run := kas_runs (prog := prog) (w := w) (A := A) (E := E) (κ := κ) (it := pairsOf vs) (s := { s with heap := ((s.heap.update a (Obj.mapSeq fun _ => #[])).push (seqObj "tuple" vs.toArray 0)).push (seqObj "list" #[] 0) })
      (Q := fun _ st' s' => s' = { s with heap := ((s.heap.update a (Obj.mapSeq fun _ => #[])).push (seqObj "tuple" vs.toArray 0)).push (seqObj "list" #[] 0) } ∧ ∃ p, PmN vs.length p ∧ Asc lt p vs.length ∧ arrOf st' = p.map (kas_item (pairsOf vs)) ∧ failedOf st' = none)
      (G := fun p s' => s' = { s with heap := ((s.heap.update a (Obj.mapSeq fun _ => #[])).push (seqObj "tuple" vs.toArray 0)).push (seqObj "list" #[] 0) } ∧ PmN vs.length p ∧ Asc lt p vs.length)
      hl2 h64 (fun p' st' s' _ a2 a3 a4 => ⟨a4.1, p', a4.2.1, a4.2.2, a2, a3⟩) (sort_ok (fun i j C hi hj hC => by
        rw [← kas_ask_eq]
        exact S.cmp _ i j C gr hi hj hC) S.ord (by omega) fun p hp ap => ⟨rfl, hp, ap⟩)
    rw [← est] at run
    refine wpAny_bind (wpAny_mono run ?_ fun _ _ e => e)
    rintro ⟨⟨⟩, st'⟩ s' ⟨rfl, p, hp, ap, har, hf⟩
    dsimp only
    have hout : (arrOf st').map (·.2) = (pickV vs p).toArray := by
      apply Array.toList_inj.mp
      rw [har, Array.map_map, Array.toList_map]
      exact List.map_congr_left fun i _ => by show (kas_item (pairsOf vs) i).2 = _; rw [kas_item_eq]
    have hsz : (pickV vs p).toArray.size = vs.length := by unfold pickV; rw [List.size_toArray, List.length_map, Array.length_toList, hp.sz]
    rw [hout]
    refine wpAny_bind (seqEpoch_at ho6 rfl ?_)
    refine wpAny_bind (listUpdate_at ho6 rfl ?_ (Nat.zero_le _) (Nat.le_trans (Nat.le_of_eq hsz) (by rw [sizeLine_eq]; omega)))
    rw [hf]
    simp only [bne_self_eq_false, Bool.false_eq_true, if_false]
    exact wpAny_pure (q p hp ap)
/-! sorted of what `collect` makes a list of -/
theorem sorted_by {x : Value} {vs : List Value} {κ : SortKind} {lt : Nat → Nat → Bool} {Q : Value → Shared → Prop} (h64 : vs.length < 64)
    (col : ∀ R : List Value → Shared → Prop, (∀ (h' : Heap) (tk : Tok), Grows s.heap h' → s.heap.objs.size ≤ h'.objs.size → R vs { s with heap := h', toks := tk }) → wpAny (model prog w) A.in1 (collect x) R E s)
    (S : SortBy prog w A.in1.in1 s.heap vs lt κ)
    (q : ∀ (p : Array Nat) (h' : Heap) (tk : Tok) (e : Nat) (l : Addr), PmN vs.length p → Asc lt p vs.length → Grows s.heap h' → s.heap.objs.size ≤ l → h'.get? l = some (seqObj "list" (pickV vs p).toArray e) → Q (.ref l) { s with heap := h', toks := tk }) :
    wpAny (model prog w) A (call (.builtin "sorted") [x]) Q E s := by
  refine Calls.call_function_entry kind_sorted plain_sorted entry_sorted (args_sorted1 _) ?_
  unfold Builtin.«sorted»
  refine wpAny_bind (m := checkCount "sorted" 1 1 _) (wpAny_pure ?_)
  refine wpAny_bind (col _ fun h' tk g hz => ?_)
  refine wpAny_bind (wpAny_newList ?_ (by rw [sizeLine_eq]; omega))
  have hoL : (h'.push (seqObj "list" vs.toArray 0)).get? h'.objs.size = some (seqObj "list" vs.toArray 0) := Heap.get?_push_size _ rfl
  show wpAny _ _ _ _ _ { s with heap := h'.push (seqObj "list" vs.toArray 0), toks := tk }
  refine wpAny_bind (wpAny_holding (wpAny_call_entry slot_list_sort ⟨_, hoL, rfl⟩ entry_list_sort (list_sort_by (h := s.heap) hoL (fun b o e => ⟨fun z => absurd (Heap.lt_size e) (by rw [z]; exact Nat.not_lt.mpr hz), Heap.get?_push_of_some _ (g b o e)⟩) S h64 fun p hp ap => ⟨_, rfl, ?_⟩) (args_list_sort _)))
  obtain ⟨e, he⟩ : ∃ e, (sortedHeap (h'.push (seqObj "list" vs.toArray 0)) h'.objs.size vs (pickV vs p).toArray).get? h'.objs.size = some (seqObj "list" (pickV vs p).toArray e) := by
    unfold sortedHeap
    obtain ⟨e1, z1⟩ : ∃ e1, ((h'.push (seqObj "list" vs.toArray 0)).update h'.objs.size (Obj.mapSeq fun _ => #[])).get? h'.objs.size = some (seqObj "list" #[] e1) := ⟨_, get?_update_seq hoL (fun _ => #[])⟩
    exact ⟨_, get?_update_seq (Heap.get?_push_of_some _ (Heap.get?_push_of_some _ z1)) _⟩
  refine wpAny_pure ⟨_, rfl, q p _ tk e _ hp ap (fun b o z => ?_) hz he⟩
  have nb : b ≠ h'.objs.size := fun y => absurd (Heap.lt_size z) (by rw [y]; exact Nat.not_lt.mpr hz)
  unfold sortedHeap
  rw [(Heap.SameBut.update _ h'.objs.size (Obj.mapSeq fun _ => (pickV vs p).toArray)).2 b nb]
  refine Heap.get?_push_of_some _ (Heap.get?_push_of_some _ ?_)
  rw [(Heap.SameBut.update _ h'.objs.size (Obj.mapSeq fun _ => (#[] : Array Value))).2 b nb]
  exact Heap.get?_push_of_some _ (g b o z)
end
end L2
namespace L2
open PySem PySem.Spec PyProof.Rows
/-! ### sorted(..) of a list or tuple of numbers, of texts, or of tuples that begin with a number -/
section
open PySem.W
variable {prog : Program} {w : World} {A : Around} {E : Value → Shared → Prop} {s : Shared}
theorem collect_seq {T : String} {l : Addr} {o : Obj} {vs : List Value} {n : Nat} {Q : List Value → Shared → Prop} (ho : s.heap.get? l = some o) (hc : o.cls = .type T) (hT : T = "list" ∨ T = "tuple") (hd : o.data = .seq vs.toArray n) (hz : vs.length ≤ sizeLine)
    (q : Q vs { s with heap := (s.heap.push (seqObj "list" #[] 0)).update s.heap.objs.size (Obj.mapSeq (· ++ vs.toArray)) }) : wpAny (model prog w) A (collect (.ref l)) Q E s := by
  unfold collect
  refine wpAny_bind (wpAny_runValue (codeAny_builtin entry_proto_collect' ?_))
  show wpAny _ _ (do again (.builtin "list.__iadd__" ⟨[← newList [], .ref l], []⟩)) _ _ s
  refine wpAny_bind (wpAny_newList (wpAny_pure ⟨Code.quiet_builtin _ (by decide +kernel), codeAny_builtin entry_list_iadd' ?_⟩))
  show wpAny _ _ (Builtin.List.listExtendWith (.ref s.heap.objs.size) (.ref l) (.ref s.heap.objs.size)) _ _ { s with heap := s.heap.push (seqObj "list" #[] 0) }
  unfold Builtin.List.listExtendWith
  have hp : (s.heap.push (seqObj "list" #[] 0)).get? l = some o := Heap.get?_push_of_some _ ho
  have hn : (s.heap.push (seqObj "list" #[] 0)).get? s.heap.objs.size = some (seqObj "list" #[] 0) := Heap.get?_push_size _ rfl
  refine wpAny_bind (wpAny_typeOf (T := T) ⟨o, hp, hc⟩ ?_)
  rw [if_pos (by rcases hT with rfl | rfl <;> simp [show (Value.type "list" == Value.type "list") = true from rfl, show (Value.type "tuple" == Value.type "tuple") = true from rfl])]
  refine wpAny_bind (listItems_at hp hd (wpAny_bind (listItems_at hn rfl ?_)))
  rw [if_neg (by simp)]
  refine wpAny_bind (listUpdate_at hn rfl ?_ (Nat.zero_le _) (by show (#[] ++ vs.toArray).size ≤ sizeLine + 1; rw [Array.size_append, List.size_toArray]; simp; omega))
  refine wpAny_pure ?_
  show wpAny (model prog w) A (do
      let o ← load s.heap.objs.size
      match o.data with
      | .seq xs _ => pure xs.toList
      | _ => unsupported "internal:collect") Q E { s with heap := (s.heap.push (seqObj "list" #[] 0)).update s.heap.objs.size (Obj.mapSeq (· ++ vs.toArray)) }
  refine wpAny_bind (wpAny_load (get?_update_seq hn _) ?_)
  show wpAny _ _ (pure ((#[] : Array Value) ++ vs.toArray).toList) Q E _
  rw [show ((#[] : Array Value) ++ vs.toArray).toList = vs by simp]
  exact wpAny_pure q
end
inductive KindD (ds : List PyData) : Prop where
  | ints (h : ∀ d ∈ ds, ∃ i, d = .int i)
  | strs (h : ∀ d ∈ ds, ∃ x, d = .str x)
  | rows (h : ∀ d ∈ ds, ∃ i r, d = .tuple (.int i :: r))
structure OrdD (ds : List PyData) : Prop where
  kd : KindD ds
  ok : ∀ d ∈ ds, ∀ e ∈ ds, okD d e = true
  tot : ∀ d ∈ ds, ∀ e ∈ ds, lesD d e = true → lesD e d = false
  trn : ∀ d ∈ ds, ∀ e ∈ ds, ∀ f ∈ ds, lesD e d = false → lesD f e = false → lesD f d = false
theorem getD_mem {α : Type} {l : List α} {i : Nat} {z : α} (h : i < l.length) : l.getD i z ∈ l := by
  rw [List.getD_eq_getElem?_getD, List.getElem?_eq_getElem h]; exact List.getElem_mem h
section
open PySem.W
variable {prog : Program} {w : World} {A : Around}
theorem katLex_rows {s : Shared} {C : Bool → Shared → Prop} {xs ys : List PyData} {z : Bool} : ∀ (us vs : List Value) (i j : Nat) (hl : us.length + j = xs.length) (hm : vs.length + j = ys.length) (hij : j = i)
    (_ : ∀ (k : Nat) (h1 : k < us.length) (h2 : k < vs.length), SeqAt.EqAt A s us[k] vs[k] (SeqAt.pairEq xs ys (k + j)))
    (_ : ∀ (k : Nat) (h1 : k < us.length) (h2 : k < vs.length), SeqAt.pairEq xs ys (k + j) = false → ∀ Q : Bool → Shared → Prop, Q (pairLes xs ys (k + j)) s → wpAny (model prog w) A (oneLt' (true && (k + j == 0)) us[k] vs[k]) Q (fun _ _ => False) s)
    (_ : C (lexR (SeqAt.pairEq xs ys) (pairLes xs ys) z ((List.range (min us.length vs.length)).map (· + j))) s), KatLex prog w A true z C (us.zip vs) i s
  | [], vs, i, j, hl, hm, hij, he, hg, q => by simpa [lexR, KatLex] using q
  | _ :: _, [], i, j, hl, hm, hij, he, hg, q => by simpa [lexR, KatLex] using q
  | u :: us, v :: vs, i, j, hl, hm, hij, he, hg, q => by
    subst hij
    rw [List.zip_cons_cons]
    refine kat_cons (he 0 (Nat.zero_lt_succ _) (Nat.zero_lt_succ _) prog w _ _ ?_)
    have e : min (u :: us).length (v :: vs).length = min us.length vs.length + 1 := by simp only [List.length_cons]; omega
    rw [e, List.range_succ_eq_map, List.map_cons, lexR] at q
    refine kat_go (fun c => kat_yes ?_) (fun c => kat_no ?_)
    · rw [if_pos c] at q
      refine katLex_rows (xs := xs) (ys := ys) us vs (j + 1) (j + 1) (by simp at hl; omega) (by simp at hm; omega) rfl (fun k h1 h2 => ?_) (fun k h1 h2 c2 Q hQ => ?_) ?_
      · have := he (k + 1) (Nat.succ_lt_succ h1) (Nat.succ_lt_succ h2)
        rw [show k + 1 + j = k + (j + 1) by omega] at this
        exact this
      · have := hg (k + 1) (Nat.succ_lt_succ h1) (Nat.succ_lt_succ h2)
        rw [show k + 1 + j = k + (j + 1) by omega] at this
        exact this c2 Q hQ
      · rw [List.map_map] at q
        have e2 : ((fun x => x + j) ∘ Nat.succ) = fun x => x + (j + 1) := by funext x; show x + 1 + j = x + (j + 1); omega
        rw [e2] at q
        exact q
    · rw [if_neg (by rw [c]; decide)] at q
      have := hg 0 (Nat.zero_lt_succ _) (Nat.zero_lt_succ _) c C q
      rw [Nat.zero_add] at this
      exact this
theorem oneLt_at {s : Shared} {p q : Value} {b : Bool} {Q : Bool → Shared → Prop} {E : Value → Shared → Prop} (h : LesAt A s p q b) (k : Q b s) : wpAny (model prog w) A (oneLt' false p q) Q E s := by
  rw [oneLt'_eq]
  simp only [Bool.false_eq_true, if_false]
  exact wpAny_bind (h prog w _ _ (wpAny_truthy_bool k))
theorem sortBy_data {h : Heap} {vs : List Value} {ds : List PyData} (hl : vs.length = ds.length) (hr : ∀ (j : Nat) (hj : j < vs.length), ∃ as, Reads h vs[j] (ds.getD j .none) as) (hy : ∀ d ∈ ds, d.canLay0 = true) (hp : ∀ d ∈ ds, d.depth ≤ 8) (O : OrdD ds)
    (hu : A.units + 12 < cLine) : ∃ κ, SortBy prog w A h vs (fun i j => lesD (ds.getD i .none) (ds.getD j .none)) κ := by
  have ord : Ord vs.length (fun i j => lesD (ds.getD i .none) (ds.getD j .none)) := ⟨fun x y hx hy' => O.tot _ (getD_mem (by omega)) _ (getD_mem (by omega)), fun x y z hx hy' hz => O.trn _ (getD_mem (by omega)) _ (getD_mem (by omega)) _ (getD_mem (by omega))⟩
  have gv : ∀ (i : Nat) (hi : i < vs.length), vs.getD i Value.none = vs[i] := fun i hi => by simp [hi]
  rcases O.kd with hk | hk | hk
  · refine ⟨oneType', ord, fun s' E Q g h2 q => kas_kind (T := Value.type "int") h2 (fun v hv => ?_) (by decide) (by decide) q, fun s' i j C g hi hj q => ?_⟩
    · obtain ⟨j, hj, rfl⟩ := List.getElem_of_mem hv
      obtain ⟨as, r⟩ := hr j hj
      obtain ⟨k, e⟩ := hk _ (getD_mem (i := j) (z := .none) (by omega))
      rw [e] at r
      cases r1 : vs[j] <;> rw [r1] at r <;> cases r
      exact Looks.of_pure rfl
    · rw [gv i hi, gv j hj]
      obtain ⟨as, r⟩ := hr i hi
      obtain ⟨bs, t⟩ := hr j hj
      obtain ⟨k, e⟩ := hk _ (getD_mem (i := i) (z := .none) (by omega))
      obtain ⟨m, f⟩ := hk _ (getD_mem (i := j) (z := .none) (by omega))
      rw [e] at r
      rw [f] at t
      simp only [e, f, lesD] at q
      generalize vs[i] = u1 at r ⊢
      generalize vs[j] = u2 at t ⊢
      cases r
      cases t
      exact kat_lt_int q
  · refine ⟨oneType', ord, fun s' E Q g h2 q => kas_kind (T := Value.type "str") h2 (fun v hv => ?_) (by decide) (by decide) q, fun s' i j C g hi hj q => ?_⟩
    · obtain ⟨j, hj, rfl⟩ := List.getElem_of_mem hv
      obtain ⟨as, r⟩ := hr j hj
      obtain ⟨k, e⟩ := hk _ (getD_mem (i := j) (z := .none) (by omega))
      rw [e] at r
      cases r1 : vs[j] <;> rw [r1] at r <;> cases r
      exact Looks.of_pure rfl
    · rw [gv i hi, gv j hj]
      obtain ⟨as, r⟩ := hr i hi
      obtain ⟨bs, t⟩ := hr j hj
      obtain ⟨k, e⟩ := hk _ (getD_mem (i := i) (z := .none) (by omega))
      obtain ⟨m, f⟩ := hk _ (getD_mem (i := j) (z := .none) (by omega))
      rw [e] at r
      rw [f] at t
      simp only [e, f, lesD] at q
      generalize vs[i] = u1 at r ⊢
      generalize vs[j] = u2 at t ⊢
      cases r
      cases t
      exact kas_lt_str q
  · have tup : ∀ (j : Nat) (hj : j < vs.length), ∃ (a : Addr) (o : Obj) (xs : Array Value) (n : Nat) (k : Int) (t : Tok) (r : List PyData) (as : List Addr), vs[j] = .ref a ∧ h.get? a = some o ∧ o.cls = .type "tuple" ∧ o.data = .seq xs n ∧ ds.getD j .none = .tuple (.int k :: r) ∧ ReadsAll h xs.toList (.int k :: r) as ∧ xs[0]? = some (.int k t) := by
      intro j hj
      obtain ⟨as, r⟩ := hr j hj
      obtain ⟨k, rr, e⟩ := hk _ (getD_mem (i := j) (z := .none) (by omega))
      rw [e] at r
      generalize hv : vs[j] = u1 at r
      cases r with
      | @tuple a o xs n _ _ h1 h2 h3 h4 =>
        have h0 : ∃ t, xs[0]? = some (.int k t) := by
          generalize hx : xs.toList = l at h4
          cases h4 with
          | cons r1 r2 =>
            cases r1 with
            | int _ t => exact ⟨t, by rw [← Array.getElem?_toList, hx]; rfl⟩
        obtain ⟨t, ht⟩ := h0
        exact ⟨a, o, xs, n, k, t, rr, _, rfl, h1, h2, h3, e, h4, ht⟩
    have firsts : ∀ (l : List Value) (_ : ∀ v ∈ l, ∃ (a : Addr) (o : Obj) (xs : Array Value) (n : Nat) (k : Int) (t : Tok), v = .ref a ∧ h.get? a = some o ∧ o.cls = .type "tuple" ∧ o.data = .seq xs n ∧ xs[0]? = some (.int k t)) (h' : Heap), Grows h h' → ∃ fs, KatTups h' l fs ∧ fs.length = l.length ∧ ∀ f ∈ fs, ∃ k t, f = Value.int k t := by
      intro l
      induction l with
      | nil => intro _ h' _; exact ⟨[], trivial, rfl, fun f hf => absurd hf (by simp)⟩
      | cons v l ih =>
        intro hv h' g
        obtain ⟨fs, k1, k2, k3⟩ := ih (fun v hv' => hv v (List.mem_cons_of_mem _ hv')) h' g
        obtain ⟨a, o, xs, n, k, t, rfl, h1, h2, h3, h4⟩ := hv v List.mem_cons_self
        exact ⟨.int k t :: fs, .cons (g a o h1) h2 h3 h4 k1, by simp [k2], fun f hf => (List.mem_cons.mp hf).elim (fun e => ⟨k, t, e⟩) (k3 f)⟩
    refine ⟨tuples' (Value.type "int" != Value.type "tuple"), ord, fun s' E Q g h2 q => ?_, fun s' i j C g hi hj q => ?_⟩
    · obtain ⟨fs, k1, k2, k3⟩ := firsts vs (fun v hv => by
        obtain ⟨j, hj, rfl⟩ := List.getElem_of_mem hv
        obtain ⟨a, o, xs, n, k, t, r, as, e1, e2, e3, e4, e5, e6, e7⟩ := tup j hj
        exact ⟨a, o, xs, n, k, t, e1, e2, e3, e4, e7⟩) s'.heap g
      exact kat_kind (T := Value.type "int") k1 (by omega) (fun v hv => by
        obtain ⟨k, t, rfl⟩ := k3 v hv
        exact Looks.of_pure rfl) (by decide) q
    · rw [gv i hi, gv j hj]
      obtain ⟨a, o, xs, n, k, t, r, as, e1, e2, e3, e4, e5, e6, e7⟩ := tup i hi
      obtain ⟨a', o', xs', n', k', t', r', as', f1, f2, f3, f4, f5, f6, f7⟩ := tup j hj
      have mi := getD_mem (l := ds) (i := i) (z := .none) (by omega)
      have mj := getD_mem (l := ds) (i := j) (z := .none) (by omega)
      have di := hp _ mi
      have dj := hp _ mj
      have yi := hy _ mi
      have yj := hy _ mj
      have ho := O.ok _ mi _ mj
      rw [e5] at di yi
      rw [f5] at dj yj
      rw [e5, f5] at ho
      simp only [e5, f5] at q
      have di : PyData.depthAll (.int k :: r) ≤ 7 := Nat.le_of_succ_le_succ di
      have dj : PyData.depthAll (.int k' :: r') ≤ 7 := Nat.le_of_succ_le_succ dj
      have yi : PyData.canLayAll0 (.int k :: r) = true := yi
      have yj : PyData.canLayAll0 (.int k' :: r') = true := yj
      have ho : okDs (.int k :: r) (.int k' :: r') = true := by simpa [okD] using ho
      rw [e1, f1]
      have g6 := ReadsAll.keeps g e6
      have g6' := ReadsAll.keeps g f6
      have l1 := reads_len e6
      have l2 := reads_len f6
      refine kat_lt (g a o e2) e4 (g a' o' f2) f4 ?_
      have sz : decide (xs.size < xs'.size) = decide ((PyData.int k :: r).length < (PyData.int k' :: r').length) := by rw [← l1, ← l2]; simp
      rw [sz]
      refine katLex_rows (xs := .int k :: r) (ys := .int k' :: r') xs.toList xs'.toList 0 0 (by omega) (by omega) rfl (fun m h1 h2 => ?_) (fun m h1 h2 c Q hQ => ?_) ?_
      · exact SeqAt.eqAt_readsAll _ _ A s' xs.toList xs'.toList _ _ g6 g6' yi yj (by omega) m h1 h2
      · by_cases hm : m = 0
        · subst hm
          have z1 : xs.toList[0] = .int k t := by
            have : xs.toList[0]? = some (.int k t) := by rw [Array.getElem?_toList]; exact e7
            rw [List.getElem?_eq_getElem h1] at this
            exact Option.some.inj this
          have z2 : xs'.toList[0] = .int k' t' := by
            have : xs'.toList[0]? = some (.int k' t') := by rw [Array.getElem?_toList]; exact f7
            rw [List.getElem?_eq_getElem h2] at this
            exact Option.some.inj this
          rw [z1, z2]
          exact oneLt_int (by simpa [pairLes, lesD] using hQ)
        · have eb : (true && (m + 0 == 0)) = false := by simp [hm]
          rw [eb]
          obtain ⟨as2, q1⟩ := readsAll_at g6 m h1
          obtain ⟨bs2, q2⟩ := readsAll_at g6' m h2
          exact oneLt_at (lt_reads 7 _ _ A s' _ _ as2 bs2 (Nat.le_trans (dep_at _ m (by omega)) di) q1 q2 (lay_at _ yi m (by omega)) (lay_at _ yj m (by omega)) (okDs_at _ _ ho m (by omega) (by omega)) (by omega)) hQ
      · have e0 : ((List.range (min xs.toList.length xs'.toList.length)).map (· + 0)) = List.range (min (PyData.int k :: r).length (PyData.int k' :: r').length) := by rw [l1, l2]; simp
        rw [e0, lexR_eq]
        simpa [lesD] using q
end
section
variable {α : Type}
theorem pick_sorted {n : Nat} {p : Array Nat} {lt : Nat → Nat → Bool} (h : PmN n p) (a : Asc lt p n) (l : List α) (hl : l.length = n) (z : α) (R : α → α → Prop) (hR : ∀ i j, i < n → j < n → lt j i = false → R (l.getD i z) (l.getD j z)) :
    (p.toList.map fun i => l.getD i z).Perm l ∧ (p.toList.map fun i => l.getD i z).Pairwise R := by
  constructor
  · have e : (List.range n).map (fun i => l.getD i z) = l := by
      refine List.ext_getElem (by simp [hl]) fun i h1 h2 => ?_
      simp [h2]
    have := (Array.perm_iff_toList_perm.mp h.pm).map (fun i => l.getD i z)
    rw [show (List.toArray (List.range n)).toList = List.range n from rfl, e] at this
    exact this
  · rw [List.pairwise_map, List.pairwise_iff_getElem]
    intro i j hi hj hij
    have hz : p.toList.length = n := by rw [Array.length_toList, h.sz]
    have gi : p.toList[i] = p.getD i 0 := by simp [Array.getD, show i < p.size by rw [h.sz]; omega]
    have gj : p.toList[j] = p.getD j 0 := by simp [Array.getD, show j < p.size by rw [h.sz]; omega]
    rw [gi, gj]
    exact hR _ _ (h.lo i (by omega)) (h.lo j (by omega)) (a i j (by omega) (by omega))
end
def rSrt (K : PySem.W.Frag) : List V → Hp → VK → Prop := fun xs H Q => ∃ (b : Bool) (p : Addr) (zs : List (V × PyData)), xs = [.ref p] ∧ SqB b K H p (zs.map (·.1)) ∧ zs.length < 64 ∧ (∀ z ∈ zs, IsDat K H 8 z.1 z.2) ∧ OrdD (zs.map (·.2)) ∧
  ∀ (ys : List (V × PyData)) (q : Addr), ys.Perm zs → ys.Pairwise (fun x y => lesD y.2 x.2 = false) → H q = none → Q (.ref q) (upd H q (.lst (ys.map (·.1))))
theorem Vals.pick {xs : List V} {us : List Value} (r : Vals xs us) : ∀ (l : List Nat), (∀ i ∈ l, i < xs.length) → Vals (l.map fun i => xs.getD i .non) (l.map fun i => us.getD i Value.none)
  | [], _ => .nil
  | i :: l, h => by
    have hi := h i List.mem_cons_self
    obtain ⟨u, h1, h2⟩ := r.get (List.getElem?_eq_getElem hi)
    refine .cons ?_ (Vals.pick r l fun j hj => h j (List.mem_cons_of_mem _ hj))
    have e1 : xs.getD i .non = xs[i] := by simp [hi]
    have e2 : us.getD i Value.none = u := by rw [List.getD_eq_getElem?_getD, h1]; rfl
    show RelV (xs.getD i .non) (us.getD i Value.none)
    rw [e1, e2]
    exact h2
theorem call_sorted {X : Cx} (K : PySem.W.Frag) (hu : X.A.units + 16 < cLine) (hK : X.K = K := by rfl) : CallR X (.builtin "sorted") (rSrt K) := by
  subst hK
  intro pins s σ H xs us Q I r h
  obtain ⟨b, p, zs, rfl, hq, h64, hd, O, q⟩ := h
  obtain ⟨u, rfl, rx⟩ := vals1 r
  cases rx
  obtain ⟨T, o, its, n, hT, ho, hc, hdat, r1⟩ : ∃ (T : String) (o : Obj) (its : List Value) (n : Nat), (T = "list" ∨ T = "tuple") ∧ s.heap.get? p = some o ∧ o.cls = .type T ∧ o.data = .seq its.toArray n ∧ Vals (zs.map (·.1)) its := by
    rcases hq.or with hq | hq
    · obtain ⟨its, r1, ⟨o, n, ho, hc, _, hd⟩, _⟩ := I.list hq
      exact ⟨"list", o, its, n, .inl rfl, ho, hc, hd, r1⟩
    · obtain ⟨its, r1, ⟨o, ho, hc, n, hd⟩, _⟩ := I.tuple hq
      exact ⟨"tuple", o, its, n, .inr rfl, ho, hc, hd, r1⟩
  have hlen : its.length = zs.length := by rw [← r1.length, List.length_map]
  obtain ⟨κ, S⟩ := sortBy_data (prog := X.prog) (w := X.w) (A := X.A.in1.in1) (h := s.heap) (vs := its) (ds := zs.map (·.2)) (by rw [hlen, List.length_map]) (fun j hj => by
      obtain ⟨x, h1, h2⟩ := r1.back (List.getElem?_eq_getElem hj)
      have hz : j < zs.length := by omega
      have e1 : x = zs[j].1 := by simpa [hz] using h1.symm
      have e2 : (zs.map (·.2)).getD j .none = zs[j].2 := by simp [hz]
      rw [e2]
      exact (e1 ▸ hd _ (List.getElem_mem hz)).reads I h2)
    (fun d hd' => by obtain ⟨z, hz, rfl⟩ := List.mem_map.mp hd'; exact (hd z hz).lay) (fun d hd' => by obtain ⟨z, hz, rfl⟩ := List.mem_map.mp hd'; exact (hd z hz).dep) O (by show X.A.units + 1 + 1 + 12 < cLine; omega)
  refine sorted_by (by omega) (fun R k => collect_seq ho hc hT hdat (by rw [sizeLine_eq]; omega) (k _ s.toks (fun b o e => ?_) ?_)) S fun pm h' tk e l hp ap g hz hl => ?_
  · have nb : b ≠ s.heap.objs.size := fun y => absurd (Heap.lt_size e) (by rw [y]; exact Nat.lt_irrefl _)
    rw [(Heap.SameBut.update _ s.heap.objs.size (Obj.mapSeq (· ++ its.toArray))).2 b nb]
    exact Heap.get?_push_of_some _ e
  · rw [Heap.size_update, size_push']; exact Nat.le_succ _
  · obtain ⟨z1, z2⟩ := pick_sorted hp ap zs hlen.symm (V.non, PyData.none) (fun x y => lesD y.2 x.2 = false) (fun i j hi hj h0 => by
      have hi' : i < zs.length := by omega
      have hj' : j < zs.length := by omega
      simpa [hi', hj'] using h0)
    have ev : (pm.toList.map fun i => (zs.map (·.1)).getD i V.non) = (pm.toList.map fun i => zs.getD i (V.non, PyData.none)).map (·.1) := by
      rw [List.map_map]
      refine List.map_congr_left fun i hi => ?_
      show _ = (zs.getD i (V.non, PyData.none)).1
      by_cases hz : i < zs.length
      · simp [hz]
      · simp [Nat.le_of_not_lt hz]
    have hin : ∀ i ∈ pm.toList, i < (zs.map (·.1)).length := by
      intro i hi
      have := (Array.perm_iff_toList_perm.mp hp.pm).mem_iff.mp hi
      have : i < its.length := by simpa using this
      rw [List.length_map]; omega
    have rv := r1.pick pm.toList hin
    rw [ev] at rv
    refine ⟨.ref l, _, I.laid (t' := tk) (o := .lst ((pm.toList.map fun i => zs.getD i (V.non, PyData.none)).map (·.1))) (fun b o eb => g b o eb) hz ⟨by rw [List.length_map, List.length_map, Array.length_toList, hp.sz, sizeLine_eq]; omega, _, e, rv, hl⟩, rfl, q _ _ z1 z2 (I.hok.fresh hz)⟩
end L2
namespace L2
open PySem PySem.Spec PyProof.Rows
/-! ### texts compared; xs[::-1] -/
section
variable {X : Cx}
def rLeS : R2 := fun x y H Q => ∃ a b : Str, x = .str a ∧ y = .str b ∧ Q (.bl (!decide (b.cps.toList < a.cps.toList))) H
theorem op_leS : OpR X (compareOp .LtE) rLeS := by
  intro pins s σ H x y v u Q I rx ry h
  obtain ⟨a, b, rfl, rfl, q⟩ := h
  obtain ⟨t, rfl⟩ := (show ∃ t, v = Value.str a t from rx)
  obtain ⟨t2, rfl⟩ := (show ∃ t, u = Value.str b t from ry)
  exact P.le_str ⟨.bl _, H, I, rfl, q⟩
end
end L2
namespace L2
open PySem PySem.Spec PyProof.Rows
/-! ### a, b, c = t, the frame named -/
theorem pg_tupK {X : Cx} (K : PySem.W.Frag) {pos : Pos} {es : List Expr} {k : Nat} {t : TGs} {n : Nat} (hc : X.calm = true) (h : PGs X es t) (hK : X.K = K := by rfl)
    (hn : (assignEach es X.env).length = n := by rfl) (hst : (assignEach es X.env).findIdx? (·.1) = none := by rfl) : PG X (.Tuple es k pos) (gTup K n t) := by
  subst hK
  exact pg_tup hc h hn hst
end L2
namespace L2
open PySem PySem.Spec PyProof.Rows
/-! ### x[lo:hi] of a text, just the letters there -/
end L2
namespace L2
open PySem PySem.Spec PyProof.Rows
/-! ### tuples of numbers as keys: (a, b) and (a, b, (c, d)), by their numbers -/
abbrev Tk := List Int
def tkRow (a b : Int) : List (Option Int) := [some a, some b]
structure IsTk (K : PySem.W.Frag) (H : Hp) (a : Addr) (k : Tk) : Prop where
  ex : (∃ x y, k = [x, y] ∧ SqT K H a [.int x, .int y]) ∨ (∃ x y z w b, k = [x, y, z, w] ∧ SqT K H a [.int x, .int y, .ref b] ∧ SqT K H b [.int z, .int w])
theorem IsTk.same {K : PySem.W.Frag} {H H' : Hp} {a : Addr} {s : Tk} (h : IsTk K H a s) (e : Same H H') : IsTk K H' a s := by
  rcases h.ex with ⟨x, y, h1, h2⟩ | ⟨x, y, z, w, b, h1, h2, h3⟩
  · exact ⟨.inl ⟨x, y, h1, e.tup h2⟩⟩
  · exact ⟨.inr ⟨x, y, z, w, b, h1, e.tup h2, e.tup h3⟩⟩
theorem IsTk.kept {K : PySem.W.Frag} {H H' : Hp} {a : Addr} {s : Tk} (h : IsTk K H a s) (e : Kept H H') : IsTk K H' a s := by
  rcases h.ex with ⟨x, y, h1, h2⟩ | ⟨x, y, z, w, b, h1, h2, h3⟩
  · exact ⟨.inl ⟨x, y, h1, e.tup h2⟩⟩
  · exact ⟨.inr ⟨x, y, z, w, b, h1, e.tup h2, e.tup h3⟩⟩
def IsTkH (h : Heap) (k : Tk) (a : Addr) : Prop := (∃ x y, k = [x, y] ∧ IsRowH h (tkRow x y) a) ∨ (∃ x y z w b t t', k = [x, y, z, w] ∧ h.IsTuple a #[.int x t, .int y t', .ref b] ∧ IsRowH h (tkRow z w) b)
def tkHash : Tk → Int
  | [x, y] => rowHash (tkRow x y)
  | [x, y, z, w] => reduceHash (Builtin.Tuple.tupleHashOf [hashInt x, hashInt y, rowHash (tkRow z w)])
  | _ => 0
def tkDraws : Tk → Nat
  | [_, _] => 3
  | _ => 6
theorem row_ints {h : Heap} {x y : Int} {a : Addr} (r : IsRowH h (tkRow x y) a) : ∃ t u, h.IsTuple a #[.int x t, .int y u] := by
  obtain ⟨its, r, ht⟩ := r
  cases r with
  | cons r1 r =>
    cases r with
    | cons r2 r =>
      cases r
      obtain ⟨t, rfl⟩ := (show ∃ t, _ = Value.int x t from r1)
      obtain ⟨u, rfl⟩ := (show ∃ t, _ = Value.int y t from r2)
      exact ⟨t, u, ht⟩
theorem IsTkH.inj {h : Heap} {a : Addr} {x y : Tk} (hx : IsTkH h x a) (hy : IsTkH h y a) : x = y := by
  rcases hx with ⟨p, q, rfl, r⟩ | ⟨p, q, z, w, b, t, t', rfl, r, r2⟩
  · rcases hy with ⟨p', q', rfl, r'⟩ | ⟨p', q', z', w', b', u, u', rfl, r', r2'⟩
    · have := r.inj r'
      simp only [tkRow, List.cons.injEq, Option.some.injEq, and_true] at this
      rw [this.1, this.2]
    · obtain ⟨t, u2, ht⟩ := row_ints r
      exact absurd (congrArg Array.size (tup_inj ht r')) (by show ¬ ((2 : Nat) = 3); decide)
  · rcases hy with ⟨p', q', rfl, r'⟩ | ⟨p', q', z', w', b', u, u', rfl, r', r2'⟩
    · obtain ⟨t2, u2, ht⟩ := row_ints r'
      exact absurd (congrArg Array.size (tup_inj ht r)) (by show ¬ ((2 : Nat) = 3); decide)
    · have e := tup_inj r r'
      simp only [Array.mk.injEq, List.cons.injEq, Value.int.injEq, Value.ref.injEq, and_true] at e
      obtain ⟨⟨rfl, _⟩, ⟨rfl, _⟩, rfl⟩ := e
      have := r2.inj r2'
      simp only [tkRow, List.cons.injEq, Option.some.injEq, and_true] at this
      rw [this.1, this.2]
section
variable {prog : Program} {w : World} {A : Around} {E : Value → Shared → Prop} {s : Shared}
theorem pyHash_tk {x : Tk} {a : Addr} {Q : Int → Shared → Prop} (hu : A.units + 1 < cLine) (hx : IsTkH s.heap x a) (h : Q (tkHash x) { s with toks := s.toks + tkDraws x }) : wpAny (model prog w) A (pyHash (.ref a)) Q E s := by
  rcases hx with ⟨p, q, rfl, r⟩ | ⟨p, q, z, ww, b, t, t', rfl, r, r2⟩
  · exact pyHash_row (by omega) r h
  · refine pyHash_items (all := [(.int p t, hashInt p, 1), (.int q t', hashInt q, 1), (.ref b, rowHash (tkRow z ww), 3)]) (by omega) r (fun y hy tk Q' hq => ?_) h
    simp only [List.mem_cons, List.not_mem_nil, or_false] at hy
    rcases hy with rfl | rfl | rfl
    · exact wpAny_pyHash_int hq
    · exact wpAny_pyHash_int hq
    · exact pyHash_row (by show A.units + 1 < cLine; exact hu) r2 hq
theorem tkAt {x y : Tk} {a b : Addr} (hu : A.units + 1 < cLine) (hx : IsTkH s.heap x a) (hy : IsTkH s.heap y b) : SeqAt.EqAt A s (.ref a) (.ref b) (decide (x = y)) := by
  by_cases hab : a = b
  · subst hab
    rw [decide_eq_true (hx.inj hy)]
    exact SeqAt.EqAt.same _
  · rcases hx with ⟨p, q, rfl, r⟩ | ⟨p, q, z, ww, c, t, t', rfl, r, r2⟩
    · rcases hy with ⟨p', q', rfl, r'⟩ | ⟨p', q', z', w', c', u, u', rfl, r', r2'⟩
      · have := rowAt (A := A) (by omega) r r'
        have e : decide (tkRow p q = tkRow p' q') = decide ([p, q] = [p', q']) := by simp [tkRow]
        rw [e] at this
        exact this
      · obtain ⟨t, t2, ht⟩ := row_ints r
        refine SeqAt.EqAt.of_refs hab ?_
        have z := SeqAt.RcAt.tuples (A := A) (s := s) (e := fun j => if j = 0 then (p == p') else (q == q')) ht r' (by omega) fun j h1 h2 => ?_
        · have e : ((List.range (min (#[Value.int p t, Value.int q t2] : Array Value).size (#[Value.int p' u, Value.int q' u', Value.ref c'] : Array Value).size)).all (fun j => if j = 0 then (p == p') else (q == q')) && (#[Value.int p t, Value.int q t2] : Array Value).size == (#[Value.int p' u, Value.int q' u', Value.ref c'] : Array Value).size) = decide ([p, q] = [p', q', z', w']) := by
            rw [decide_eq_false (by simp)]
            have e2 : ((#[Value.int p t, Value.int q t2] : Array Value).size == (#[Value.int p' u, Value.int q' u', Value.ref c'] : Array Value).size) = false := rfl
            rw [e2, Bool.and_false]
          exact e ▸ z
        · match j, h1, h2 with
          | 0, _, _ => exact SeqAt.EqAt.int_int _ _ _ _
          | 1, _, _ => exact SeqAt.EqAt.int_int _ _ _ _
          | j + 2, h1, _ => exact absurd h1 (by show ¬ (j + 2 < 2); omega)
    · rcases hy with ⟨p', q', rfl, r'⟩ | ⟨p', q', z', w', c', u, u', rfl, r', r2'⟩
      · obtain ⟨t3, t4, ht⟩ := row_ints r'
        refine SeqAt.EqAt.of_refs hab ?_
        have zz := SeqAt.RcAt.tuples (A := A) (s := s) (e := fun j => if j = 0 then (p == p') else (q == q')) r ht (by omega) fun j h1 h2 => ?_
        · have e : ((List.range (min (#[Value.int p t, Value.int q t', Value.ref c] : Array Value).size (#[Value.int p' t3, Value.int q' t4] : Array Value).size)).all (fun j => if j = 0 then (p == p') else (q == q')) && (#[Value.int p t, Value.int q t', Value.ref c] : Array Value).size == (#[Value.int p' t3, Value.int q' t4] : Array Value).size) = decide ([p, q, z, ww] = [p', q']) := by
            rw [decide_eq_false (by simp)]
            have e2 : ((#[Value.int p t, Value.int q t', Value.ref c] : Array Value).size == (#[Value.int p' t3, Value.int q' t4] : Array Value).size) = false := rfl
            rw [e2, Bool.and_false]
          exact e ▸ zz
        · match j, h1, h2 with
          | 0, _, _ => exact SeqAt.EqAt.int_int _ _ _ _
          | 1, _, _ => exact SeqAt.EqAt.int_int _ _ _ _
          | j + 2, _, h2 => exact absurd h2 (by show ¬ (j + 2 < 2); omega)
      · refine SeqAt.EqAt.of_refs hab ?_
        have zz := SeqAt.RcAt.tuples (A := A) (s := s) (e := fun j => if j = 0 then (p == p') else if j = 1 then (q == q') else decide (tkRow z ww = tkRow z' w')) r r' (by omega) fun j h1 h2 => ?_
        · have e : ((List.range (min 3 3)).all (fun j => if j = 0 then (p == p') else if j = 1 then (q == q') else decide (tkRow z ww = tkRow z' w')) && ((3 : Nat) == 3)) = decide ([p, q, z, ww] = [p', q', z', w']) := by
            have e3 : List.range (min 3 3) = [0, 1, 2] := rfl
            rw [e3, Bool.eq_iff_iff]
            simp [tkRow]
          exact e ▸ zz
        · match j, h1, h2 with
          | 0, _, _ => exact SeqAt.EqAt.int_int _ _ _ _
          | 1, _, _ => exact SeqAt.EqAt.int_int _ _ _ _
          | 2, _, _ => exact rowAt (by show A.units + 1 < cLine; exact hu) r2 r2'
          | j + 3, h1, _ => exact absurd h1 (by show ¬ (j + 3 < 3); omega)
theorem quiet_tk {x : Tk} {a : Addr} {Q : Bool → Shared → Prop} (hx : IsTkH s.heap x a) (h : Q true s) : wpAny (model prog w) A (eqIsQuiet 8 (.ref a)) Q E s := by
  rcases hx with ⟨p, q, rfl, r⟩ | ⟨p, q, z, ww, b, t, t', rfl, r, r2⟩
  · exact quiet_row 7 r h
  · refine quiet_items 7 r (fun v hv Q' hq => ?_) h
    simp only [List.mem_cons, List.not_mem_nil, or_false] at hv
    rcases hv with rfl | rfl | rfl
    · rw [eqIsQuiet_byValue _ rfl]; exact wpAny_pure hq
    · rw [eqIsQuiet_byValue _ rfl]; exact wpAny_pure hq
    · exact quiet_row 6 r2 hq
end
def tkKind (prog : Program) (w : World) : HeapKind prog w Tk where
  is := IsTkH
  hash := tkHash
  draws := tkDraws
  room := fun A => A.units + 1 < cLine
  inj := fun hx hy => hx.inj hy
  keeps := fun {h h' k a d o es ep} hx ho hd hs => by
    rcases hx with ⟨p, q, rfl, ⟨i1, r1, p1⟩⟩ | ⟨p, q, z, ww, b, t, t', rfl, r, ⟨i1, r1, p1⟩⟩
    · exact .inl ⟨p, q, rfl, i1, r1, tup_keep p1 ho hd hs⟩
    · exact .inr ⟨p, q, z, ww, b, t, t', rfl, tup_keep r ho hd hs, i1, r1, tup_keep p1 ho hd hs⟩
  pyHash := fun hu hk h => pyHash_tk hu hk h
  eqBool := fun hu hx hy h => tkAt hu hx hy _ _ _ _ h
  quiet := fun hk h => quiet_tk hk h
end L2
namespace L2
open PySem PySem.Spec PyProof.Rows
/-! ### a dict whose keys are tuples of numbers -/
abbrev TX := List (Tk × Addr × V)
def tkEntry (q : Tk × Addr × Value) : DictEntry := ⟨tkHash q.1, .ref q.2.1, q.2.2⟩
abbrev Q3 : TX → List (Tk × Addr × Value) → Prop := Paired fun p q => p.1 = q.1 ∧ p.2.1 = q.2.1 ∧ RelV p.2.2 q.2.2
def DKφ (a : Addr) (xs : TX) (h : Heap) : Prop := xs.length ≤ sizeLine ∧ (a == sysModules) = false ∧ (xs.map (·.1)).Nodup ∧ ∃ vs : List (Tk × Addr × Value), Q3 xs vs ∧ ∃ o es ep, h.get? a = some o ∧ o.ExactDict ∧ o.data = .dict es ep ∧ es.toList = vs.map tkEntry
def DKt (a : Addr) (xs : TX) : HO := .ext (DKφ a xs)
/-- what the dict holds at a key -/
def valT (xs : TX) (k : Tk) : Option V := (xs.find? fun x => decide (x.1 = k)).map (·.2.2)
def putT (xs : TX) (k : Tk) (b : Addr) (v : V) : TX := if (valT xs k).isSome then xs.map (fun x => if x.1 = k then (x.1, x.2.1, v) else x) else xs ++ [(k, b, v)]
theorem Q3.val {xs : TX} {vs : List (Tk × Addr × Value)} (r : Q3 xs vs) (k : Tk) : RelO (valT xs k) ((atKey vs k).map (·.2)) := by
  induction r with
  | nil => exact True.intro
  | @cons p q ps qs h t ih =>
    obtain ⟨h1, _, h2⟩ := h
    by_cases e : p.1 = k
    · have e' : q.1 = k := h1.symm.trans e
      have b : atKey (q :: qs) k = some q.2 := by simp [atKey, List.find?_cons, e']
      have b' : valT (p :: ps) k = some p.2.2 := by simp [valT, List.find?_cons, e]
      rw [b', b]; exact h2
    · have e' : ¬ q.1 = k := fun z => e (h1.trans z)
      have b : atKey (q :: qs) k = atKey qs k := by simp [atKey, List.find?_cons, e']
      have b' : valT (p :: ps) k = valT ps k := by simp [valT, List.find?_cons, e]
      rw [b', b]; exact ih
theorem Q3.repl {xs : TX} {vs : List (Tk × Addr × Value)} (r : Q3 xs vs) (k : Tk) {y : V} {u : Value} (ry : RelV y u) :
    Q3 (xs.map fun x => if x.1 = k then (x.1, x.2.1, y) else x) (vs.map (putAt k u)) := by
  induction r with
  | nil => exact .nil
  | @cons p q ps qs h t ih =>
    rw [List.map_cons, List.map_cons]
    refine .cons ?_ ih
    obtain ⟨h1, h2, h3⟩ := h
    unfold putAt
    by_cases e : p.1 = k
    · rw [if_pos e, if_pos (h1.symm.trans e)]; exact ⟨h1, h2, ry⟩
    · rw [if_neg e, if_neg (fun z => e (h1.trans z))]; exact ⟨h1, h2, h3⟩
theorem Q3.put {xs : TX} {vs : List (Tk × Addr × Value)} (r : Q3 xs vs) (k : Tk) (b : Addr) {y : V} {u : Value} (ry : RelV y u) : Q3 (putT xs k b y) (storedH vs k b u) := by
  have e : (valT xs k).isSome = (atKey vs k).isSome := by rw [(r.val k).isSome_eq, Option.isSome_map]
  unfold putT storedH
  rw [e]
  by_cases q : (atKey vs k).isSome = true
  · rw [if_pos q, if_pos q]; exact r.repl k ry
  · rw [if_neg q, if_neg q]; exact Paired.snoc r ⟨rfl, rfl, ry⟩
theorem Q3.keys {xs : TX} {vs : List (Tk × Addr × Value)} (r : Q3 xs vs) : xs.map (·.1) = vs.map (·.1) := by
  induction r with
  | nil => rfl
  | cons h t ih => rw [List.map_cons, List.map_cons, ih, h.1]
/-- the dict at a, read: its keys are tuples of numbers -/
def dzO (d : Addr) (es : Array DictEntry) (ep : Nat) : HO := .ext (DRaw d es ep)
def DzOk (d : Addr) (xs : TX) (u : HO) : Prop := xs.length ≤ sizeLine ∧ (d == sysModules) = false ∧ (xs.map (·.1)).Nodup ∧ ∃ (vs : List (Tk × Addr × Value)) (es : Array DictEntry) (ep : Nat), Q3 xs vs ∧ es.toList = vs.map tkEntry ∧ u = dzO d es ep
structure TD (K : PySem.W.Frag) (H : Hp) (a : Addr) (xs : TX) : Prop where
  at_ : H a = some (DKt a xs) ∨ ∃ u, H a = some u ∧ DzOk a xs u
  keys : ∀ p ∈ xs, IsTk K H p.2.1 p.1
section
variable {X : Cx} {pins : List (Addr × Obj)} {σ : St} {H : Hp} {s : Shared} {a : Addr} {xs : TX} {A : Around} {E : Value → Shared → Prop}
theorem tk_h (I : Inv X pins σ H s) {b : Addr} {k : Tk} (h : IsTk X.K H b k) : IsTkH s.heap k b := by
  rcases h.ex with ⟨x, y, e, h1⟩ | ⟨x, y, z, w, p, e, h1, h2⟩
  · exact .inl ⟨x, y, e, row_h I h1⟩
  · obtain ⟨its, r, ht, _⟩ := I.tuple h1
    cases r with
    | cons r1 r =>
      cases r with
      | cons r2 r =>
        cases r with
        | cons r3 r =>
          cases r
          obtain ⟨t, rfl⟩ := r1
          obtain ⟨t', rfl⟩ := r2
          cases r3
          exact .inr ⟨x, y, z, w, p, t, t', e, ht, row_h I h2⟩
theorem IsTk.inj (I : Inv X pins σ H s) {b : Addr} {k k' : Tk} (h : IsTk X.K H b k) (h' : IsTk X.K H b k') : k = k' := (tk_h I h).inj (tk_h I h')
theorem TD.raw (I : Inv X pins σ H s) (d : H a = some (DKt a xs)) : DKφ a xs s.heap := (I.hok a _ d).1
theorem TD.either (I : Inv X pins σ H s) (d : H a = some (DKt a xs) ∨ ∃ u, H a = some u ∧ DzOk a xs u) : DKφ a xs s.heap := by
  rcases d with d | ⟨u, d, z, hd, hn, vs, es, ep, r, h4, rfl⟩
  · exact TD.raw I d
  · obtain ⟨o, h1, h2, h3⟩ := (show ObjOk X.prog X.w H s.heap a (dzO a es ep) from I.hok a _ d).1
    exact ⟨z, hd, hn, vs, r, o, es, ep, h1, h2, h3, h4⟩
theorem TD.dict (I : Inv X pins σ H s) (d : TD X.K H a xs) : xs.length ≤ sizeLine ∧ (a == sysModules) = false ∧ (xs.map (·.1)).Nodup ∧ ∃ vs, Q3 xs vs ∧ s.heap.DictOfH (tkKind X.prog X.w) a vs := by
  obtain ⟨z, hd, hn, vs, r, o, es, ep, h1, h2, h3, h4⟩ := TD.either I d.at_
  refine ⟨z, hd, hn, vs, r, o, es, ep, h1, h2, h3, h4, ?_, by rw [← r.keys]; exact hn⟩
  have all : ∀ {l : TX} {m : List (Tk × Addr × Value)}, Q3 l m → (∀ p ∈ l, IsTk X.K H p.2.1 p.1) → ∀ x ∈ m, (tkKind X.prog X.w).is s.heap x.1 x.2.1 := by
    intro l m q
    induction q with
    | nil => intro _ x hx; exact nomatch hx
    | @cons p q ps qs hq t ih =>
      intro hl x hx
      rcases List.mem_cons.mp hx with e | hx
      · subst e
        rw [← hq.1, ← hq.2.1]
        exact tk_h I (hl p List.mem_cons_self)
      · exact ih (fun p hp => hl p (List.mem_cons_of_mem _ hp)) x hx
  exact all r d.keys
end
/-! ### d[k], k in d, k not in d -/
section
variable {X : Cx}
variable {o i value : Expr} {pos pos' : Pos} {td ty tv : TE}
end
end L2
namespace L2
open PySem PySem.Spec PyProof.Rows
/-! ### a dict with tuples as keys, walked -/
section
variable {X : Cx}
end
section
variable {g : TG} {tt : TT} {te : TE} {D : Addr} {σ : St} {H : Hp} {Q : VK}
end
theorem TD.same {K : PySem.W.Frag} {H H' : Hp} {a : Addr} {xs : TX} (h : TD K H a xs) (e : Same H H') : TD K H' a xs := ⟨h.at_.imp (e _ _) (fun ⟨u, h1, h2⟩ => ⟨u, e _ _ h1, h2⟩), fun p hp => (h.keys p hp).same e⟩
end L2
namespace L2
open PySem PySem.Spec PyProof.Rows
/-! ### the table of a set: its places rise, nothing was taken out, its maker -/
structure TOk (b : Bool) (t : SetTable) : Prop where
  led : t.led = b
  dum : t.dummies = #[]
  ris : t.place.toList.Pairwise (· < ·)
end L2
namespace L2
open PySem PySem.Spec PyProof.Rows
/-! ### a set with what its table keeps to: made, added to -/
def byT (w : World) : Bool := w.params.followText "set-order"
section
variable {prog : Program} {w : World} {K : Type} [DecidableEq K] (knd : KeyKind prog w K)
def SetT (h : Heap) (a : Addr) (S : K → Bool) (n : Nat) : Prop :=
  ∃ o es ep t, h.get? a = some o ∧ o.ExactSet ∧ o.data = .set es ep t ∧ ElemsOf knd es.toList ∧ (∀ k, S k = true ↔ ∃ e ∈ es.toList, knd.is k e.2 = true) ∧ es.size < scanBound ∧ t.fits es.size = true ∧ es.size = n ∧ TOk (!byT w) t
variable {knd}
variable {A : Around} {E : Value → Shared → Prop} {s : Shared}
theorem SetT.plain {h : Heap} {a : Addr} {S : K → Bool} {n : Nat} (x : SetT knd h a S n) : h.SetOf knd a S n :=
  let ⟨o, es, ep, t, h1, h2, h3, h4, h5, h6, h7, h8, _⟩ := x
  ⟨o, es, ep, t, h1, h2, h3, h4, h5, h6, h7, h8⟩
end
end L2
namespace L2
open PySem PySem.Spec PyProof.Rows
/-! ### a set walked: by its places, by a drawn order, or by a text's order; each element once -/
section
variable {prog : Program} {w : World} {A : Around} {E : Value → Shared → Prop} {s : Shared}
end
end L2
namespace L2
open PySem PySem.Spec PyProof.Rows
section
variable {prog : Program} {w : World} {A : Around} {E : Value → Shared → Prop} {s : Shared}
/-- the set as it stands while it is walked -/
structure StAt (h : Heap) (S : Addr) (o : Obj) (es : Array (Int × Value)) (ep : Nat) (t : SetTable) : Prop where
  g : h.get? S = some o
  d : o.data = .set es ep t
  f : t.fits es.size = true
/-! by its places -/
end
end L2
namespace L2
open PySem PySem.Spec PyProof.Rows
section
variable {prog : Program} {w : World} {A : Around} {E : Value → Shared → Prop} {s : Shared}
/-! by a text's order -/
/-! by a drawn order -/
def ordW (es : Array (Int × Value)) (ord : List Nat) : Array (Int × Value) := (ord.map fun j => es.getD j (0, .none)).toArray
end
end L2
namespace L2
open PySem PySem.Spec PyProof.Rows
section
open PySem.W
variable {prog : Program} {w : World} {A : Around} {E : Value → Shared → Prop} {s : Shared} {κ : SortKind}
def Al (G : Keyed → Prop) (a : Array Keyed) : Prop := ∀ x, x ∈ a → G x
variable {G : Keyed → Prop}
theorem Al.push {a : Array Keyed} {x : Keyed} (h : Al G a) (hx : G x) : Al G (a.push x) := fun y hy => by
  rcases Array.mem_push.mp hy with z | rfl
  · exact h y z
  · exact hx
theorem Al.app {a b : Array Keyed} (h : Al G a) (h2 : Al G b) : Al G (a ++ b) := fun y hy => (Array.mem_append.mp hy).elim (h y) (h2 y)
theorem Al.ext {a : Array Keyed} (h : Al G a) (i j : Nat) : Al G (a.extract i j) := fun y hy => by
  rw [Array.mem_extract_iff_getElem] at hy
  obtain ⟨k, hk, rfl⟩ := hy
  exact h _ (Array.getElem_mem _)
theorem Al.rev {a : Array Keyed} (h : Al G a) : Al G a.reverse := fun y hy => h y (Array.mem_reverse.mp hy)
theorem Al.at {a : Array Keyed} (h : Al G a) {i : Nat} (hi : i < a.size) : ∃ x, a[i]? = some x ∧ G x := ⟨a[i], getElem?_pos a i hi, h _ (Array.getElem_mem hi)⟩
theorem hd_app {a b : Array Keyed} {x : Keyed} (h : a[0]? = some x) : (a ++ b)[0]? = some x := by
  have hz : 0 < a.size := by
    rcases Nat.eq_zero_or_pos a.size with z | z
    · rw [Array.getElem?_eq_none (by omega)] at h; cases h
    · exact z
  rw [Array.getElem?_append_left hz]; exact h
theorem hd_push {a : Array Keyed} {x y : Keyed} (h : a[0]? = some x) : (a.push y)[0]? = some x := by
  have := hd_app (b := #[y]) h
  simpa using this
structure Sm (κ : SortKind) (arr : Array Keyed) (pd : Array (Nat × Nat × Nat)) (st : SortSt) : Prop where
  k : PyProof.Rows.kindOf st = κ
  a : arrOf st = arr
  p : pendingOf st = pd
  f : failedOf st = none
structure Gd (G : Keyed → Prop) (b0 : Keyed) (out : Array Keyed) : Prop where
  al : Al G out
  hd : out[0]? = some b0
theorem Gd.push {b0 x : Keyed} {out : Array Keyed} (h : Gd G b0 out) (hx : G x) : Gd G b0 (out.push x) := ⟨h.al.push hx, hd_push h.hd⟩
theorem Gd.app {b0 : Keyed} {out b : Array Keyed} (h : Gd G b0 out) (hb : Al G b) : Gd G b0 (out ++ b) := ⟨h.al.app hb, hd_app h.hd⟩
structure Mgd (N : Nat) (item : Nat → Keyed) (κ : SortKind) (m : Nat) (st : SortSt) : Prop where
  k : PyProof.Rows.kindOf st = κ
  p : (pendingOf st).size ≤ 1
  f : failedOf st = none
  sz : (arrOf st).size = N
  al : Al (fun x => ∃ i, i < N ∧ x = item i) (arrOf st)
  hd : (arrOf st)[0]? = some (item m)
def ev {α : Type} (lt : Nat → Nat → Bool) : KasT α → α
  | .ret a => a
  | .ask i j k => ev lt (k (lt i j))
section
variable {N lo : Nat} {item : Nat → Keyed} {lt : Nat → Nat → Bool} {pre : Array Keyed} {pd : Array (Nat × Nat × Nat)}
end
section
variable {N lo : Nat} {item : Nat → Keyed} {lt : Nat → Nat → Bool} {pre : Array Keyed} {pd : Array (Nat × Nat × Nat)}
end
section
variable {N : Nat} {item : Nat → Keyed} {lt : Nat → Nat → Bool}
structure Least (N : Nat) (item : Nat → Keyed) (lt : Nat → Nat → Bool) (κ : SortKind) (st : SortSt) (m : Nat) : Prop where
  mg : Mgd N item κ m st
  lo : m < N
  le : ∀ j, j < N → lt j m = false
theorem PmN.has {p : Array Nat} (h : PmN N p) {i : Nat} (hi : i < N) : ∃ j, j < N ∧ p.getD j 0 = i := by
  have m : i ∈ p := h.pm.mem_iff.mpr (by simpa using hi)
  obtain ⟨j, hj, e⟩ := Array.mem_iff_getElem.mp m
  exact ⟨j, by rw [← h.sz]; exact hj, by rw [← e]; simp [Array.getD, hj]⟩
theorem map_al {p : Array Nat} (hp : PmN N p) : Al (fun x => ∃ i, i < N ∧ x = item i) (p.map item) := fun x hx => by
  obtain ⟨i, hi, rfl⟩ := Array.mem_iff_getElem.mp hx
  have hi' : i < p.size := by simpa using hi
  refine ⟨p.getD i 0, hp.lo i (by rw [← hp.sz]; exact hi'), ?_⟩
  simp [Array.getD, hi']
theorem Least.one {p : Array Nat} {pd : Array (Nat × Nat × Nat)} {st : SortSt} (hN : 1 ≤ N) (hp : PmN N p) (as : Asc lt p N) (S : Sm κ (p.map item) pd st) (hd : pd.size ≤ 1) : Least N item lt κ st (p.getD 0 0) where
  mg := ⟨S.k, by rw [S.p]; exact hd, S.f, by rw [S.a]; simpa using hp.sz, by rw [S.a]; exact map_al hp, by
    rw [S.a]
    have : 0 < p.size := by rw [hp.sz]; omega
    simp [Array.getD, this]⟩
  lo := hp.lo 0 (by omega)
  le := fun j hj => by
    obtain ⟨i, hi, rfl⟩ := hp.has hj
    exact as 0 i (Nat.zero_le _) hi
end
end
end L2
namespace My
/-- what the signs tell, the greatest place first -/
def told (l : List Int) : Int := l.foldl (fun n s => n * 97 + s) 0
/-- m signs of n, the least place first -/
def low : Nat → Int → List Int
  | 0, _ => []
  | m + 1, n => n % 97 :: low m (n / 97)
def rest : Nat → Int → Int
  | 0, n => n
  | m + 1, n => rest m (n / 97)
theorem low_len : ∀ (m : Nat) (n : Int), (low m n).length = m
  | 0, _ => rfl
  | m + 1, n => by rw [low, List.length_cons, low_len]
theorem low_snoc : ∀ (m : Nat) (n : Int), low (m + 1) n = low m n ++ [rest m n % 97]
  | 0, n => rfl
  | m + 1, n => by rw [low, low_snoc m (n / 97), low, rest, List.cons_append]
theorem rest_snoc : ∀ (m : Nat) (n : Int), rest (m + 1) n = rest m n / 97
  | 0, n => rfl
  | m + 1, n => by rw [rest, rest_snoc m (n / 97), rest]
theorem told_snoc (l : List Int) (s : Int) : told (l ++ [s]) = told l * 97 + s := by unfold told; rw [List.foldl_append]; rfl
theorem rest_nonneg : ∀ (m : Nat) (n : Int), 0 ≤ n → 0 ≤ rest m n
  | 0, n, h => by rw [rest]; exact h
  | m + 1, n, h => by rw [rest]; exact rest_nonneg m _ (by omega)
end My
namespace K46
open PySem L2 PyProof.Rows
def top (i : Nat) : Stmt := PySem.Challenge.pw_stormpost_k46_news_as_bodies.main.body.getD i (.Pass ⟨0, 0, 0, 0⟩)
abbrev s_is_sign : Stmt := top 6
abbrev s_look_sign : Stmt := top 7
abbrev s_letter_sign : Stmt := top 11
abbrev s_sign_letter : Stmt := top 12
abbrev s_text_signs : Stmt := top 13
abbrev s_signs_text : Stmt := top 14
abbrev s_number_signs : Stmt := top 15
abbrev s_signs_number : Stmt := top 16
abbrev s_is_house : Stmt := top 19
abbrev s_look_house : Stmt := top 33
abbrev s_look_bounds : Stmt := top 34
abbrev s_look_unlike : Stmt := top 35
abbrev s_is_name : Stmt := top 36
abbrev s_look_names : Stmt := top 37
abbrev s_made_wire : Stmt := top 38
abbrev s_made_near : Stmt := top 39
abbrev s_made_news : Stmt := top 40
abbrev s_wire_signs : Stmt := top 41
abbrev s_wire_of : Stmt := top 42
abbrev s_news_body : Stmt := top 43
abbrev s_names_of : Stmt := top 44
abbrev s_news_of : Stmt := top 45
abbrev s__law_mixed : Stmt := top 48
abbrev s__law_drawn : Stmt := top 49
abbrev s__law_name : Stmt := top 50
abbrev s__law_near : Stmt := top 51
abbrev s__law_names : Stmt := top 52
abbrev s__law_head : Stmt := top 53
abbrev s__law_news : Stmt := top 55
abbrev s__law_whole : Stmt := top 56
abbrev s__law_is_body : Stmt := top 57
abbrev s__law_spoilt : Stmt := top 58
abbrev s__law_stretches : Stmt := top 59
abbrev s__law_read_right : Stmt := top 60
abbrev s_law : Stmt := top 61
structure Ad where
  BadNews : Addr
  BadSign : Addr
  PostError : Addr
structure Txt (K : PySem.W.Frag) (mg : Str → Option Value) (t : Ad) : Prop where
  cBIRTH_SIGNS : ∃ tk, mg "BIRTH_SIGNS" = some (.int 2 tk)
  cHOUSES : ∃ tk, mg "HOUSES" = some (.int 32 tk)
  cLETTERS : ∃ tk, mg "LETTERS" = some (.str " !\"#$ &'()*+,-./0123456789:;<=>?@ABCDEFGHIJKLMNOPQRSTUVWXYZ[\\]^_`abcdefghijklmnopqrstuvwxyz{|}~\n" tk)
  cLONGEST_NAME : ∃ tk, mg "LONGEST_NAME" = some (.int 4 tk)
  cMANY_AT : ∃ tk, mg "MANY_AT" = some (.int 4 tk)
  cMOST_BIRTH : ∃ tk, mg "MOST_BIRTH" = some (.int 9000 tk)
  cMOST_NAMES : ∃ tk, mg "MOST_NAMES" = some (.int 4 tk)
  cMOST_NEAR : ∃ tk, mg "MOST_NEAR" = some (.int 5 tk)
  cMOST_NUMBER : ∃ tk, mg "MOST_NUMBER" = some (.int 900000 tk)
  cMOST_QUIET : ∃ tk, mg "MOST_QUIET" = some (.int 10 tk)
  cNEAR_AT : ∃ tk, mg "NEAR_AT" = some (.int 5 tk)
  cNUMBER_AT : ∃ tk, mg "NUMBER_AT" = some (.int 1 tk)
  cNUMBER_SIGNS : ∃ tk, mg "NUMBER_SIGNS" = some (.int 3 tk)
  cSIGNS : ∃ tk, mg "SIGNS" = some (.int 97 tk)
  cUNTOLD : ∃ tk, mg "UNTOLD" = some (.int 5 tk)
  cWIRE_SIGNS : ∃ tk, mg "WIRE_SIGNS" = some (.int 6 tk)
  n_ValueError : mg "ValueError" = none
  n_abs : mg "abs" = none
  n_all : mg "all" = none
  n_bool : mg "bool" = none
  n_enumerate : mg "enumerate" = none
  n_int : mg "int" = none
  n_isinstance : mg "isinstance" = none
  n_len : mg "len" = none
  n_list : mg "list" = none
  n_range : mg "range" = none
  n_reversed : mg "reversed" = none
  n_set : mg "set" = none
  n_sorted : mg "sorted" = none
  n_tuple : mg "tuple" = none
  mBadNews : mg "BadNews" = some (.ref t.BadNews)
  mBadSign : mg "BadSign" = some (.ref t.BadSign)
  mPostError : mg "PostError" = some (.ref t.PostError)
  xBadNews : PySem.W.excIn K t.BadNews [.type "ValueError", .type "Exception", .type "BaseException", .type "object"] "ValueError.__new__" = true
  eBadNews : ExcCls K t.BadNews
  kpBadNews : PySem.W.keepIn K (.ref t.BadNews) = true
  subBadNews_PostError : PySem.W.subIn K (.ref t.BadNews) (.ref t.PostError) = some true
  oneBadNews_BadNews : PySem.W.kitOne K (.ref t.BadNews) (.ref t.BadNews) = some true
  oneBadNews_BadSign : PySem.W.kitOne K (.ref t.BadNews) (.ref t.BadSign) = some false
  oneBadNews_ValueError : PySem.W.kitOne K (.ref t.BadNews) (.type "ValueError") = some true
  xBadSign : PySem.W.excIn K t.BadSign [.type "ValueError", .type "Exception", .type "BaseException", .type "object"] "ValueError.__new__" = true
  eBadSign : ExcCls K t.BadSign
  subBadSign_BadSign : PySem.W.subIn K (.ref t.BadSign) (.ref t.BadSign) = some true
  subBadSign_PostError : PySem.W.subIn K (.ref t.BadSign) (.ref t.PostError) = some true
  oneBadSign_BadNews : PySem.W.kitOne K (.ref t.BadSign) (.ref t.BadNews) = some false
  oneBadSign_BadSign : PySem.W.kitOne K (.ref t.BadSign) (.ref t.BadSign) = some true
  oneBadSign_ValueError : PySem.W.kitOne K (.ref t.BadSign) (.type "ValueError") = some true
  catchBadSign : Catch K t.BadSign
  catchPostError : Catch K t.PostError
  isi_int_bool : PySem.W.kitOne K (.type "int") (.type "bool") = some false
  isi_int_int : PySem.W.kitOne K (.type "int") (.type "int") = some true
  isi_tuple_tuple : PySem.W.kitOne K (.type "tuple") (.type "tuple") = some true
section
variable {P : Program} {w : World} {K : PySem.W.Frag} {mg : Str → Option Value} {base : Heap} {t : Ad}
/-! is_sign -/
def sp_is_sign : Sp := fun vs H Q _ => ∃ n : Int, vs = [.int n] ∧ Q (.bl (decide (0 ≤ n ∧ n < 97))) H
theorem sc_is_sign : FnScope ["number"] ["number"] (defScope s_is_sign) := ⟨rfl, rfl, rfl, by decide +kernel, rfl, by decide +kernel, by decide +kernel⟩
theorem ok_is_sign (F : Site K mg "is_sign" s_is_sign) (T : Txt K mg t) : Def P w K mg base 1 "is_sign" ["number"] sp_is_sign := by
  refine F.def sc_is_sign (fun _ _ _ _ _ _ us hl => match us, hl with | [_], _ => rfl) (fun vs H Q E h => ?_) (fun f cdv A outer s H vs Q E hr h => ?_)
  · obtain ⟨n, rfl, _⟩ := h
    rfl
  · obtain ⟨n, rfl, q⟩ := h
    refine ⟨_, pss_one (ps_ret (pe_chain op_le op_lt pe_int (pv 0) (pe_gint T.cSIGNS))), ?_⟩
    refine ⟨_, rfl, _, _, rfl, rfl, _, rfl, ?_⟩
    by_cases h0 : 0 ≤ n
    · rw [decide_eq_true h0]
      refine iteT ⟨_, _, rfl, rfl, ?_⟩
      have e : decide (n < 97) = decide (0 ≤ n ∧ n < 97) := by simp [h0]
      show Q (.bl (decide (n < 97))) H
      rw [e]
      exact q
    · rw [decide_eq_false h0]
      refine iteF ?_
      have e : false = decide (0 ≤ n ∧ n < 97) := by simp [h0]
      show Q (.bl false) H
      rw [e]
      exact q
theorem txt_len {i : Int} (h : i.natAbs < 2 ^ 1000) : (Str.ofString (toString i)).length ≤ 1001 := by
  have hl : i.natAbs.log2 < 1000 := by
    by_cases z : i.natAbs = 0
    · rw [z]; decide
    · exact (Nat.log2_lt z).mpr h
  have e := int_text_length_le (k := 1000) (by decide) hl
  rw [PySem.ofString_length]; omega
/-! look_sign -/
def sp_look_sign (C : Addr) : Sp := fun vs H Q E => ∃ n : Int, vs = [.int n] ∧ n.natAbs < 2 ^ 1000 ∧ (0 ≤ n ∧ n < 97 → Q .non H) ∧ (¬ (0 ≤ n ∧ n < 97) → E (.ref C) none H)
theorem sc_look_sign : FnScope ["number"] ["number"] (defScope s_look_sign) := ⟨rfl, rfl, rfl, by decide +kernel, rfl, by decide +kernel, by decide +kernel⟩
theorem ok_look_sign (F : Site K mg "look_sign" s_look_sign) (T : Txt K mg t) (D1 : Def P w K mg base 1 "is_sign" ["number"] sp_is_sign) : Def P w K mg base 2 "look_sign" ["number"] (sp_look_sign t.BadSign) := by
  refine F.def sc_look_sign (fun _ _ _ _ _ _ us hl => match us, hl with | [_], _ => rfl) (fun vs H Q E h => ?_) (fun f cdv A outer s H vs Q E hr h => ?_)
  · obtain ⟨n, rfl, _⟩ := h
    rfl
  · obtain ⟨n, rfl, hb, q1, q2⟩ := h
    refine ⟨_, pss_one (ps_if (pt_not (pt_val (pe_def D1 hr passN (pa_cons (pv 0) pa_nil))))
      (pss_one (ps_raise cx1_body rfl rfl T.mBadSign T.xBadSign PySem.F.excBase_ValueError (pa_cons (pe_fstr (pj_cons (pe_fmtI (pv 0)) (pj_cons pe_str pj_nil))) pa_nil))) pss_nil), ?_⟩
    refine ⟨_, rfl, n, rfl, _, rfl, ?_⟩
    by_cases h0 : 0 ≤ n ∧ n < 97
    · rw [decide_eq_true h0]
      exact iteF (q1 h0)
    · rw [decide_eq_false h0]
      refine iteT ?_
      have hz := txt_len hb
      have e0 : (Str.empty ++ Str.ofString (toString n)).length ≤ 1001 := by rw [strLen_append]; show 0 + _ ≤ 1001; omega
      have e1 : ((Str.empty ++ Str.ofString (toString n)) ++ (" is no sign" : Str)).length ≤ 2000 := by
        have : (" is no sign" : Str).length = 11 := by decide +kernel
        rw [strLen_append]; omega
      have sl : (2000 : Nat) ≤ sizeLine := by decide
      refine ⟨_, rfl, n, rfl, log_lt hb (by decide) (by decide), _, rfl, by omega, _, rfl, by omega, by omega, ?_⟩
      exact ⟨by show 1 ≤ sizeLine; decide, q2 h0⟩
/-! slices by natural bounds; what stands stays but for S; rows of lists -/
theorem cutV_ss {xs : List V} {lo hi : Int} (h1 : 0 ≤ lo) (h2 : 0 ≤ hi) : cutV xs (some lo) (some hi) = (xs.drop lo.toNat).take (hi.toNat - lo.toNat) := by
  unfold cutV
  obtain ⟨a, rfl⟩ := Int.eq_ofNat_of_zero_le h1
  obtain ⟨b, rfl⟩ := Int.eq_ofNat_of_zero_le h2
  rw [HT.sIx_nat, HT.sIx_nat, Int.toNat_natCast, Int.toNat_natCast]
  by_cases h : a ≤ xs.length
  · rw [Nat.min_eq_left h]
    by_cases g : b ≤ xs.length
    · rw [Nat.min_eq_left g]
    · rw [Nat.min_eq_right (by omega), List.take_of_length_le (by rw [List.length_drop]; omega), List.take_of_length_le (by rw [List.length_drop]; omega)]
  · rw [Nat.min_eq_right (a := a) (by omega), List.drop_length, List.drop_of_length_le (by omega), List.take_nil, List.take_nil]
theorem cutV_sn {xs : List V} {lo : Int} (h1 : 0 ≤ lo) : cutV xs (some lo) none = xs.drop lo.toNat := by
  unfold cutV
  obtain ⟨a, rfl⟩ := Int.eq_ofNat_of_zero_le h1
  rw [HT.sIx_nat, HT.sIx_none, Int.toNat_natCast]
  by_cases h : a ≤ xs.length
  · rw [Nat.min_eq_left h, List.take_of_length_le (by rw [List.length_drop]; omega)]
  · rw [Nat.min_eq_right (by omega), List.drop_length, List.drop_of_length_le (by omega), List.take_nil]
def Mods (S : List Addr) (H H' : Hp) : Prop := ∀ b o, b ∉ S → H b = some o → H' b = some o
theorem Mods.refl {S : List Addr} {H : Hp} : Mods S H H := fun _ _ _ e => e
theorem Mods.trans {S : List Addr} {H H' H'' : Hp} (a : Mods S H H') (b : Mods S H' H'') : Mods S H H'' := fun x o n e => b x o n (a x o n e)
theorem Mods.same {S : List Addr} {H H' : Hp} (s : Same H H') : Mods S H H' := fun x o _ e => s x o e
theorem Mods.up {S S' : List Addr} {H H' : Hp} (a : Mods S H H') (h : ∀ x ∈ S, x ∈ S') : Mods S' H H' := fun x o n e => a x o (fun z => n (h x z)) e
theorem Mods.upd {S : List Addr} {H H' : Hp} {p : Addr} {o : HO} (m : Mods S H H') (h : p ∈ S ∨ H p = none) : Mods S H (upd H' p o) := fun b u n e => by
  rw [upd_ne (fun z => by rw [z] at n e; exact h.elim n fun y => by rw [y] at e; cases e)]
  exact m b u n e
theorem Mods.of {S : List Addr} {H H' : Hp} {a : Addr} {o : HO} (m : Mods S H H') (e : H a = some o) (n : a ∉ S) : H' a = some o := m a o n e
/-- lists of numbers at these places -/
def RowsAt (H : Hp) (as : List Addr) (rows : List (List Int)) : Prop := as.length = rows.length ∧ ∀ (i : Nat) (a : Addr) (r : List Int), as[i]? = some a → rows[i]? = some r → H a = some (.lst (r.map V.int))
theorem RowsAt.get {H : Hp} {as : List Addr} {rows : List (List Int)} (h : RowsAt H as rows) {i : Nat} (hi : i < rows.length) : ∃ a, as[i]? = some a ∧ H a = some (.lst (rows[i].map V.int)) := by
  have hi' : i < as.length := by rw [h.1]; exact hi
  exact ⟨as[i], List.getElem?_eq_getElem hi', h.2 i _ _ (List.getElem?_eq_getElem hi') (List.getElem?_eq_getElem hi)⟩
theorem RowsAt.snoc {H : Hp} {as : List Addr} {rows : List (List Int)} {a : Addr} {r : List Int} (h : RowsAt H as rows) (e : H a = some (.lst (r.map V.int))) : RowsAt H (as ++ [a]) (rows ++ [r]) := by
  refine ⟨by rw [List.length_append, List.length_append, h.1]; rfl, fun i b s h1 h2 => ?_⟩
  by_cases hi : i < as.length
  · rw [List.getElem?_append_left hi] at h1
    rw [List.getElem?_append_left (by rw [← h.1]; exact hi)] at h2
    exact h.2 i b s h1 h2
  · rw [List.getElem?_append_right (by omega)] at h1
    rw [List.getElem?_append_right (by rw [← h.1]; omega), ← h.1] at h2
    rcases hz : i - as.length with _ | k
    · rw [hz] at h1 h2
      cases h1; cases h2
      exact e
    · rw [hz] at h1; simp at h1
theorem RowsAt.mods {S : List Addr} {H H' : Hp} {as : List Addr} {rows : List (List Int)} (h : RowsAt H as rows) (m : Mods S H H') (n : ∀ a ∈ as, a ∉ S) : RowsAt H' as rows :=
  ⟨h.1, fun i a r h1 h2 => m a _ (n a (List.mem_of_getElem? h1)) (h.2 i a r h1 h2)⟩
theorem RowsAt.same {H H' : Hp} {as : List Addr} {rows : List (List Int)} (h : RowsAt H as rows) (s : Same H H') : RowsAt H' as rows := h.mods (S := []) (Mods.same s) fun _ _ => List.not_mem_nil
theorem RowsAt.nil {H : Hp} : RowsAt H [] [] := ⟨rfl, fun i a r h => by simp at h⟩
theorem RowsAt.some {H : Hp} {as : List Addr} {rows : List (List Int)} (h : RowsAt H as rows) : ∀ a ∈ as, ∃ o, H a = Option.some o := fun a ha => by
  obtain ⟨i, hi, e⟩ := List.getElem_of_mem ha
  have hi' : i < rows.length := by rw [← h.1]; exact hi
  exact ⟨_, h.2 i a rows[i] (by rw [← e]; exact List.getElem?_eq_getElem hi) (List.getElem?_eq_getElem hi')⟩
theorem Mods.seq {K : PySem.W.Frag} {S : List Addr} {H H' : Hp} {a : Addr} {xs : List V} (m : Mods S H H') (h : SqL K H a xs) (n : a ∉ S) : SqL K H' a xs := by
  rcases h with (h | ⟨o, h⟩) | h
  · exact .inl (.inl (m _ _ n h))
  · exact .inl (.inr ⟨o, m _ _ n h⟩)
  · exact .inr h
theorem Mods.tup {K : PySem.W.Frag} {S : List Addr} {H H' : Hp} {a : Addr} {xs : List V} (m : Mods S H H') (h : SqT K H a xs) (n : a ∉ S) : SqT K H' a xs := by
  rcases h with (h | ⟨o, h⟩) | h
  · exact .inl (.inl (m _ _ n h))
  · exact .inl (.inr ⟨o, m _ _ n h⟩)
  · exact .inr h
/-! news: is_house, look_house, look_bounds, look_unlike -/
def Hse (n : Int) : Prop := 0 ≤ n ∧ n < 32
def Sml (n : Int) : Prop := n.natAbs < 2 ^ 1000
theorem Sml.of {n : Int} (h : -(10 ^ 60) ≤ n) (h2 : n ≤ 10 ^ 60) : Sml n := far_abs h h2
def sp_is_house : Sp := fun vs H Q _ => ∃ n : Int, vs = [.int n] ∧ Q (.bl (decide (0 ≤ n ∧ n < 32))) H
theorem sc_is_house : FnScope ["number"] ["number"] (defScope s_is_house) := ⟨rfl, rfl, rfl, by decide +kernel, rfl, by decide +kernel, by decide +kernel⟩
theorem ok_is_house (F : Site K mg "is_house" s_is_house) (T : Txt K mg t) : Def P w K mg base 1 "is_house" ["number"] sp_is_house := by
  refine F.def sc_is_house (fun _ _ _ _ _ _ us hl => match us, hl with | [_], _ => rfl) (fun vs H Q E h => ?_) (fun f cdv A outer s H vs Q E hr h => ?_)
  · obtain ⟨n, rfl, _⟩ := h
    rfl
  · obtain ⟨n, rfl, q⟩ := h
    refine ⟨_, pss_one (ps_ret (pe_chain op_le op_lt pe_int (pv 0) (pe_gint T.cHOUSES))), ?_⟩
    refine ⟨_, rfl, _, _, rfl, rfl, _, rfl, ?_⟩
    by_cases h0 : 0 ≤ n
    · rw [decide_eq_true h0]
      refine iteT ⟨_, _, rfl, rfl, ?_⟩
      have e : decide (n < 32) = decide (0 ≤ n ∧ n < 32) := by simp [h0]
      show Q (.bl (decide (n < 32))) H
      rw [e]
      exact q
    · rw [decide_eq_false h0]
      refine iteF ?_
      have e : false = decide (0 ≤ n ∧ n < 32) := by simp [h0]
      show Q (.bl false) H
      rw [e]
      exact q
def sp_look_house (C : Addr) : Sp := fun vs H Q E => ∃ n : Int, vs = [.int n] ∧ Sml n ∧ (Hse n → Q .non H) ∧ (¬ Hse n → E (.ref C) none H)
theorem sc_look_house : FnScope ["number"] ["number"] (defScope s_look_house) := ⟨rfl, rfl, rfl, by decide +kernel, rfl, by decide +kernel, by decide +kernel⟩
theorem ok_look_house (F : Site K mg "look_house" s_look_house) (T : Txt K mg t) (D_is_house : Def P w K mg base 1 "is_house" ["number"] sp_is_house) : Def P w K mg base 2 "look_house" ["number"] (sp_look_house t.BadNews) := by
  refine F.def sc_look_house (fun _ _ _ _ _ _ us hl => match us, hl with | [_], _ => rfl) (fun vs H Q E h => ?_) (fun f cdv A outer s H vs Q E hr h => ?_)
  · obtain ⟨n, rfl, _⟩ := h
    rfl
  · obtain ⟨n, rfl, hm, q1, q2⟩ := h
    refine ⟨_, pss_one (ps_if (pt_not (pt_val (pe_def (D_is_house.mono (by decide)) hr passN (pa_cons (pv 0) pa_nil))))
        (pss_one (ps_raise cx1_body rfl rfl T.mBadNews T.xBadNews PySem.F.excBase_ValueError (pa_cons (pe_fstr (pj_cons (pe_fmtI (pv 0)) (pj_cons pe_str pj_nil))) pa_nil)))
        (pss_nil)), ?_⟩
    have sl : (5000 : Nat) ≤ sizeLine := by decide
    refine ⟨_, rfl, n, rfl, _, rfl, ?_⟩
    by_cases h0 : 0 ≤ n ∧ n < 32
    · rw [decide_eq_true h0]
      exact iteF (q1 h0)
    · rw [decide_eq_false h0]
      refine iteT ?_
      have hzl := txt_len hm
      have f0 : (Str.empty ++ Str.ofString (toString n)).length ≤ 1001 := by rw [strLen_append]; show 0 + _ ≤ 1001; omega
      have f1 : ((Str.empty ++ Str.ofString (toString n)) ++ (" is no house" : Str)).length ≤ 2000 := by
        have : (" is no house" : Str).length = 12 := by decide +kernel
        rw [strLen_append]; omega
      refine ⟨_, rfl, n, rfl, log_lt hm (by decide) (by decide), _, rfl, by omega, _, rfl, by omega, by omega, ?_⟩
      exact ⟨by show 1 ≤ sizeLine; decide, q2 h0⟩
def sp_look_bounds (C : Addr) : Sp := fun vs H Q E => ∃ n lo hi : Int, vs = [.int n, .int lo, .int hi] ∧ Sml n ∧ Sml lo ∧ Sml hi ∧ (lo ≤ n ∧ n ≤ hi → Q .non H) ∧ (¬ (lo ≤ n ∧ n ≤ hi) → E (.ref C) none H)
theorem sc_look_bounds : FnScope ["number", "least", "most"] ["number", "least", "most"] (defScope s_look_bounds) := ⟨rfl, rfl, rfl, by decide +kernel, rfl, by decide +kernel, by decide +kernel⟩
theorem ok_look_bounds (F : Site K mg "look_bounds" s_look_bounds) (T : Txt K mg t) : Def P w K mg base 1 "look_bounds" ["number", "least", "most"] (sp_look_bounds t.BadNews) := by
  refine F.def sc_look_bounds (fun _ _ _ _ _ _ us hl => match us, hl with | [_, _, _], _ => rfl) (fun vs H Q E h => ?_) (fun f cdv A outer s H vs Q E hr h => ?_)
  · obtain ⟨n, lo, hi, rfl, _⟩ := h
    rfl
  · obtain ⟨n, lo, hi, rfl, hn, hlo, hhi, q1, q2⟩ := h
    refine ⟨_, pss_one (ps_if (pt_not (pt_chain op_le op_le (pv 1) (pv 0) (pv 2)))
        (pss_one (ps_raise cx1_body rfl rfl T.mBadNews T.xBadNews PySem.F.excBase_ValueError (pa_cons (pe_fstr (pj_cons pe_str (pj_cons (pe_fmtI (pv 1)) (pj_cons pe_str (pj_cons (pe_fmtI (pv 2)) (pj_cons pe_str (pj_cons (pe_fmtI (pv 0)) pj_nil))))))) pa_nil)))
        (pss_nil)), ?_⟩
    have sl : (5000 : Nat) ≤ sizeLine := by decide
    have zn := txt_len hn
    have zl := txt_len hlo
    have zh := txt_len hhi
    have l1 : ("from " : Str).length = 5 := by decide +kernel
    have l2 : (" to " : Str).length = 4 := by decide +kernel
    have l3 : (" is asked for here, not " : Str).length = 24 := by decide +kernel
    have e1 : (Str.empty ++ ("from " : Str)).length ≤ 5 := by rw [strLen_append, l1]; show 0 + 5 ≤ 5; omega
    have e2 : ((Str.empty ++ ("from " : Str)) ++ Str.ofString (toString lo)).length ≤ 1006 := by rw [strLen_append]; omega
    have e3 : (((Str.empty ++ ("from " : Str)) ++ Str.ofString (toString lo)) ++ (" to " : Str)).length ≤ 1010 := by rw [strLen_append]; omega
    have e4 : ((((Str.empty ++ ("from " : Str)) ++ Str.ofString (toString lo)) ++ (" to " : Str)) ++ Str.ofString (toString hi)).length ≤ 2011 := by rw [strLen_append]; omega
    have e5 : (((((Str.empty ++ ("from " : Str)) ++ Str.ofString (toString lo)) ++ (" to " : Str)) ++ Str.ofString (toString hi)) ++ (" is asked for here, not " : Str)).length ≤ 2035 := by rw [strLen_append]; omega
    have e6 : ((((((Str.empty ++ ("from " : Str)) ++ Str.ofString (toString lo)) ++ (" to " : Str)) ++ Str.ofString (toString hi)) ++ (" is asked for here, not " : Str)) ++ Str.ofString (toString n)).length ≤ 3036 := by rw [strLen_append]; omega
    refine ⟨_, rfl, _, rfl, _, _, rfl, rfl, _, rfl, ?_⟩
    by_cases h1 : lo ≤ n
    · refine iteY h1 ?_
      refine ⟨_, rfl, _, _, rfl, rfl, _, rfl, ?_⟩
      by_cases h2 : n ≤ hi
      · rw [decide_eq_true h2]
        exact iteF (q1 ⟨h1, h2⟩)
      · rw [decide_eq_false h2]
        refine iteT ?_
        refine ⟨_, rfl, by omega, _, rfl, lo, rfl, log_lt hlo (by decide) (by decide), _, rfl, by omega, _, rfl, by omega, _, rfl, hi, rfl, log_lt hhi (by decide) (by decide), _, rfl, by omega, _, rfl, by omega, _, rfl, n, rfl, log_lt hn (by decide) (by decide), _, rfl, by omega, by omega, ?_⟩
        exact ⟨by show 1 ≤ sizeLine; decide, q2 fun z => h2 z.2⟩
    · refine iteN h1 ?_
      refine ⟨_, rfl, iteT ?_⟩
      refine ⟨_, rfl, by omega, _, rfl, lo, rfl, log_lt hlo (by decide) (by decide), _, rfl, by omega, _, rfl, by omega, _, rfl, hi, rfl, log_lt hhi (by decide) (by decide), _, rfl, by omega, _, rfl, by omega, _, rfl, n, rfl, log_lt hn (by decide) (by decide), _, rfl, by omega, by omega, ?_⟩
      exact ⟨by show 1 ≤ sizeLine; decide, q2 fun z => h1 z.1⟩
/-! look_unlike -/
theorem nodup_rev {α : Type} {l : List α} : l.reverse.Nodup ↔ l.Nodup := by
  unfold List.Nodup
  rw [List.pairwise_reverse]
  exact ⟨fun h => h.imp fun e z => e z.symm, fun h => h.imp fun e z => e z.symm⟩
def sp_look_unlike (K : PySem.W.Frag) (C : Addr) : Sp := fun vs H Q E => ∃ (b : Bool) (l : Addr) (ks : List Key) (m : Int), vs = [.ref l, .int m] ∧ SqB b K H l (ks.map kV) ∧ ks.length ≤ 1000 ∧ 0 ≤ m ∧ m ≤ 1000 ∧
  ((ks.length : Int) ≤ m ∧ ks.Nodup → ∀ H', Same H H' → Q .non H') ∧ (¬ ((ks.length : Int) ≤ m ∧ ks.Nodup) → ∀ H', Same H H' → E (.ref C) none H')
theorem sc_look_unlike : FnScope ["things", "most"] ["things", "most"] (defScope s_look_unlike) := ⟨rfl, rfl, rfl, by decide +kernel, rfl, by decide +kernel, by decide +kernel⟩
theorem ok_look_unlike (F : Site K mg "look_unlike" s_look_unlike) (T : Txt K mg t) : Def P w K mg base 1 "look_unlike" ["things", "most"] (sp_look_unlike K t.BadNews) := by
  refine F.def sc_look_unlike (fun _ _ _ _ _ _ us hl => match us, hl with | [_, _], _ => rfl) (fun vs H Q E h => ?_) (fun f cdv A outer s H vs Q E hr h => ?_)
  · obtain ⟨b, l, ks, m, rfl, _⟩ := h
    rfl
  · obtain ⟨b, l, ks, m, rfl, hl, hk, m0, m1, q1, q2⟩ := h
    refine ⟨_, pss_cons (ps_if (pt_cmpR op_gt (pe_callB (call_lenK K) (by rfl) T.n_len boot_len (pa_cons (pv 0) pa_nil)) (pv 1) (nomark _))
        (pss_one (ps_raise cx1_body rfl rfl T.mBadNews T.xBadNews PySem.F.excBase_ValueError (pa_cons (pe_fstr (pj_cons pe_str (pj_cons (pe_fmtI (pv 1)) (pj_cons pe_str pj_nil)))) pa_nil)))
        (pss_nil))
      (pss_one (ps_if (pt_cmpR op_ne (pe_callB call_lenKS (by rfl) T.n_len boot_len (pa_cons (pe_callTy (call_setK K) (by rfl) T.n_set boot_set (pa_cons (pv 0) pa_nil)) pa_nil)) (pe_callB (call_lenK K) (by rfl) T.n_len boot_len (pa_cons (pv 0) pa_nil)) (nomark _))
        (pss_one (ps_raise cx1_body rfl rfl T.mBadNews T.xBadNews PySem.F.excBase_ValueError (pa_cons pe_str pa_nil)))
        (pss_nil))), ?_⟩
    have sl : (5000 : Nat) ≤ sizeLine := by decide
    have hm : m.natAbs < 2 ^ 1000 := small_abs (by omega) (by omega)
    have zl := txt_len hm
    have l1 : ("at most " : Str).length = 8 := by decide +kernel
    have l2 : (" are asked for here" : Str).length = 19 := by decide +kernel
    have e1 : (Str.empty ++ ("at most " : Str)).length ≤ 8 := by rw [strLen_append, l1]; show 0 + 8 ≤ 8; omega
    have e2 : ((Str.empty ++ ("at most " : Str)) ++ Str.ofString (toString m)).length ≤ 1009 := by rw [strLen_append]; omega
    have e3 : (((Str.empty ++ ("at most " : Str)) ++ Str.ofString (toString m)) ++ (" are asked for here" : Str)).length ≤ 1034 := by rw [strLen_append]; omega
    refine ⟨_, rfl, l, _, rfl, hl.or, _, rfl, _, _, rfl, rfl, _, rfl, ?_⟩
    rw [List.length_map]
    have sb : 2000 < scanBound := by decide
    by_cases h1 : m < (ks.length : Nat)
    · refine iteY h1 ?_
      refine ⟨_, rfl, by omega, _, rfl, m, rfl, log_lt hm (by decide) (by decide), _, rfl, by omega, _, rfl, by omega, by omega, ?_⟩
      exact ⟨by show 1 ≤ sizeLine; decide, q2 (fun r => by have := r.1; omega) H (Same.refl _)⟩
    · refine iteN h1 ?_
      refine ⟨_, rfl, l, ks, rfl, hl.or, by omega, fun p hp => ?_⟩
      have s1 := (Same.refl H).new (o := KSet P w p ks.reverse) hp
      refine ⟨p, _, rfl, upd_same, _, rfl, l, _, rfl, (hl.same s1).or, rfl, _, rfl, ?_⟩
      rw [List.length_map]
      by_cases h2 : ks.Nodup
      · have e := (dd_nodup ks.reverse).mpr (nodup_rev.mpr h2)
        rw [List.length_reverse] at e
        refine iteNN (by rw [e]) ?_
        exact q1 ⟨by omega, h2⟩ _ s1
      · refine iteNY (fun e => h2 (nodup_rev.mp ((dd_nodup ks.reverse).mp (by have := V.int.inj e; rw [List.length_reverse]; omega)))) ?_
        exact ⟨by show 1 ≤ sizeLine; decide, q2 (fun r => h2 r.2) _ s1⟩
end
end K46
namespace K46
open PySem L2 PyProof.Rows
section
variable {P : Program} {w : World} {K : PySem.W.Frag} {mg : Str → Option Value} {base : Heap} {t : Ad}
/-! is_name, look_names -/
def Let (c : Nat) : Prop := 97 ≤ c ∧ c ≤ 122
instance (c : Nat) : Decidable (Let c) := by unfold Let; infer_instance
def NmOk (cs : List Nat) : Prop := (1 ≤ cs.length ∧ cs.length ≤ 4) ∧ ∀ c ∈ cs, Let c
instance (cs : List Nat) : Decidable (NmOk cs) := by unfold NmOk; infer_instance
def Asc7 (cs : List Nat) : Prop := cs.length ≤ 100 ∧ ∀ c ∈ cs, c < 128
theorem one_lt (a b : Nat) : ([a] < [b]) ↔ a < b := by
  rw [List.cons_lt_cons_iff]; simp
theorem le_a (c : Nat) : (!decide ((⟨#[c]⟩ : Str).cps.toList < ("a" : Str).cps.toList)) = decide (97 ≤ c) := by
  have e : ((⟨#[c]⟩ : Str).cps.toList < ("a" : Str).cps.toList) ↔ c < 97 := one_lt c 97
  by_cases h : 97 ≤ c
  · rw [decide_eq_false (fun z => by have := e.mp z; omega), decide_eq_true h]; rfl
  · rw [decide_eq_true (e.mpr (by omega)), decide_eq_false h]; rfl
theorem le_z (c : Nat) : (!decide (("z" : Str).cps.toList < (⟨#[c]⟩ : Str).cps.toList)) = decide (c ≤ 122) := by
  have e : (("z" : Str).cps.toList < (⟨#[c]⟩ : Str).cps.toList) ↔ 122 < c := one_lt 122 c
  by_cases h : c ≤ 122
  · rw [decide_eq_false (fun z => by have := e.mp z; omega), decide_eq_true h]; rfl
  · rw [decide_eq_true (e.mpr (by omega)), decide_eq_false h]; rfl
def sp_is_name : Sp := fun vs H Q _ => ∃ cs : List Nat, vs = [.str (ofCodes cs)] ∧ Asc7 cs ∧ ∀ H', Same H H' → Q (.bl (decide (NmOk cs))) H'
theorem sc_is_name : FnScope ["text"] ["text"] (defScope s_is_name) := ⟨rfl, rfl, rfl, by decide +kernel, rfl, by decide +kernel, by decide +kernel⟩
theorem ok_is_name (F : Site K mg "is_name" s_is_name) (T : Txt K mg t) : Def P w K mg base 1 "is_name" ["text"] sp_is_name := by
  refine F.def sc_is_name (fun _ _ _ _ _ _ us hl => match us, hl with | [_], _ => rfl) (fun vs H Q E h => ?_) (fun f cdv A outer s H vs Q E hr h => ?_)
  · obtain ⟨cs, rfl, _⟩ := h
    rfl
  · obtain ⟨cs, rfl, ha, q⟩ := h
    refine ⟨_, pss_one (ps_ret (pe_and (pe_chain op_le op_le pe_int (pe_callB call_len_str (by rfl) T.n_len boot_len (pa_cons (pv 0) pa_nil)) (pe_gint T.cLONGEST_NAME)) (pe_one (pe_callB (call_allK K rfl) (by rfl) T.n_all boot_all (pa_cons (pe_lc rfl (Nc := ["letter"]) (ix := [none]) (cscope (defScope s_is_name) ["text"] rfl rfl (by decide +kernel)) (pi_str (pv 0)) (fun C fp s H => ⟨(pg_name (i := 0) (show (["letter"] : List Str).Nodup by decide +kernel) rfl (Or.inl rfl)), pts_nil, (pe_chain op_leS op_leS pe_str (pv 0) pe_str)⟩)) pa_nil))))), ?_⟩
    have hsz : (2000 : Nat) ≤ sizeLine := by decide
    have hl := ha.1
    refine ⟨_, rfl, _, rfl, by rw [ofCodes_length]; omega, _, _, rfl, rfl, _, rfl, ?_⟩
    rw [ofCodes_length]
    by_cases h1 : (1 : Int) ≤ (cs.length : Nat)
    · refine iteY h1 ?_
      refine ⟨_, _, rfl, rfl, ?_⟩
      by_cases h2 : ((cs.length : Nat) : Int) ≤ 4
      · refine ⟨_, rfl, iteY h2 ?_⟩
        refine ⟨_, rfl, cs, rfl, ha.2, fun D hD => ?_⟩
        refine lc_str (cs := cs) (fun i σ H' => ∃ v : Option V, σ = [v] ∧ Same H H' ∧ H' D = some (.lst (((cs.take i).map fun c => decide (Let c)).map V.bl))) ⟨none, rfl, (Same.refl _).new hD, upd_same⟩ ?_ ?_
        · rintro i c σ H' N hN hi ⟨v, rfl, s1, e1⟩
          have hi2 : i < cs.length := (List.getElem?_eq_some_iff.mp hi).1
          have fin : ∀ b : Bool, b = decide (Let c) → ∃ ys, H' D = some (.lst ys) ∧ ys.length < sizeLine ∧ N [some (.str ⟨#[c]⟩)] (upd H' D (.lst (ys ++ [.bl b]))) := by
            rintro b rfl
            refine ⟨_, e1, by rw [List.length_map, List.length_map, List.length_take]; omega, hN _ _ ⟨_, rfl, s1.put hD, ?_⟩⟩
            rw [upd_same, take_succ hi, List.map_append, List.map_append]
            rfl
          refine turn_do ?_
          refine ⟨_, rfl, _, _, rfl, rfl, _, rfl, ?_⟩
          rw [le_a]
          by_cases g1 : 97 ≤ c
          · refine iteY g1 ⟨_, _, rfl, rfl, ?_⟩
            rw [le_z]
            exact fin _ (by unfold Let; simp [g1])
          · exact iteN g1 (fin _ (by unfold Let; simp [g1]))
        · rintro σ H' ⟨v, rfl, s1, e1⟩
          rw [List.take_length] at e1
          refine ⟨D, _, rfl, SqL.of e1, ?_⟩
          have e : ((cs.map fun c => decide (Let c)).all id) = decide (NmOk cs) := by
            rw [Bool.eq_iff_iff, List.all_map, List.all_eq_true, decide_eq_true_iff]
            unfold NmOk
            constructor
            · intro z
              exact ⟨⟨by omega, by omega⟩, fun c hc => by simpa using z c hc⟩
            · intro z c hc
              simpa using z.2 c hc
          show Q (.bl ((cs.map fun c => decide (Let c)).all id)) H'
          rw [e]
          exact q _ s1
      · refine ⟨_, rfl, iteN h2 ?_⟩
        have e : false = decide (NmOk cs) := by
          rw [eq_comm, decide_eq_false_iff_not]
          exact fun z => h2 (by have := z.1.2; omega)
        show Q (.bl false) H
        rw [e]
        exact q _ (Same.refl _)
    · refine iteN h1 ?_
      refine ⟨_, rfl, iteF ?_⟩
      have e : false = decide (NmOk cs) := by
        rw [eq_comm, decide_eq_false_iff_not]
        exact fun z => h1 (by have := z.1.1; omega)
      show Q (.bl false) H
      rw [e]
      exact q _ (Same.refl _)
/-! look_names -/
def nmV (cs : List Nat) : V := .str (ofCodes cs)
def NmsOk (ns : List (List Nat)) : Prop := ns.length ≤ 4 ∧ ns.Nodup ∧ ∀ n ∈ ns, NmOk n
theorem ofCodes_inj {a b : List Nat} (h : ofCodes a = ofCodes b) : a = b := by
  have := congrArg (fun s : Str => s.cps.toList) h
  simpa [ofCodes] using this
theorem nm_keys (ns : List (List Nat)) : ns.map nmV = (ns.map fun cs => (Sum.inr (ofCodes cs) : Key)).map kV := by rw [List.map_map]; rfl
theorem nm_nodup {ns : List (List Nat)} : (ns.map fun cs => (Sum.inr (ofCodes cs) : Key)).Nodup ↔ ns.Nodup := by
  unfold List.Nodup
  rw [List.pairwise_map]
  exact ⟨fun h => h.imp fun e z => e (by rw [z]), fun h => h.imp fun e z => e (ofCodes_inj (Sum.inr.inj z))⟩
def sp_look_names (K : PySem.W.Frag) (C : Addr) : Sp := fun vs H Q E => ∃ (b : Bool) (l : Addr) (ns : List (List Nat)), vs = [.ref l] ∧ SqB b K H l (ns.map nmV) ∧ ns.length ≤ 100 ∧ (∀ n ∈ ns, Asc7 n ∧ (NmOk n ∨ (reprText (ofCodes n)).length ≤ 1000)) ∧ (NmsOk ns → ∀ H', Same H H' → Q .non H') ∧ (¬ NmsOk ns → ∀ H', Same H H' → E (.ref C) none H')
theorem sc_look_names : FnScope ["names", "name"] ["names"] (defScope s_look_names) := ⟨rfl, rfl, rfl, by decide +kernel, rfl, by decide +kernel, by decide +kernel⟩
theorem ok_look_names (F : Site K mg "look_names" s_look_names) (T : Txt K mg t) (D_look_unlike : Def P w K mg base 1 "look_unlike" ["things", "most"] (sp_look_unlike K t.BadNews)) (D_is_name : Def P w K mg base 1 "is_name" ["text"] sp_is_name) : Def P w K mg base 2 "look_names" ["names"] (sp_look_names K t.BadNews) := by
  refine F.def sc_look_names (fun _ _ _ _ _ _ us hl => match us, hl with | [_], _ => rfl) (fun vs H Q E h => ?_) (fun f cdv A outer s H vs Q E hr h => ?_)
  · obtain ⟨b, l, ns, rfl, _⟩ := h
    rfl
  · obtain ⟨b, l, ns, rfl, hl, hn, ha, q1, q2⟩ := h
    refine ⟨_, pss_cons (ps_expr (pe_def (D_look_unlike.mono (by decide)) hr (pass1 cx1_body) (pa_cons (pv 0) (pa_cons (pe_gint T.cMOST_NAMES) pa_nil))))
      (pss_one (ps_for (own1 cx1_body) rfl (pi_seqK K (pv 0)) (pg_name (i := 1) sc_look_names.nd rfl (Or.inl rfl))
        (pss_one (ps_if (pt_not (pt_val (pe_def (D_is_name.mono (by decide)) hr passN (pa_cons (pv 1) pa_nil))))
          (pss_one (ps_raise cx1_body rfl rfl T.mBadNews T.xBadNews PySem.F.excBase_ValueError (pa_cons (pe_fstr (pj_cons (pe_fmtR (pv 1)) (pj_cons pe_str pj_nil))) pa_nil)))
          (pss_nil))))), ?_⟩
    have sl : (5000 : Nat) ≤ sizeLine := by decide
    refine ⟨_, rfl, b, l, _, 4, rfl, (nm_keys ns ▸ hl), by rw [List.length_map]; omega, by decide, by decide, ?_, ?_⟩
    · rw [List.length_map, nm_nodup]
      rintro ⟨h1, h2⟩ H1 s1
      have hl1 := hl.same s1
      refine ⟨_, rfl, b, l, _, rfl, hl1, for_seq (b := b) (K := K) (a := l) (xs := ns.map nmV) (fun i σ H' => ∃ x : Option V, σ = [some (.ref l), x] ∧ Same H1 H' ∧ ∀ n ∈ ns.take i, NmOk n) ⟨none, rfl, Same.refl _, fun n hn => by simp at hn⟩ (fun i σ H' _ ⟨_, _, e, _⟩ => hl1.same e) ?_ ?_⟩
      · rintro i y σ H' hi ⟨x, rfl, s2, hg⟩
        obtain ⟨n, hz, rfl⟩ : ∃ n, ns[i]? = some n ∧ y = nmV n := by
          rw [List.getElem?_map] at hi
          cases e : ns[i]? with
          | none => rw [e] at hi; cases hi
          | some n => rw [e] at hi; exact ⟨n, rfl, (Option.some.inj hi).symm⟩
        have hm : n ∈ ns := List.mem_of_getElem? hz
        refine ⟨_, rfl, n, rfl, (ha n hm).1, fun H2 s3 => ?_⟩
        refine ⟨_, rfl, ?_⟩
        by_cases h0 : NmOk n
        · rw [decide_eq_true h0]
          refine iteF ⟨_, rfl, s2.trans s3, ?_⟩
          rw [take_succ hz]
          intro n' hn'
          rcases List.mem_append.mp hn' with z1 | z1
          · exact hg n' z1
          · rw [List.mem_singleton.mp z1]; exact h0
        · rw [decide_eq_false h0]
          refine iteT ?_
          have hzl := (ha n hm).2.resolve_left h0
          have f0 : (Str.empty ++ reprText (ofCodes n)).length ≤ 1000 := by rw [strLen_append]; show 0 + _ ≤ 1000; omega
          have f1 : ((Str.empty ++ reprText (ofCodes n)) ++ (" is no name" : Str)).length ≤ 2000 := by
            have : (" is no name" : Str).length = 11 := by decide +kernel
            rw [strLen_append]; omega
          refine ⟨_, rfl, _, rfl, by omega, _, rfl, by omega, _, rfl, by omega, by omega, ?_⟩
          exact ⟨by show 1 ≤ sizeLine; decide, q2 (fun r => h0 (r.2.2 n hm)) _ (s1.trans (s2.trans s3))⟩
      · rintro σ H' ⟨x, rfl, s2, hg⟩
        rw [List.length_map, List.take_length] at hg
        exact q1 ⟨by omega, h2, hg⟩ _ (s1.trans s2)
    · rw [List.length_map, nm_nodup]
      intro hb H1 s1
      exact q2 (fun z => hb ⟨by have := z.1; omega, z.2.1⟩) H1 s1
end
end K46
namespace K46
open PySem L2 PyProof.Rows
section
variable {P : Program} {w : World} {K : PySem.W.Frag} {mg : Str → Option Value} {base : Heap} {t : Ad}
/-! number_signs -/
def sp_number_signs (C : Addr) : Sp := fun vs H Q E => ∃ n m : Int, vs = [.int n, .int m] ∧ n.natAbs < 2 ^ 1000 ∧ 0 ≤ m ∧ m ≤ 1000 ∧
  (0 ≤ n → My.rest m.toNat n = 0 → ∀ p H', H p = none → Same H H' → H' p = some (.lst ((My.low m.toNat n).reverse.map V.int)) → Q (.ref p) H') ∧ (n < 0 ∨ 0 < My.rest m.toNat n → ∀ H', Same H H' → E (.ref C) none H')
theorem sc_number_signs : FnScope ["number", "many", "signs", "left", "place"] ["number", "many"] (defScope s_number_signs) := ⟨rfl, rfl, rfl, by decide +kernel, rfl, by decide +kernel, by decide +kernel⟩
theorem ok_number_signs (F : Site K mg "number_signs" s_number_signs) (T : Txt K mg t) : Def P w K mg base 1 "number_signs" ["number", "many"] (sp_number_signs t.BadSign) := by
  refine F.def sc_number_signs (fun _ _ _ _ _ _ us hl => match us, hl with | [_, _], _ => rfl) (fun vs H Q E h => ?_) (fun f cdv A outer s H vs Q E hr h => ?_)
  · obtain ⟨n, m, rfl, _⟩ := h
    rfl
  · obtain ⟨n, m, rfl, hb, m0, m1, q1, q2⟩ := h
    refine ⟨_, pss_cons (ps_set (i := 2) sc_number_signs.nd rfl (Or.inl rfl) (pe_lst pa_nil))
      (pss_cons (ps_set (i := 3) sc_number_signs.nd rfl (Or.inl rfl) (pv 0))
      (pss_cons (PS.nox (ps_for PassesOwn.never rfl (pi_range1 (by rfl) T.n_range (pa_cons (pv 1) pa_nil)) (pg_name (i := 4) sc_number_signs.nd rfl (Or.inl rfl))
        (pss_cons (ps_expr (pe_bm PySem.F.plainAttrs_list PySem.F.slot_list_append PySem.F.type_list_append mt_append (pv 2) (pa_cons (pe_op op_mod (pv 3) (pe_gint T.cSIGNS)) pa_nil)))
        (pss_one (ps_set (i := 3) sc_number_signs.nd rfl (Or.inl rfl) (pe_op op_fdiv (pv 3) (pe_gint T.cSIGNS)))))))
      (pss_cons (ps_if (PW.pt (pw_or (pt_cmpR op_lt (pv 0) pe_int (nomark _)) (pw_or1 (pt_cmpR op_gt (pv 3) pe_int (nomark _)))))
        (pss_one (ps_raise cx1_body rfl rfl T.mBadSign T.xBadSign PySem.F.excBase_ValueError (pa_cons (pe_fstr (pj_cons (pe_fmtI (pv 0)) (pj_cons pe_str (pj_cons (pe_fmtI (pv 1)) (pj_cons pe_str pj_nil))))) pa_nil)))
        (pss_nil))
      (pss_one (ps_ret (pe_list_reversed rfl T.n_list T.n_reversed (pv 2))))))), ?_⟩
    refine ⟨by show 0 ≤ sizeLine; decide, fun ps hps => ?_⟩
    refine ⟨_, rfl, ?_⟩
    have hsz : (2000 : Nat) ≤ sizeLine := by decide
    refine ⟨_, rfl, m, rfl, by omega, by omega, for_range (lo := 0) (n := m.toNat) (fun i σ H' => ∃ x : Option V, σ = [some (.int n), some (.int m), some (.ref ps), some (.int (My.rest i n)), x] ∧ Same H H' ∧ H' ps = some (.lst ((My.low i n).map V.int))) ⟨none, rfl, (Same.refl _).new hps, upd_same⟩ ?_ ?_⟩
    · rintro i σ H' hi ⟨x, rfl, s1, h1⟩
      refine ⟨_, rfl, .inl ⟨rfl, _, SqL.of h1⟩, _, rfl, _, _, rfl, rfl, (by show (0 : Int) < 97; decide), ps, _, _, rfl, rfl, h1, by rw [List.length_map, My.low_len]; omega, ?_⟩
      refine ⟨_, rfl, _, _, rfl, rfl, ⟨by decide, by decide⟩, ?_⟩
      refine ⟨_, by rw [My.rest_snoc]; rfl, s1.put hps, ?_⟩
      rw [upd_same, My.low_snoc, List.map_append]
      rfl
    · rintro σ H' ⟨x, rfl, s1, h1⟩
      refine ⟨_, rfl, _, _, rfl, rfl, _, rfl, ?_⟩
      have hz := txt_len hb
      have hz2 := txt_len (i := m) (small_abs (by omega) (by omega))
      have l1 : (" is not told by " : Str).length = 16 := by decide +kernel
      have l2 : (" signs" : Str).length = 6 := by decide +kernel
      have sl : (3000 : Nat) ≤ sizeLine := by decide
      have e0 : (Str.empty ++ Str.ofString (toString n)).length ≤ 1001 := by rw [strLen_append]; show 0 + _ ≤ 1001; omega
      have e1 : ((Str.empty ++ Str.ofString (toString n)) ++ (" is not told by " : Str)).length ≤ 1017 := by rw [strLen_append]; omega
      have e2 : (((Str.empty ++ Str.ofString (toString n)) ++ (" is not told by " : Str)) ++ Str.ofString (toString m)).length ≤ 2018 := by rw [strLen_append]; omega
      have e3 : ((((Str.empty ++ Str.ofString (toString n)) ++ (" is not told by " : Str)) ++ Str.ofString (toString m)) ++ (" signs" : Str)).length ≤ 2024 := by rw [strLen_append]; omega
      have bad : n < 0 ∨ 0 < My.rest m.toNat n → E (.ref t.BadSign) none H' := fun z => q2 z H' s1
      by_cases h0 : n < 0
      · refine iteY h0 (iteT ?_)
        refine ⟨_, rfl, n, rfl, log_lt hb (by decide) (by decide), _, rfl, by omega, _, rfl, by omega, _, rfl, m, rfl, log_lt (small_abs (by omega) (by omega)) (by decide) (by decide), _, rfl, by omega, _, rfl, by omega, by omega, ?_⟩
        exact ⟨by show 1 ≤ sizeLine; decide, bad (.inl h0)⟩
      · refine iteN h0 ?_
        refine ⟨_, rfl, _, _, rfl, rfl, _, rfl, ?_⟩
        by_cases h2 : 0 < My.rest m.toNat n
        · refine iteY h2 ?_
          refine ⟨_, rfl, n, rfl, log_lt hb (by decide) (by decide), _, rfl, by omega, _, rfl, by omega, _, rfl, m, rfl, log_lt (small_abs (by omega) (by omega)) (by decide) (by decide), _, rfl, by omega, _, rfl, by omega, by omega, ?_⟩
          exact ⟨by show 1 ≤ sizeLine; decide, bad (.inr h2)⟩
        · refine iteN h2 ?_
          have r0 := My.rest_nonneg m.toNat n (by omega)
          refine ⟨_, rfl, ps, _, rfl, SqL.of h1, fun p hp => ?_⟩
          refine q1 (by omega) (by omega) p _ (s1.free hp) (s1.new hp) ?_
          rw [upd_same, ← List.map_reverse]
/-! signs_number -/
def sp_signs_number (K : PySem.W.Frag) (C : Addr) : Sp := fun vs H Q E => ∃ (l : Addr) (ns : List Int), vs = [.ref l] ∧ SqL K H l (ns.map V.int) ∧ (∀ n ∈ ns, n.natAbs < 2 ^ 1000) ∧
  ((∀ n ∈ ns, 0 ≤ n ∧ n < 97) → Q (.int (My.told ns)) H) ∧ (∀ n ∈ ns, ¬ (0 ≤ n ∧ n < 97) → E (.ref C) none H)
theorem sc_signs_number : FnScope ["signs", "number", "sign"] ["signs"] (defScope s_signs_number) := ⟨rfl, rfl, rfl, by decide +kernel, rfl, by decide +kernel, by decide +kernel⟩
theorem ok_signs_number (F : Site K mg "signs_number" s_signs_number) (T : Txt K mg t) (D_look_sign : Def P w K mg base 2 "look_sign" ["number"] (sp_look_sign t.BadSign)) : Def P w K mg base 3 "signs_number" ["signs"] (sp_signs_number K t.BadSign) := by
  refine F.def sc_signs_number (fun _ _ _ _ _ _ us hl => match us, hl with | [_], _ => rfl) (fun vs H Q E h => ?_) (fun f cdv A outer s H vs Q E hr h => ?_)
  · obtain ⟨l, ns, rfl, _⟩ := h
    rfl
  · obtain ⟨l, ns, rfl, hl, hb, q1, q2⟩ := h
    refine ⟨_, pss_cons (ps_set (i := 1) sc_signs_number.nd rfl (Or.inl rfl) pe_int)
      (pss_cons (ps_for (own1 cx1_body) rfl (pi_list (pv 0)) (pg_name (i := 2) sc_signs_number.nd rfl (Or.inl rfl))
        (pss_cons (ps_expr (pe_def (D_look_sign.mono (by decide)) hr (pass1 cx1_body) (pa_cons (pv 2) pa_nil)))
        (pss_one (ps_set (i := 1) sc_signs_number.nd rfl (Or.inl rfl) (pe_op op_add (pe_op op_mul (pv 1) (pe_gint T.cSIGNS)) (pv 2))))))
      (pss_one (ps_ret (pv 1)))), ?_⟩
    refine ⟨_, rfl, l, rfl, ⟨_, hl⟩, for_list (K := K) (a := l) (xs := ns.map V.int) (fun i σ H' => ∃ x : Option V, σ = [some (.ref l), some (.int (My.told (ns.take i))), x] ∧ H' = H ∧ ∀ n ∈ ns.take i, 0 ≤ n ∧ n < 97) ⟨none, rfl, rfl, fun n hn => by simp at hn⟩ (fun i σ H' _ ⟨_, _, e, _⟩ => by rw [e]; exact hl) ?_ ?_⟩
    · rintro i y σ H' hi ⟨x, rfl, rfl, ha⟩
      obtain ⟨z, hz, rfl⟩ := item_of hi
      have hm : z ∈ ns := List.mem_of_getElem? hz
      refine ⟨_, rfl, z, rfl, hb z hm, fun h0 => ?_, fun h0 => q2 z hm h0⟩
      refine ⟨_, rfl, _, _, rfl, rfl, .inr ⟨by decide, by decide⟩, _, rfl, _, _, rfl, rfl, ?_⟩
      refine ⟨some (.int z), ?_, rfl, ?_⟩
      · rw [take_succ hz, My.told_snoc]
        rfl
      · rw [take_succ hz]
        intro n hn
        rcases List.mem_append.mp hn with z1 | z1
        · exact ha n z1
        · rw [List.mem_singleton.mp z1]; exact h0
    · rintro σ H' ⟨x, rfl, rfl, ha⟩
      refine ⟨_, rfl, ?_⟩
      rw [List.length_map, List.take_length] at *
      exact q1 ha
end
end K46
namespace K46
open PySem L2 PyProof.Rows
section
variable {P : Program} {w : World} {K : PySem.W.Frag} {mg : Str → Option Value} {base : Heap} {t : Ad}
/-! the letters -/
def LET : Str := " !\"#$ &'()*+,-./0123456789:;<=>?@ABCDEFGHIJKLMNOPQRSTUVWXYZ[\\]^_`abcdefghijklmnopqrstuvwxyz{|}~\n"
def code (n : Nat) : Nat := LET.cps.getD n 0
def fnd (c : Nat) : Int := PySem.Txt.find LET ⟨#[c]⟩
theorem let_len : LET.length = 96 := by decide +kernel
theorem code_ok : ∀ n < 96, n ≠ 5 → fnd (code n) = n ∧ code n < 128 := by decide +kernel
theorem code_at : ∀ n < 96, LET.cps[n]? = some (code n) := by decide +kernel
theorem repr_len : ∀ c < 128, (reprText ⟨#[c]⟩).length ≤ 100 := by decide +kernel
theorem told_len : (" is told by no sign" : Str).length = 19 := by decide +kernel
theorem tells_len : (" tells no letter" : Str).length = 16 := by decide +kernel
/-! letter_sign -/
def sp_letter_sign (C : Addr) : Sp := fun vs H Q E => ∃ c : Nat, vs = [.str ⟨#[c]⟩] ∧ c < 128 ∧ (0 ≤ fnd c → Q (.int (fnd c)) H) ∧ (fnd c < 0 → E (.ref C) none H)
theorem sc_letter_sign : FnScope ["letter", "sign"] ["letter"] (defScope s_letter_sign) := ⟨rfl, rfl, rfl, by decide +kernel, rfl, by decide +kernel, by decide +kernel⟩
theorem ok_letter_sign (F : Site K mg "letter_sign" s_letter_sign) (T : Txt K mg t) : Def P w K mg base 1 "letter_sign" ["letter"] (sp_letter_sign t.BadSign) := by
  refine F.def sc_letter_sign (fun _ _ _ _ _ _ us hl => match us, hl with | [_], _ => rfl) (fun vs H Q E h => ?_) (fun f cdv A outer s H vs Q E hr h => ?_)
  · obtain ⟨c, rfl, _⟩ := h
    rfl
  · obtain ⟨c, rfl, hc, q1, q2⟩ := h
    refine ⟨_, pss_cons (ps_set (i := 1) sc_letter_sign.nd rfl (Or.inl rfl) (pe_bmK K PySem.F.plainAttrs_str PySem.F.slot_str_find PySem.F.type_str_find mt_find (pe_gstr T.cLETTERS) (pa_cons (pv 0) pa_nil)))
      (pss_cons (ps_if (pt_cmpR op_lt (pv 1) pe_int (nomark _))
        (pss_one (ps_raise cx1_body rfl rfl T.mBadSign T.xBadSign PySem.F.excBase_ValueError (pa_cons (pe_fstr (pj_cons (pe_fmtR (pv 0)) (pj_cons pe_str pj_nil))) pa_nil)))
        (pss_nil))
      (pss_one (ps_ret (pv 1)))), ?_⟩
    refine ⟨rfl, _, rfl, _, _, rfl, rfl, ?_⟩
    refine ⟨_, rfl, _, _, rfl, rfl, _, rfl, ?_⟩
    by_cases z : fnd c < 0
    · refine iteY z ?_
      have hr1 := repr_len c hc
      have hz := told_len
      have sl : (3000 : Nat) ≤ sizeLine := by decide
      have e0 : (Str.empty ++ reprText ⟨#[c]⟩).length ≤ 100 := by rw [strLen_append]; show 0 + _ ≤ 100; omega
      have e1 : ((Str.empty ++ reprText ⟨#[c]⟩) ++ (" is told by no sign" : Str)).length ≤ 200 := by rw [strLen_append]; omega
      refine ⟨_, rfl, _, rfl, by omega, _, rfl, by omega, _, rfl, by omega, by omega, ?_⟩
      exact ⟨by show 1 ≤ sizeLine; decide, q2 z⟩
    · refine iteN z ?_
      refine ⟨_, rfl, ?_⟩
      exact q1 (by omega)
/-! sign_letter -/
def sp_sign_letter (C : Addr) : Sp := fun vs H Q E => ∃ n : Int, vs = [.int n] ∧ n.natAbs < 2 ^ 1000 ∧ (0 ≤ n → n < 96 → n ≠ 5 → Q (.str ⟨#[code n.toNat]⟩) H) ∧ (¬ (0 ≤ n ∧ n < 96 ∧ n ≠ 5) → E (.ref C) none H)
theorem sc_sign_letter : FnScope ["sign"] ["sign"] (defScope s_sign_letter) := ⟨rfl, rfl, rfl, by decide +kernel, rfl, by decide +kernel, by decide +kernel⟩
theorem ok_sign_letter (F : Site K mg "sign_letter" s_sign_letter) (T : Txt K mg t) : Def P w K mg base 1 "sign_letter" ["sign"] (sp_sign_letter t.BadSign) := by
  refine F.def sc_sign_letter (fun _ _ _ _ _ _ us hl => match us, hl with | [_], _ => rfl) (fun vs H Q E h => ?_) (fun f cdv A outer s H vs Q E hr h => ?_)
  · obtain ⟨n, rfl, _⟩ := h
    rfl
  · obtain ⟨n, rfl, hb, q1, q2⟩ := h
    refine ⟨_, pss_cons (ps_if (PW.pt (pw_or (pt_cmpR op_eq (pv 0) (pe_gint T.cUNTOLD) (nomark _)) (pw_or1 (pt_not (pt_chain op_le op_lt pe_int (pv 0) (pe_callB call_len_str (by rfl) T.n_len boot_len (pa_cons (pe_gstr T.cLETTERS) pa_nil)))))))
        (pss_one (ps_raise cx1_body rfl rfl T.mBadSign T.xBadSign PySem.F.excBase_ValueError (pa_cons (pe_fstr (pj_cons (pe_fmtI (pv 0)) (pj_cons pe_str pj_nil))) pa_nil)))
        (pss_nil))
      (pss_one (ps_ret (pe_ix ix_str (pe_gstr T.cLETTERS) (pv 0) (fun _ _ => rfl)))), ?_⟩
    have hz := txt_len hb
    have hz2 := tells_len
    have sl : (3000 : Nat) ≤ sizeLine := by decide
    have e0 : (Str.empty ++ Str.ofString (toString n)).length ≤ 1001 := by rw [strLen_append]; show 0 + _ ≤ 1001; omega
    have e1 : ((Str.empty ++ Str.ofString (toString n)) ++ (" tells no letter" : Str)).length ≤ 2000 := by rw [strLen_append]; omega
    have hl : LET.length ≤ sizeLine := by rw [let_len]; decide
    refine ⟨_, rfl, rfl, _, rfl, ?_⟩
    by_cases z : n = 5
    · subst z
      refine iteY rfl (iteT ?_)
      refine ⟨_, rfl, 5, rfl, log_lt hb (by decide) (by decide), _, rfl, by omega, _, rfl, by omega, by omega, ?_⟩
      exact ⟨by show 1 ≤ sizeLine; decide, q2 (by omega)⟩
    · refine iteN (fun e => z (V.int.inj e)) ?_
      refine ⟨_, rfl, _, _, rfl, rfl, _, rfl, ?_⟩
      by_cases z0 : 0 ≤ n
      · refine iteY z0 ?_
        refine ⟨LET, rfl, hl, _, _, rfl, rfl, _, rfl, ?_⟩
        by_cases z1 : n < 96
        · refine iteNN (p := n < ((LET.length : Nat) : Int)) (by rw [let_len]; omega) ?_
          refine ⟨_, rfl, LET, n, code n.toNat, rfl, rfl, hl, ?_, q1 z0 z1 z⟩
          unfold atI ixN
          rw [if_pos z0, if_pos (by show n < ((LET.cps.toList.length : Nat) : Int); rw [show LET.cps.toList.length = LET.length by simp [Str.length], let_len]; exact z1)]
          show LET.cps.toList[n.toNat]? = some (code n.toNat)
          rw [Array.getElem?_toList]
          exact code_at n.toNat (by omega)
        · refine iteNY (p := n < ((LET.length : Nat) : Int)) (by rw [let_len]; omega) ?_
          refine ⟨_, rfl, n, rfl, log_lt hb (by decide) (by decide), _, rfl, by omega, _, rfl, by omega, by omega, ?_⟩
          exact ⟨by show 1 ≤ sizeLine; decide, q2 (by omega)⟩
      · refine iteN z0 ?_
        refine ⟨_, rfl, iteT ?_⟩
        refine ⟨_, rfl, n, rfl, log_lt hb (by decide) (by decide), _, rfl, by omega, _, rfl, by omega, by omega, ?_⟩
        exact ⟨by show 1 ≤ sizeLine; decide, q2 (by omega)⟩
/-! text_signs -/
def sp_text_signs (C : Addr) : Sp := fun vs H Q E => ∃ cs : List Nat, vs = [.str (ofCodes cs)] ∧ (∀ c ∈ cs, c < 128) ∧ cs.length ≤ 1000 ∧
  ((∀ c ∈ cs, 0 ≤ fnd c) → ∀ p H', H p = none → Same H H' → H' p = some (.lst ((cs.map fnd).map V.int)) → Q (.ref p) H') ∧ (∀ c ∈ cs, fnd c < 0 → ∀ H', Same H H' → E (.ref C) none H')
theorem sc_text_signs : FnScope ["text"] ["text"] (defScope s_text_signs) := ⟨rfl, rfl, rfl, by decide +kernel, rfl, by decide +kernel, by decide +kernel⟩
theorem ok_text_signs (F : Site K mg "text_signs" s_text_signs) (T : Txt K mg t) (D_letter_sign : Def P w K mg base 1 "letter_sign" ["letter"] (sp_letter_sign t.BadSign)) : Def P w K mg base 2 "text_signs" ["text"] (sp_text_signs t.BadSign) := by
  refine F.def sc_text_signs (fun _ _ _ _ _ _ us hl => match us, hl with | [_], _ => rfl) (fun vs H Q E h => ?_) (fun f cdv A outer s H vs Q E hr h => ?_)
  · obtain ⟨cs, rfl, _⟩ := h
    rfl
  · obtain ⟨cs, rfl, hc, hn, q1, q2⟩ := h
    refine ⟨_, pss_one (ps_ret (pe_lcX cx1_body rfl (Nc := ["letter"]) (ix := [none]) (cscope (defScope s_text_signs) ["text"] rfl rfl (by decide +kernel)) (pi_str (pv 0)) (fun C fp s H => ⟨(pg_name (i := 0) (show (["letter"] : List Str).Nodup by decide +kernel) rfl (Or.inl rfl)), pts_nil, (pe_def (D_letter_sign.mono (by decide)) hr passX (pa_cons (pv 0) pa_nil))⟩))), ?_⟩
    have hsz : (2000 : Nat) ≤ sizeLine := by decide
    refine ⟨_, rfl, cs, rfl, hc, fun D hD => ?_⟩
    refine lc_str (cs := cs) (fun i σ H' => ∃ v : Option V, σ = [v] ∧ Same H H' ∧ H' D = some (.lst (((cs.take i).map fnd).map V.int)) ∧ ∀ c ∈ cs.take i, 0 ≤ fnd c) ⟨none, rfl, (Same.refl _).new hD, upd_same, fun c h => by simp at h⟩ ?_ ?_
    · rintro i c σ H' N hN hi ⟨v, rfl, s1, h1, ha⟩
      have hm : c ∈ cs := List.mem_of_getElem? hi
      have hi2 : i < cs.length := (List.getElem?_eq_some_iff.mp hi).1
      refine turn_do ?_
      refine ⟨_, rfl, c, rfl, hc c hm, fun h0 => ?_, fun h0 => q2 c hm h0 H' s1⟩
      refine ⟨_, h1, by rw [List.length_map, List.length_map, List.length_take]; omega, ?_⟩
      refine hN _ _ ⟨_, rfl, s1.put hD, ?_, fun c' hc' => ?_⟩
      · rw [upd_same, take_succ hi, List.map_append, List.map_append]
        rfl
      · rw [take_succ hi] at hc'
        rcases List.mem_append.mp hc' with z | z
        · exact ha c' z
        · rw [List.mem_singleton.mp z]; exact h0
    · rintro σ H' ⟨v, rfl, s1, h1, ha⟩
      rw [List.take_length] at h1 ha
      exact q1 ha D H' hD s1 h1
/-! signs_text -/
def sp_signs_text (K : PySem.W.Frag) (C : Addr) : Sp := fun vs H Q E => ∃ (l : Addr) (ns : List Int), vs = [.ref l] ∧ SqL K H l (ns.map V.int) ∧ (∀ n ∈ ns, n.natAbs < 2 ^ 1000) ∧ ns.length ≤ 1000 ∧
  ((∀ n ∈ ns, 0 ≤ n ∧ n < 96 ∧ n ≠ 5) → ∀ H', Same H H' → Q (.str (ofCodes (ns.map fun n => code n.toNat))) H') ∧ (∀ n ∈ ns, ¬ (0 ≤ n ∧ n < 96 ∧ n ≠ 5) → ∀ H', Same H H' → E (.ref C) none H')
theorem sum_ones : ∀ cs : List Nat, ((cs.map fun c => (⟨#[c]⟩ : Str)).map (·.length)).sum = cs.length := by
  intro cs
  induction cs with
  | nil => rfl
  | cons c r ih =>
    rw [List.map_cons, List.map_cons, List.sum_cons, ih, List.length_cons]
    show 1 + r.length = r.length + 1
    omega
theorem sc_signs_text : FnScope ["signs"] ["signs"] (defScope s_signs_text) := ⟨rfl, rfl, rfl, by decide +kernel, rfl, by decide +kernel, by decide +kernel⟩
theorem ok_signs_text (F : Site K mg "signs_text" s_signs_text) (T : Txt K mg t) (D_sign_letter : Def P w K mg base 1 "sign_letter" ["sign"] (sp_sign_letter t.BadSign)) : Def P w K mg base 2 "signs_text" ["signs"] (sp_signs_text K t.BadSign) := by
  refine F.def sc_signs_text (fun _ _ _ _ _ _ us hl => match us, hl with | [_], _ => rfl) (fun vs H Q E h => ?_) (fun f cdv A outer s H vs Q E hr h => ?_)
  · obtain ⟨l, ns, rfl, _⟩ := h
    rfl
  · obtain ⟨l, ns, rfl, hl, hb, hn, q1, q2⟩ := h
    refine ⟨_, pss_one (ps_ret (pe_bmK K PySem.F.plainAttrs_str PySem.F.slot_str_join PySem.F.type_str_join (mt_join K) pe_str (pa_cons (pe_lcX cx1_body rfl (Nc := ["sign"]) (ix := [none]) (cscope (defScope s_signs_text) ["signs"] rfl rfl (by decide +kernel)) (pi_listK K (pv 0)) (fun C fp s H => ⟨(pg_name (i := 0) (show (["sign"] : List Str).Nodup by decide +kernel) rfl (Or.inl rfl)), pts_nil, (pe_def (D_sign_letter.mono (by decide)) hr passX (pa_cons (pv 0) pa_nil))⟩)) pa_nil))), ?_⟩
    have hsz : (2000 : Nat) ≤ sizeLine := by decide
    refine ⟨rfl, _, rfl, l, rfl, ⟨_, hl⟩, fun D hD => ?_⟩
    refine lc_list (K := K) (a := l) (xs := ns.map V.int) (fun i σ H' => ∃ v : Option V, σ = [v] ∧ Same H H' ∧ H' D = some (.lst (((ns.take i).map fun n => (⟨#[code n.toNat]⟩ : Str)).map V.str)) ∧ ∀ n ∈ ns.take i, 0 ≤ n ∧ n < 96 ∧ n ≠ 5) ⟨none, rfl, (Same.refl _).new hD, upd_same, fun c h => by simp at h⟩ (fun i σ H' _ ⟨_, _, s1, _⟩ => s1.seq hl) ?_ ?_
    · rintro i x σ H' N hN hi ⟨v, rfl, s1, h1, ha⟩
      obtain ⟨n, hi', rfl⟩ := item_of hi
      have hm : n ∈ ns := List.mem_of_getElem? hi'
      have hi2 : i < ns.length := (List.getElem?_eq_some_iff.mp hi').1
      refine turn_do ?_
      refine ⟨_, rfl, n, rfl, hb n hm, fun z0 z1 z2 => ?_, fun h0 => q2 n hm h0 H' s1⟩
      refine ⟨_, h1, by rw [List.length_map, List.length_map, List.length_take]; omega, ?_⟩
      refine hN _ _ ⟨_, rfl, s1.put hD, ?_, fun c' hc' => ?_⟩
      · rw [upd_same, take_succ hi', List.map_append, List.map_append]
        rfl
      · rw [take_succ hi'] at hc'
        rcases List.mem_append.mp hc' with z | z
        · exact ha c' z
        · rw [List.mem_singleton.mp z]; exact ⟨z0, z1, z2⟩
    · rintro σ H' ⟨v, rfl, s1, h1, ha⟩
      rw [List.length_map, List.take_length] at h1 ha
      have em : (ns.map fun n => (⟨#[code n.toNat]⟩ : Str)) = ((ns.map fun n => code n.toNat).map fun c => (⟨#[c]⟩ : Str)) := by rw [List.map_map]; rfl
      rw [em] at h1
      refine ⟨_, D, (ns.map fun n => code n.toNat).map fun c => (⟨#[c]⟩ : Str), rfl, rfl, SqL.of h1, ?_, ?_⟩
      · rw [sum_ones, List.length_map, List.length_map]
        show ns.length + ns.length * 0 ≤ 16777216
        omega
      · have ej := join_signs (ns.map fun n => code n.toNat)
        show Q (.str (PySem.Txt.join Str.empty _)) H'
        rw [ej]
        exact q1 ha H' s1
/-! _law_letters -/
end
end K46
namespace K46
open PySem L2 PyProof.Rows
section
variable {P : Program} {w : World} {K : PySem.W.Frag} {mg : Str → Option Value} {base : Heap} {t : Ad}
/-! _law_mixed, _law_drawn -/
theorem mulOk {a b : Int} (h : a.natAbs < 2 ^ 64) : IntMulOk a b := CMul.ok (.inl ⟨by omega, by omega⟩)
def sp__law_mixed : Sp := fun vs H Q _ => ∃ c k : Int, vs = [.int c, .int k] ∧ 0 ≤ k ∧ k ≤ 1000 ∧ ∀ m : Int, 0 ≤ m → Q (.int m) H
theorem sc__law_mixed : FnScope ["cell", "k", "prime", "one"] ["cell", "k"] (defScope s__law_mixed) := ⟨rfl, rfl, rfl, by decide +kernel, rfl, by decide +kernel, by decide +kernel⟩
theorem ok__law_mixed (F : Site K mg "_law_mixed" s__law_mixed) (T : Txt K mg t) : Def P w K mg base 1 "_law_mixed" ["cell", "k"] sp__law_mixed := by
  refine F.def sc__law_mixed (fun _ _ _ _ _ _ us hl => match us, hl with | [_, _], _ => rfl) (fun vs H Q E h => ?_) (fun f cdv A outer s H vs Q E hr h => ?_)
  · obtain ⟨c, k, rfl, _⟩ := h
    rfl
  · obtain ⟨c, k, rfl, k0, k1, q⟩ := h
    refine ⟨_, pss_cons (ps_set (i := 2) sc__law_mixed.nd rfl (Or.inl rfl) pe_int)
      (pss_cons (ps_set (i := 3) sc__law_mixed.nd rfl (Or.inl rfl) (pe_op op_mod (pe_op op_mulW (pe_op op_add (pe_op op_mod (pv 0) (pv 2)) (pe_op op_mulW (pe_op op_add (pv 1) pe_int) pe_int)) pe_int) (pv 2)))
      (pss_cons (ps_set (i := 3) sc__law_mixed.nd rfl (Or.inl rfl) (pe_op op_mod (pe_op op_mulW (pv 3) (pv 3)) (pv 2)))
      (pss_cons (ps_set (i := 3) sc__law_mixed.nd rfl (Or.inl rfl) (pe_op op_mod (pe_op op_mulW (pe_op op_add (pv 3) (pv 1)) pe_int) (pv 2)))
      (pss_one (ps_ret (pe_op op_fdiv (pe_op op_mod (pe_op op_mulW (pv 3) (pv 3)) (pv 2)) pe_int)))))), ?_⟩
    have pos : (0 : Int) < 2305843009213693951 := by decide
    have em : ∀ x : Int, 0 ≤ x % 2305843009213693951 ∧ x % 2305843009213693951 < 2305843009213693951 := fun x => ⟨Int.emod_nonneg _ (by decide), Int.emod_lt_of_pos _ (by decide)⟩
    have n0 := em c
    refine ⟨_, rfl, _, rfl, _, _, rfl, rfl, pos, _, rfl, _, _, rfl, rfl, _, _, rfl, rfl, mulOk (by omega), _, _, rfl, rfl, _, _, rfl, rfl, mulOk (by omega), _, rfl, _, _, rfl, rfl, pos, ?_⟩
    dsimp only
    generalize (c % 2305843009213693951 + (k + 3) * 1000000007) * 1152921504606846883 = x1
    have n1 := em x1
    refine ⟨_, rfl, _, rfl, _, _, rfl, rfl, mulOk (by omega), _, rfl, _, _, rfl, rfl, pos, ?_⟩
    dsimp only
    generalize x1 % 2305843009213693951 * (x1 % 2305843009213693951) = x2
    have n2 := em x2
    refine ⟨_, rfl, _, rfl, _, _, rfl, rfl, _, _, rfl, rfl, mulOk (by omega), _, rfl, _, _, rfl, rfl, pos, ?_⟩
    dsimp only
    generalize (x2 % 2305843009213693951 + k) * 576460752303423433 = x3
    have n3 := em x3
    refine ⟨_, rfl, _, rfl, _, _, rfl, rfl, mulOk (by omega), _, rfl, _, _, rfl, rfl, pos, _, _, rfl, rfl, ⟨by decide, by decide⟩, ?_⟩
    exact q _ (Int.ediv_nonneg (em _).1 (by decide))
def DrawnOk (bs ms : List Int) : Prop := ms.length = bs.length ∧ ∀ (i : Nat) (m b : Int), ms[i]? = some m → bs[i]? = some b → 0 ≤ m ∧ m < b
def sp__law_drawn (K : PySem.W.Frag) : Sp := fun vs H Q _ => ∃ (c : Int) (l : Addr) (bs : List Int), vs = [.int c, .ref l] ∧ H l = some (.lst (bs.map V.int)) ∧ bs.length ≤ 100 ∧ (∀ b ∈ bs, 0 < b ∧ b ≤ 1000000) ∧ ∀ (r : Addr) (H' : Hp) (ms : List Int), Same H H' → H r = none → H' r = some (.lst (ms.map V.int)) → DrawnOk bs ms → Q (.ref r) H'
theorem sc__law_drawn : FnScope ["cell", "bounds", "row", "rest", "k", "bound"] ["cell", "bounds"] (defScope s__law_drawn) := ⟨rfl, rfl, rfl, by decide +kernel, rfl, by decide +kernel, by decide +kernel⟩
set_option maxHeartbeats 1000000 in
theorem ok__law_drawn (F : Site K mg "_law_drawn" s__law_drawn) (T : Txt K mg t) (D__law_mixed : Def P w K mg base 1 "_law_mixed" ["cell", "k"] sp__law_mixed) : Def P w K mg base 2 "_law_drawn" ["cell", "bounds"] (sp__law_drawn K) := by
  refine F.def sc__law_drawn (fun _ _ _ _ _ _ us hl => match us, hl with | [_, _], _ => rfl) (fun vs H Q E h => ?_) (fun f cdv A outer s H vs Q E hr h => ?_)
  · obtain ⟨c, l, bs, rfl, _⟩ := h
    rfl
  · obtain ⟨c, l, bs, rfl, hl, hbl, hb, q⟩ := h
    refine ⟨_, pss_cons (ps_set (i := 2) sc__law_drawn.nd rfl (Or.inl rfl) (pe_lst pa_nil))
      (pss_cons (ps_set (i := 3) sc__law_drawn.nd rfl (Or.inl rfl) (pe_callB call_abs (by rfl) T.n_abs boot_abs (pa_cons (pv 0) pa_nil)))
      (pss_cons (PS.nox (ps_for PassesOwn.never rfl (pi_enumerateK K (by rfl) T.n_enumerate (pa_cons (pv 1) pa_nil)) (pg_twoK K (i := 4) (j := 5) rfl sc__law_drawn.nd rfl rfl (Or.inl rfl) (Or.inl rfl))
        (pss_one (ps_if (pt_cmpR op_ge (pe_callB call_abs (by rfl) T.n_abs boot_abs (pa_cons (pv 0) pa_nil)) (pe_op op_pow pe_int pe_int) (nomark _))
          (pss_cons (ps_expr (pe_bmK K PySem.F.plainAttrs_list PySem.F.slot_list_append PySem.F.type_list_append mt_append (pv 2) (pa_cons (pe_op op_mod (pv 3) (pv 5)) pa_nil)))
          (pss_one (ps_set (i := 3) sc__law_drawn.nd rfl (Or.inl rfl) (pe_op op_fdiv (pv 3) (pv 5)))))
          (pss_one (ps_expr (pe_bmK K PySem.F.plainAttrs_list PySem.F.slot_list_append PySem.F.type_list_append mt_append (pv 2) (pa_cons (pe_op op_mod (pe_def (D__law_mixed.mono (by decide)) hr passN (pa_cons (pv 0) (pa_cons (pv 4) pa_nil))) (pv 5)) pa_nil))))))))
      (pss_one (ps_ret (pv 2))))), ?_⟩
    have hsz : (2000 : Nat) ≤ sizeLine := by decide
    refine ⟨by show 0 ≤ sizeLine; decide, fun L hL => ?_⟩
    have s1 := (Same.refl H).new (o := .lst []) hL
    refine ⟨_, rfl, c, rfl, ?_⟩
    refine ⟨_, rfl, l, _, rfl, s1 _ _ hl, ?_⟩
    refine for_enum (K := K) (a := l) (xs := bs.map V.int) (fun i σ H2 => ∃ (rest : Int) (ms : List Int) (v4 v5 : Option V), σ = [some (.int c), some (.ref l), some (.ref L), some (.int rest), v4, v5] ∧ Same H H2 ∧ H2 L = some (.lst (ms.map V.int)) ∧ ms.length = i ∧ ∀ (j : Nat) (m b : Int), ms[j]? = some m → bs[j]? = some b → 0 ≤ m ∧ m < b)
      ⟨_, [], none, none, rfl, s1, upd_same, rfl, fun j m b hm => by cases hm⟩ (fun i σ H2 _ ⟨_, _, _, _, _, s2, _⟩ => SqL.of (s2 _ _ hl)) ?_ ?_
    · rintro i y p σ H2 hi ⟨rest, ms, v4, v5, rfl, s2, h2, hml, hm⟩ hp
      obtain ⟨b, ei, rfl⟩ := item_of hi
      obtain ⟨b0, b1⟩ := hb b (List.mem_of_getElem? ei)
      have hi2 : i < bs.length := (List.getElem?_eq_some_iff.mp ei).1
      have s3 := s2.new (o := .tup [.int (i : Nat), .int b]) hp
      have h3 : (upd H2 p (.tup [.int (i : Nat), .int b])) L = some (.lst (ms.map V.int)) := by rw [upd_ne (ne_of_none h2 hp)]; exact h2
      have push : ∀ (x : Int), 0 ≤ x ∧ x < b → (Same H (upd (upd H2 p (.tup [.int (i : Nat), .int b])) L (.lst (ms.map V.int ++ [V.int x]))) ∧ (upd (upd H2 p (.tup [.int (i : Nat), .int b])) L (.lst (ms.map V.int ++ [V.int x]))) L = some (.lst ((ms ++ [x]).map V.int)) ∧ (ms ++ [x]).length = i + 1 ∧ ∀ (j : Nat) (m b : Int), (ms ++ [x])[j]? = some m → bs[j]? = some b → 0 ≤ m ∧ m < b) := fun x hx => ⟨s3.put hL, by rw [upd_same, List.map_append]; rfl, by rw [List.length_append, hml]; rfl, fun j m b' hm' hb' => by
        by_cases z : j < ms.length
        · rw [List.getElem?_append_left z] at hm'; exact hm j m b' hm' hb'
        · have hlt := (List.getElem?_eq_some_iff.mp hm').1
          rw [List.length_append] at hlt
          have e : j = ms.length := by simp at hlt; omega
          rw [e, List.getElem?_append_right (Nat.le_refl _), Nat.sub_self] at hm'
          cases hm'
          rw [e, hml, ei] at hb'
          cases hb'
          exact hx⟩
      refine take_two (SqT.of upd_same) ?_
      refine ⟨_, rfl, c, rfl, _, _, rfl, rfl, ⟨by decide, by decide, by decide⟩, _, _, rfl, rfl, _, rfl, ?_⟩
      refine ite2 (fun _ => ?_) (fun _ => ?_)
      · refine ⟨_, rfl, .inl ⟨rfl, _, SqL.of h3⟩, _, rfl, _, rfl, _, _, rfl, rfl, b0, L, _, _, rfl, rfl, h3, by rw [List.length_map]; omega, ?_⟩
        obtain ⟨p1, p2, p3, p4⟩ := push (rest % b) ⟨Int.emod_nonneg _ (by omega), Int.emod_lt_of_pos _ b0⟩
        refine ⟨_, rfl, _, rfl, _, _, rfl, rfl, ⟨b0, by omega⟩, ?_⟩
        exact ⟨_, _, _, _, rfl, p1, p2, p3, p4⟩
      · refine ⟨_, rfl, .inl ⟨rfl, _, SqL.of h3⟩, _, rfl, _, rfl, c, _, rfl, by omega, by omega, fun m m0 => ?_⟩
        refine ⟨_, rfl, _, _, rfl, rfl, b0, L, _, _, rfl, rfl, h3, by rw [List.length_map]; omega, ?_⟩
        obtain ⟨p1, p2, p3, p4⟩ := push (m % b) ⟨Int.emod_nonneg _ (by omega), Int.emod_lt_of_pos _ b0⟩
        exact ⟨_, _, _, _, rfl, p1, p2, p3, p4⟩
    · rintro σ H2 ⟨rest, ms, v4, v5, rfl, s2, h2, hml, hm⟩
      rw [List.length_map] at hml
      exact ⟨_, rfl, q L H2 ms s2 hL h2 ⟨hml, hm⟩⟩
end
end K46
namespace K46
open PySem L2 PyProof.Rows
section
variable {P : Program} {w : World} {K : PySem.W.Frag} {mg : Str → Option Value} {base : Heap} {t : Ad}
/-! wires: made_wire -/
structure Wr where
  o : Int
  q : Int
  a : Int
  b : Int
def wrD (w : Wr) : PyData := .tuple [.int w.o, .int w.q, .tuple [.int w.a, .int w.b]]
theorem wrD_inj {v w : Wr} (h : wrD v = wrD w) : v = w := by
  obtain ⟨o, q, a, b⟩ := v
  obtain ⟨o', q', a', b'⟩ := w
  simp only [wrD, PyData.tuple.injEq, List.cons.injEq, PyData.int.injEq, and_true] at h
  obtain ⟨rfl, rfl, rfl, rfl⟩ := h
  rfl
def WrOk (w : Wr) : Prop := Hse w.o ∧ (1 ≤ w.q ∧ w.q ≤ 10) ∧ (1 ≤ w.a ∧ w.a ≤ 9000) ∧ (1 ≤ w.b ∧ w.b ≤ 9000)
def WrS (w : Wr) : Prop := Sml w.o ∧ Sml w.q ∧ Sml w.a ∧ Sml w.b
theorem dInt {K : PySem.W.Frag} {H : Hp} {n : Nat} {v : V} {i : Int} (h : IsDat K H n v (.int i)) : v = .int i := by cases h; rfl
theorem dStr {K : PySem.W.Frag} {H : Hp} {n : Nat} {v : V} {x : Str} (h : IsDat K H n v (.str x)) : v = .str x := by cases h; rfl
theorem dTup {K : PySem.W.Frag} {H : Hp} {n : Nat} {v : V} {ds : List PyData} (h : IsDat K H (n + 1) v (.tuple ds)) : ∃ a xs, v = .ref a ∧ SqT K H a xs ∧ xs.length = ds.length ∧ ∀ (i : Nat) (x : V) (d : PyData), xs[i]? = some x → ds[i]? = some d → IsDat K H n x d := by
  cases h with
  | tup ha hl h => exact ⟨_, _, rfl, ha, hl, h⟩
/-- a wire lies at v -/
def WAt (K : PySem.W.Frag) (H : Hp) (v : V) (w : Wr) : Prop := IsDat K H 2 v (wrD w)
theorem WAt.out {K : PySem.W.Frag} {H : Hp} {v : V} {w : Wr} (h : WAt K H v w) : ∃ a p, v = .ref a ∧ SqT K H a [.int w.o, .int w.q, .ref p] ∧ SqT K H p [.int w.a, .int w.b] := by
  obtain ⟨a, xs, rfl, h1, h2, h3⟩ := dTup h
  match xs, h2 with
  | [x, y, z], _ =>
    obtain rfl := dInt (h3 0 x _ rfl rfl)
    obtain rfl := dInt (h3 1 y _ rfl rfl)
    obtain ⟨p, ys, rfl, g1, g2, g3⟩ := dTup (h3 2 z _ rfl rfl)
    match ys, g2 with
    | [x, y], _ =>
      obtain rfl := dInt (g3 0 x _ rfl rfl)
      obtain rfl := dInt (g3 1 y _ rfl rfl)
      exact ⟨a, p, rfl, h1, g1⟩
theorem WAt.mk {K : PySem.W.Frag} {H : Hp} {a p : Addr} {w : Wr} (h1 : SqT K H a [.int w.o, .int w.q, .ref p]) (h2 : SqT K H p [.int w.a, .int w.b]) : WAt K H (.ref a) w := by
  refine .tup h1 rfl fun i x d e1 e2 => ?_
  match i with
  | 0 => cases e1; cases e2; exact .int _
  | 1 => cases e1; cases e2; exact .int _
  | 2 =>
    cases e1; cases e2
    refine .tup h2 rfl fun i x d e1 e2 => ?_
    match i with
    | 0 => cases e1; cases e2; exact .int _
    | 1 => cases e1; cases e2; exact .int _
    | i + 2 => simp at e1
  | i + 3 => simp at e1
def sp_made_wire (K : PySem.W.Frag) (C : Addr) : Sp := fun vs H Q E => ∃ (v : V) (w : Wr), vs = [v] ∧ WAt K H v w ∧ WrS w ∧ (WrOk w → ∀ (r : Addr) H', Same H H' → WAt K H' (.ref r) w → Q (.ref r) H') ∧ (¬ WrOk w → E (.ref C) none H)
theorem sc_made_wire : FnScope ["wire", "birth"] ["wire"] (defScope s_made_wire) := ⟨rfl, rfl, rfl, by decide +kernel, rfl, by decide +kernel, by decide +kernel⟩
theorem ok_made_wire (F : Site K mg "made_wire" s_made_wire) (T : Txt K mg t) (D_look_house : Def P w K mg base 2 "look_house" ["number"] (sp_look_house t.BadNews)) (D_look_bounds : Def P w K mg base 1 "look_bounds" ["number", "least", "most"] (sp_look_bounds t.BadNews)) : Def P w K mg base 3 "made_wire" ["wire"] (sp_made_wire K t.BadNews) := by
  refine F.def sc_made_wire (fun _ _ _ _ _ _ us hl => match us, hl with | [_], _ => rfl) (fun vs H Q E h => ?_) (fun f cdv A outer s H vs Q E hr h => ?_)
  · obtain ⟨v, x, rfl, _⟩ := h
    rfl
  · obtain ⟨v, x, rfl, hw, hs, q1, q2⟩ := h
    refine ⟨_, pss_cons (ps_expr (pe_def (D_look_house.mono (by decide)) hr (pass1 cx1_body) (pa_cons (pe_ix (ix_tupK K) (pv 0) pe_int (fun _ _ => rfl)) pa_nil)))
      (pss_cons (ps_expr (pe_def (D_look_bounds.mono (by decide)) hr (pass1 cx1_body) (pa_cons (pe_ix (ix_tupK K) (pv 0) pe_int (fun _ _ => rfl)) (pa_cons pe_int (pa_cons (pe_gint T.cMOST_QUIET) pa_nil)))))
      (pss_cons (ps_for (own1 cx1_body) rfl (pi_tupK K (pe_ix (ix_tupK K) (pv 0) pe_int (fun _ _ => rfl))) (pg_name (i := 1) sc_made_wire.nd rfl (Or.inl rfl))
        (pss_one (ps_expr (pe_def (D_look_bounds.mono (by decide)) hr (pass1 cx1_body) (pa_cons (pv 1) (pa_cons pe_int (pa_cons (pe_gint T.cMOST_BIRTH) pa_nil)))))))
      (pss_one (ps_ret (pe_tup (pa_cons (pe_ix (ix_tupK K) (pv 0) pe_int (fun _ _ => rfl)) (pa_cons (pe_ix (ix_tupK K) (pv 0) pe_int (fun _ _ => rfl)) (pa_cons (pe_callTy (call_tupleK K) (by rfl) T.n_tuple boot_tuple (pa_cons (pe_ix (ix_tupK K) (pv 0) pe_int (fun _ _ => rfl)) pa_nil)) pa_nil)))))))), ?_⟩
    obtain ⟨a, p, rfl, h1, h2⟩ := hw.out
    refine ⟨_, rfl, a, _, _, _, rfl, rfl, h1, rfl, x.o, rfl, hs.1, fun g1 => ?_, fun g1 => q2 fun z => g1 z.1⟩
    refine ⟨_, rfl, a, _, _, _, rfl, rfl, h1, rfl, x.q, 1, 10, rfl, hs.2.1, .of (by decide) (by decide), .of (by decide) (by decide), fun g2 => ?_, fun g2 => q2 fun z => g2 z.2.1⟩
    refine ⟨_, rfl, a, _, _, _, rfl, rfl, h1, rfl, p, rfl, ⟨_, h2⟩, for_tup (K := K) (a := p) (xs := [.int x.a, .int x.b]) (fun i σ H' => ∃ v : Option V, σ = [some (.ref a), v] ∧ H' = H ∧ (1 ≤ i → 1 ≤ x.a ∧ x.a ≤ 9000) ∧ (2 ≤ i → 1 ≤ x.b ∧ x.b ≤ 9000)) ⟨none, rfl, rfl, fun z => by omega, fun z => by omega⟩ (fun i σ H' _ ⟨_, _, e, _⟩ => by rw [e]; exact h2) ?_ ?_⟩
    · rintro i y σ H' hi ⟨v, rfl, rfl, k1, k2⟩
      match i, hi with
      | 0, hi =>
        cases hi
        refine ⟨_, rfl, x.a, 1, 9000, rfl, hs.2.2.1, .of (by decide) (by decide), .of (by decide) (by decide), fun g => ⟨_, rfl, rfl, fun _ => g, fun z => by omega⟩, fun g => q2 fun z => g z.2.2.1⟩
      | 1, hi =>
        cases hi
        refine ⟨_, rfl, x.b, 1, 9000, rfl, hs.2.2.2, .of (by decide) (by decide), .of (by decide) (by decide), fun g => ⟨_, rfl, rfl, fun _ => k1 (by omega), fun _ => g⟩, fun g => q2 fun z => g z.2.2.2⟩
      | i + 2, hi => simp at hi
    · rintro σ H' ⟨v, rfl, rfl, k1, k2⟩
      refine ⟨_, rfl, a, _, _, _, rfl, rfl, h1, rfl, _, rfl, a, _, _, _, rfl, rfl, h1, rfl, _, rfl, a, _, _, _, rfl, rfl, h1, rfl, p, _, rfl, .inr ⟨h2, ?_⟩⟩
      refine ⟨by show 3 ≤ sizeLine; decide, fun r hr2 => ?_⟩
      have s1 := (Same.refl H').new (o := .tup [.int x.o, .int x.q, .ref p]) hr2
      exact q1 ⟨g1, g2, k1 (by show 1 ≤ 2; decide), k2 (by show 2 ≤ 2; decide)⟩ r _ s1 (.mk (.inl (.inl upd_same)) (s1.tup h2))
end
end K46
namespace K46
open PySem L2 PyProof.Rows
section
variable {P : Program} {w : World} {K : PySem.W.Frag} {mg : Str → Option Value} {base : Heap} {t : Ad}
/-! made_near -/
theorem lc_seq {K : PySem.W.Frag} {g : TG} {tt : TT} {te : TE} {D : Addr} {σ : L2.St} {H : Hp} {Q : VK} {b : Bool} {a : Addr} {xs : List V} (Pv : Nat → L2.St → Hp → Prop) (h0 : Pv 0 σ H) (hl : ∀ i σ H, i ≤ xs.length → Pv i σ H → SqB b K H a xs)
    (hs : ∀ (i : Nat) (x : V) (σ : L2.St) (H : Hp) (N : L2.St → Hp → Prop), (∀ σ H, Pv (i + 1) σ H → N σ H) → xs[i]? = some x → Pv i σ H → g x σ H fun σ3 H3 => tt σ3 H3 fun b H4 =>
      if b = true then te σ3 H4 fun v H5 => ∃ ys, H5 D = some (.lst ys) ∧ ys.length < sizeLine ∧ N σ3 (upd H5 D (.lst (ys ++ [v]))) else N σ3 H4)
    (hd : ∀ σ H, Pv xs.length σ H → Q (.ref D) H) : lcRun (ItS b K a xs) g tt te D σ H Q := by
  refine ⟨fun i m σ H => m = xs.length - i ∧ i ≤ xs.length ∧ Pv i σ H, ⟨xs.length, by simp, Nat.zero_le _, h0⟩, ?_⟩
  rintro i m σ' H' ⟨rfl, hi, p⟩
  by_cases hlt : i < xs.length
  · refine .inr ⟨⟨hl i σ' H' hi p, hlt⟩, fun x H2 y => ?_⟩
    obtain ⟨e, y⟩ := y
    subst e
    exact hs i x σ' _ (fun σ3 H3 => ∃ m', m' < xs.length - i ∧ m' = xs.length - (i + 1) ∧ i + 1 ≤ xs.length ∧ Pv (i + 1) σ3 H3) (fun σ3 H3 z => ⟨xs.length - (i + 1), by omega, rfl, hlt, z⟩) y p
  · have e : i = xs.length := by omega
    subst e
    exact .inl ⟨⟨hl _ σ' H' hi p, Nat.le_refl _⟩, hd σ' H' p⟩
/-! the order of wires and of names; the sorted list of data -/
def insK {α : Type} (lt : α → α → Bool) (x : α) : List α → List α
  | [] => [x]
  | y :: r => if lt y x = true then y :: insK lt x r else x :: y :: r
def srtK {α : Type} (lt : α → α → Bool) (l : List α) : List α := l.foldl (fun acc x => insK lt x acc) []
theorem insK_perm {α : Type} {lt : α → α → Bool} {x : α} : ∀ l : List α, (insK lt x l).Perm (x :: l)
  | [] => .refl _
  | y :: r => by
    unfold insK
    split
    · exact ((insK_perm r).cons y).trans (.swap x y r)
    · exact .refl _
theorem insK_pair {α : Type} {lt : α → α → Bool} {S : α → Prop} (tot : ∀ a b, S a → S b → lt a b = true → lt b a = false) (trn : ∀ a b c, S a → S b → S c → lt b a = false → lt c b = false → lt c a = false) {x : α} (hx : S x) :
    ∀ l : List α, (∀ y ∈ l, S y) → l.Pairwise (fun a b => lt b a = false) → (insK lt x l).Pairwise (fun a b => lt b a = false)
  | [], _, _ => List.pairwise_singleton _ _
  | y :: r, hl, h => by
    obtain ⟨h1, h2⟩ := List.pairwise_cons.mp h
    have hy := hl y List.mem_cons_self
    unfold insK
    split
    · rename_i c
      refine List.pairwise_cons.mpr ⟨fun z hz => ?_, insK_pair tot trn hx r (fun z hz => hl z (List.mem_cons_of_mem _ hz)) h2⟩
      rcases List.mem_cons.mp ((insK_perm r).mem_iff.mp hz) with rfl | hz
      · exact tot _ _ hy hx c
      · exact h1 z hz
    · rename_i c
      have c : lt y x = false := by simpa using c
      refine List.pairwise_cons.mpr ⟨fun z hz => ?_, h⟩
      rcases List.mem_cons.mp hz with rfl | hz
      · exact c
      · exact trn x y z hx hy (hl z (List.mem_cons_of_mem _ hz)) c (h1 z hz)
theorem srtK_go {α : Type} {lt : α → α → Bool} {S : α → Prop} (tot : ∀ a b, S a → S b → lt a b = true → lt b a = false) (trn : ∀ a b c, S a → S b → S c → lt b a = false → lt c b = false → lt c a = false) :
    ∀ (l acc : List α), (∀ y ∈ l, S y) → (∀ y ∈ acc, S y) → acc.Pairwise (fun a b => lt b a = false) → (l.foldl (fun acc x => insK lt x acc) acc).Perm (acc ++ l) ∧ (l.foldl (fun acc x => insK lt x acc) acc).Pairwise (fun a b => lt b a = false)
  | [], acc, _, _, h => ⟨by rw [List.append_nil]; exact .refl _, h⟩
  | x :: l, acc, hl, ha, h => by
    have hx := hl x List.mem_cons_self
    have := srtK_go tot trn l (insK lt x acc) (fun y hy => hl y (List.mem_cons_of_mem _ hy)) (fun y hy => (List.mem_cons.mp ((insK_perm acc).mem_iff.mp hy)).elim (fun e => e ▸ hx) (ha y)) (insK_pair tot trn hx acc ha h)
    refine ⟨this.1.trans (((insK_perm acc).append_right l).trans ?_), this.2⟩
    exact List.perm_middle.symm
def sD (ds : List PyData) : List PyData := srtK lesD ds
theorem ordD_sorted {ds : List PyData} (O : OrdD ds) : (sD ds).Perm ds ∧ (sD ds).Pairwise (fun a b => lesD b a = false) :=
  srtK_go (lt := lesD) (S := (· ∈ ds)) (fun a b ha hb => O.tot a ha b hb) (fun a b c ha hb hc => O.trn a ha b hb c hc) ds [] (fun _ h => h) (fun _ h => absurd h List.not_mem_nil) .nil
theorem ordD_uniq {ds es : List PyData} (O : OrdD ds) (ant : ∀ d ∈ ds, ∀ e ∈ ds, lesD d e = false → lesD e d = false → d = e) (hp : es.Perm ds) (hs : es.Pairwise (fun a b => lesD b a = false)) : es = sD ds :=
  List.Perm.eq_of_pairwise (le := fun a b => lesD b a = false) (fun a b ha hb h1 h2 => ant a (hp.mem_iff.mp ha) b ((ordD_sorted O).1.mem_iff.mp hb) h2 h1) hs (ordD_sorted O).2 (hp.trans (ordD_sorted O).1.symm)
theorem ord_key {α : Type} {κ : Type} [LT κ] [DecidableLT κ] (asy : ∀ a b : κ, a < b → ¬ b < a) (trn : ∀ a b c : κ, ¬ b < a → ¬ c < b → ¬ c < a) {key : α → κ} {f : α → PyData} (hk : ∀ x y, lesD (f x) (f y) = decide (key x < key y)) (ok : ∀ x y, okD (f x) (f y) = true) {l : List α} (kd : KindD (l.map f)) : OrdD (l.map f) where
  kd := kd
  ok := fun d hd e he => by
    obtain ⟨x, _, rfl⟩ := List.mem_map.mp hd
    obtain ⟨y, _, rfl⟩ := List.mem_map.mp he
    exact ok x y
  tot := fun d hd e he h => by
    obtain ⟨x, _, rfl⟩ := List.mem_map.mp hd
    obtain ⟨y, _, rfl⟩ := List.mem_map.mp he
    rw [hk, decide_eq_true_iff] at h
    rw [hk, decide_eq_false_iff_not]
    exact asy _ _ h
  trn := fun d hd e he g hg h1 h2 => by
    obtain ⟨x, _, rfl⟩ := List.mem_map.mp hd
    obtain ⟨y, _, rfl⟩ := List.mem_map.mp he
    obtain ⟨z, _, rfl⟩ := List.mem_map.mp hg
    rw [hk, decide_eq_false_iff_not] at h1 h2 ⊢
    exact trn _ _ _ h1 h2
def keyW (w : Wr) : List Int := [w.o, w.q, w.a, w.b]
theorem les_wr (v w : Wr) : lesD (wrD v) (wrD w) = decide (keyW v < keyW w) := by
  obtain ⟨o, q, a, b⟩ := v
  obtain ⟨o', q', a', b'⟩ := w
  simp only [wrD, keyW, lesD, lesDs, PyData.eqv, PyData.eqvAll, List.cons_lt_cons_iff]
  by_cases h1 : o = o' <;> by_cases h2 : q = q' <;> by_cases h3 : a = a' <;> by_cases h4 : b = b' <;> simp [h1, h2, h3, h4]
theorem wr_okD (v w : Wr) : okD (wrD v) (wrD w) = true := by
  simp [wrD, okD, okDs]
theorem ordW (ws : List Wr) : OrdD (ws.map wrD) := ord_key (κ := List Int) (fun a b h => List.lt_asymm h) (fun a b c h1 h2 => List.not_lt.mpr (List.le_trans (List.not_lt.mp h1) (List.not_lt.mp h2))) les_wr wr_okD (.rows fun d hd => by
  obtain ⟨w, _, rfl⟩ := List.mem_map.mp hd
  exact ⟨_, _, rfl⟩)
theorem antW (ws : List Wr) : ∀ d ∈ ws.map wrD, ∀ e ∈ ws.map wrD, lesD d e = false → lesD e d = false → d = e := by
  intro d hd e he h1 h2
  obtain ⟨v, _, rfl⟩ := List.mem_map.mp hd
  obtain ⟨w, _, rfl⟩ := List.mem_map.mp he
  rw [les_wr, decide_eq_false_iff_not] at h1 h2
  have k : keyW v = keyW w := List.le_antisymm (List.not_lt.mp h2) (List.not_lt.mp h1)
  obtain ⟨o, q, a, b⟩ := v
  obtain ⟨o', q', a', b'⟩ := w
  simp only [keyW, List.cons.injEq, and_true] at k
  obtain ⟨rfl, rfl, rfl, rfl⟩ := k
  rfl
def nmD (cs : List Nat) : PyData := .str (ofCodes cs)
theorem les_nm (m n : List Nat) : lesD (nmD m) (nmD n) = decide (m < n) := by
  simp [nmD, lesD, ofCodes]
theorem ordN (ns : List (List Nat)) : OrdD (ns.map nmD) := ord_key (κ := List Nat) (key := id) (fun a b h => List.lt_asymm h) (fun a b c h1 h2 => List.not_lt.mpr (List.le_trans (List.not_lt.mp h1) (List.not_lt.mp h2))) les_nm (fun x y => by simp [nmD, okD]) (.strs fun d hd => by
  obtain ⟨w, _, rfl⟩ := List.mem_map.mp hd
  exact ⟨_, rfl⟩)
theorem antN (ns : List (List Nat)) : ∀ d ∈ ns.map nmD, ∀ e ∈ ns.map nmD, lesD d e = false → lesD e d = false → d = e := by
  intro d hd e he h1 h2
  obtain ⟨v, _, rfl⟩ := List.mem_map.mp hd
  obtain ⟨w, _, rfl⟩ := List.mem_map.mp he
  rw [les_nm, decide_eq_false_iff_not] at h1 h2
  rw [show v = w from List.le_antisymm (List.not_lt.mp h2) (List.not_lt.mp h1)]
end
end K46
namespace K46
open PySem L2 PyProof.Rows
section
variable {P : Program} {w : World} {K : PySem.W.Frag} {mg : Str → Option Value} {base : Heap} {t : Ad}
/-! made_near, made_news -/
def NearOk (house : Int) (ws : List Wr) : Prop := (∀ w ∈ ws, WrOk w) ∧ ws.length ≤ 5 ∧ (ws.map (·.o)).Nodup ∧ house ∉ ws.map (·.o)
theorem nearOk_perm {house : Int} {ws vs : List Wr} (h : vs.Perm ws) : NearOk house vs ↔ NearOk house ws := by
  unfold NearOk
  rw [h.length_eq, (h.map (·.o)).nodup_iff, (h.map (·.o)).mem_iff]
  exact ⟨fun z => ⟨fun w hw => z.1 w (h.mem_iff.mpr hw), z.2⟩, fun z => ⟨fun w hw => z.1 w (h.mem_iff.mp hw), z.2⟩⟩
theorem WAt.same {K : PySem.W.Frag} {H H' : Hp} {v : V} {w : Wr} (h : WAt K H v w) (s : Same H H') : WAt K H' v w := IsDat.same h s
/-- wires at these places -/
def WsAt (K : PySem.W.Frag) (H : Hp) (zs : List (V × Wr)) : Prop := ∀ z ∈ zs, WAt K H z.1 z.2
theorem WsAt.same {K : PySem.W.Frag} {H H' : Hp} {zs : List (V × Wr)} (h : WsAt K H zs) (s : Same H H') : WsAt K H' zs := fun z hz => (h z hz).same s
theorem WsAt.tup {K : PySem.W.Frag} {H : Hp} {zs : List (V × Wr)} {a : Addr} (h : WsAt K H zs) (ha : SqT K H a (zs.map (·.1))) : IsDat K H 3 (.ref a) (.tuple (zs.map fun z => wrD z.2)) := by
  refine .tup ha (by simp) fun i x d e1 e2 => ?_
  rw [List.getElem?_map] at e1 e2
  cases e : zs[i]? with
  | none => rw [e] at e1; cases e1
  | some z => rw [e] at e1 e2; cases e1; cases e2; exact h z (List.mem_of_getElem? e)
theorem WsAt.lst {K : PySem.W.Frag} {H : Hp} {zs : List (V × Wr)} {a : Addr} (h : WsAt K H zs) (ha : SqL K H a (zs.map (·.1))) : IsDat K H 3 (.ref a) (.list (zs.map fun z => wrD z.2)) := by
  refine .lst ha (by simp) fun i x d e1 e2 => ?_
  rw [List.getElem?_map] at e1 e2
  cases e : zs[i]? with
  | none => rw [e] at e1; cases e1
  | some z => rw [e] at e1 e2; cases e1; cases e2; exact h z (List.mem_of_getElem? e)
/-- what comes of sorting pairs by their data -/
theorem perm_back {α β : Type} (g : α → β) {l m : List β} (h : l.Perm m) : ∀ zs : List α, m = zs.map g → ∃ us : List α, us.Perm zs ∧ l = us.map g := by
  induction h with
  | nil => intro zs e; cases zs with
    | nil => exact ⟨[], .refl _, rfl⟩
    | cons z r => cases e
  | cons x _ ih => intro zs e; cases zs with
    | nil => cases e
    | cons z r =>
      obtain ⟨e1, e2⟩ := List.cons.inj e
      obtain ⟨us, h1, h2⟩ := ih r e2
      exact ⟨z :: us, h1.cons z, by rw [List.map_cons, ← h2, e1]⟩
  | swap x y l => intro zs e; cases zs with
    | nil => cases e
    | cons z r => cases r with
      | nil => cases e
      | cons z2 r =>
        obtain ⟨e1, e2⟩ := List.cons.inj e
        obtain ⟨e3, e4⟩ := List.cons.inj e2
        exact ⟨z2 :: z :: r, .swap z z2 r, by rw [List.map_cons, List.map_cons, ← e4, e1, e3]⟩
  | trans _ _ ih1 ih2 =>
    intro zs e
    obtain ⟨us, h1, h2⟩ := ih2 zs e
    obtain ⟨vs, h3, h4⟩ := ih1 us h2
    exact ⟨vs, h3.trans h1, h4⟩
theorem kept_upd {H : Hp} {D : Addr} {xs : List V} {o : HO} (h : H D = some (.lst xs)) : Kept H (upd H D o) := fun a ys e => by
  have ne : a ≠ D := by
    rintro rfl
    rcases e with e | ⟨u, e⟩ <;> (rw [h] at e; cases e)
  rcases e with e | ⟨u, e⟩
  · exact .inl (by rw [upd_ne ne]; exact e)
  · exact .inr ⟨u, by rw [upd_ne ne]; exact e⟩
theorem noL_wr (w : Wr) : noL (wrD w) = true := by simp [wrD, noL, noLAll]
theorem WAt.kept {K : PySem.W.Frag} {H H' : Hp} {v : V} {w : Wr} (h : WAt K H v w) (k : Kept H H') : WAt K H' v w := IsDat.kept h k (noL_wr w)
theorem WsAt.kept {K : PySem.W.Frag} {H H' : Hp} {zs : List (V × Wr)} (h : WsAt K H zs) (k : Kept H H') : WsAt K H' zs := fun z hz => (h z hz).kept k
theorem int_keys (ns : List Int) : ns.map V.int = (ns.map Sum.inl).map kV := by rw [List.map_map]; rfl
theorem int_nodup {ns : List Int} : (ns.map (Sum.inl : Int → Key)).Nodup ↔ ns.Nodup := by
  unfold List.Nodup
  rw [List.pairwise_map]
  exact ⟨fun h => h.imp fun e z => e (by rw [z]), fun h => h.imp fun e z => e (Sum.inl.inj z)⟩
theorem in_ints' (n : Int) (ns : List Int) : inV (.int n) (ns.map V.int) = decide (n ∈ ns) := by
  unfold inV
  rw [Bool.eq_iff_iff, List.any_map, List.any_eq_true, decide_eq_true_iff]
  constructor
  · rintro ⟨x, hx, h⟩
    have : x = n := by simpa [eqV] using h
    exact this ▸ hx
  · intro h
    exact ⟨n, h, by simp [eqV]⟩
theorem flat_ints (ns : List Int) : (ns.map V.int).all flatV = true := by
  rw [List.all_map, List.all_eq_true]
  intro _ _
  rfl
def sp_made_near (K : PySem.W.Frag) (C : Addr) : Sp := fun vs H Q E => ∃ (b : Bool) (l : Addr) (zs : List (V × Wr)) (house : Int), vs = [.int house, .ref l] ∧ SqB b K H l (zs.map (·.1)) ∧ WsAt K H zs ∧ zs.length ≤ 50 ∧ (∀ z ∈ zs, WrS z.2) ∧
  (NearOk house (zs.map (·.2)) → ∀ (r : Addr) (H' : Hp), Same H H' → IsDat K H' 3 (.ref r) (.tuple (sD ((zs.map (·.2)).map wrD))) → Q (.ref r) H') ∧ (¬ NearOk house (zs.map (·.2)) → ∀ H', Same H H' → E (.ref C) none H')
theorem sc_made_near : FnScope ["house", "near", "wires", "others"] ["house", "near"] (defScope s_made_near) := ⟨rfl, rfl, rfl, by decide +kernel, rfl, by decide +kernel, by decide +kernel⟩
set_option maxHeartbeats 1000000 in
theorem ok_made_near (F : Site K mg "made_near" s_made_near) (T : Txt K mg t) (D_made_wire : Def P w K mg base 3 "made_wire" ["wire"] (sp_made_wire K t.BadNews)) (D_look_unlike : Def P w K mg base 1 "look_unlike" ["things", "most"] (sp_look_unlike K t.BadNews)) : Def P w K mg base 4 "made_near" ["house", "near"] (sp_made_near K t.BadNews) := by
  refine F.def sc_made_near (fun _ _ _ _ _ _ us hl => match us, hl with | [_, _], _ => rfl) (fun vs H Q E h => ?_) (fun f cdv A outer s H vs Q E hr h => ?_)
  · obtain ⟨b, l, zs, house, rfl, _⟩ := h
    rfl
  · obtain ⟨b, l, zs, house, rfl, hl, hw, hn, hs, q1, q2⟩ := h
    refine ⟨_, pss_cons (ps_set (i := 2) sc_made_near.nd rfl (Or.inl rfl) (pe_callB (call_sorted K (hu16 hr)) (by rfl) T.n_sorted boot_sorted (pa_cons (pe_lcX cx1_body rfl (Nc := ["wire"]) (ix := [none]) (cscope (defScope s_made_near) ["house", "near", "wires", "others"] rfl rfl (by decide +kernel)) (pi_seqK K (pv 1)) (fun C fp s H => ⟨(pg_name (i := 0) (show (["wire"] : List Str).Nodup by decide +kernel) rfl (Or.inl rfl)), pts_nil, (pe_def (D_made_wire.mono (by decide)) hr passX (pa_cons (pv 0) pa_nil))⟩)) pa_nil)))
      (pss_cons (ps_setLC (i := 3) sc_made_near.nd rfl (Or.inl rfl) rfl (Nc := ["wire"]) (ix := [none]) (cscope (defScope s_made_near) ["house", "near", "wires", "others"] rfl rfl (by decide +kernel)) (pi_listK K (pv 2)) (fun C fp s H => ⟨(pg_name (i := 0) (show (["wire"] : List Str).Nodup by decide +kernel) rfl (Or.inl rfl)), pts_nil, (pe_ix (ix_tupK K) (pv 0) pe_int (fun _ _ => rfl))⟩))
      (pss_cons (ps_expr (pe_def (D_look_unlike.mono (by decide)) hr (pass1 cx1_body) (pa_cons (pv 3) (pa_cons (pe_gint T.cMOST_NEAR) pa_nil))))
      (pss_cons (ps_if (pt_cmpR op_in_seq (pv 0) (pv 3) (by rfl))
        (pss_one (ps_raise cx1_body rfl rfl T.mBadNews T.xBadNews PySem.F.excBase_ValueError (pa_cons pe_str pa_nil)))
        (pss_nil))
      (pss_one (ps_ret (pe_callTy (call_tupleK K) (by rfl) T.n_tuple boot_tuple (pa_cons (pv 2) pa_nil))))))), ?_⟩
    have hsz : (2000 : Nat) ≤ sizeLine := by decide
    refine ⟨_, rfl, b, l, _, rfl, hl, fun D hD => ?_⟩
    refine lc_seq (b := b) (K := K) (a := l) (xs := zs.map (·.1)) (fun i σ H' => ∃ (v : Option V) (us : List (V × Wr)), σ = [v] ∧ Same H H' ∧ H' D = some (.lst (us.map (·.1))) ∧ WsAt K H' us ∧ us.map (·.2) = (zs.take i).map (·.2) ∧ ∀ z ∈ zs.take i, WrOk z.2)
      ⟨none, [], rfl, (Same.refl _).new hD, upd_same, fun z hz => absurd hz List.not_mem_nil, rfl, fun z hz => absurd hz List.not_mem_nil⟩ (fun i σ H' _ ⟨_, _, _, s1, _⟩ => hl.same s1) ?_ ?_
    · rintro i x σ H' N hN hi ⟨v, us, rfl, s1, e1, hu, hu2, hg⟩
      rw [List.getElem?_map] at hi
      cases ez : zs[i]? with
      | none => rw [ez] at hi; cases hi
      | some z =>
        rw [ez] at hi
        obtain rfl : z.1 = x := Option.some.inj hi
        have hm : z ∈ zs := List.mem_of_getElem? ez
        have hi2 : i < zs.length := (List.getElem?_eq_some_iff.mp ez).1
        refine turn_do ?_
        refine ⟨_, rfl, z.1, z.2, rfl, (hw z hm).same s1, hs z hm, fun g r H2 s2 wa => ?_, fun g => ?_⟩
        · have hu1 : us.length = i := by
            have := congrArg List.length hu2
            rw [List.length_map, List.length_map, List.length_take] at this
            omega
          refine ⟨_, s2 _ _ e1, by rw [List.length_map]; omega, hN _ _ ⟨_, us ++ [(.ref r, z.2)], rfl, (s1.trans s2).put hD, by rw [upd_same, List.map_append]; rfl, fun y hy => ?_, ?_, fun y hy => ?_⟩⟩
          · have kp := kept_upd (o := .lst (us.map (·.1) ++ [V.ref r])) (s2 _ _ e1)
            rcases List.mem_append.mp hy with h | h
            · exact ((hu y h).same s2).kept kp
            · rw [List.mem_singleton.mp h]; exact wa.kept kp
          · rw [take_succ ez, List.map_append, List.map_append, hu2]; rfl
          · rw [take_succ ez] at hy
            rcases List.mem_append.mp hy with h | h
            · exact hg y h
            · rw [List.mem_singleton.mp h]; exact g
        · exact q2 (fun z' => g (z'.1 _ (List.mem_map.mpr ⟨z, hm, rfl⟩))) _ s1
    · rintro σ H' ⟨v, us, rfl, s1, e1, hu, hu2, hg⟩
      rw [List.length_map] at hu2 hg
      rw [List.take_length] at hu2 hg
      have hul : us.length = zs.length := by
        have := congrArg List.length hu2
        rwa [List.length_map, List.length_map] at this
      refine ⟨true, D, us.map fun z => (z.1, wrD z.2), rfl, by rw [List.map_map]; exact SqL.of e1, by rw [List.length_map]; omega, fun y hy => ?_, ?_, fun ys r hp hsr hr2 => ?_⟩
      · obtain ⟨z, hz, rfl⟩ := List.mem_map.mp hy
        exact IsDat.up (hu z hz) (by decide)
      · have := ordW (us.map (·.2))
        rw [List.map_map] at this ⊢
        exact this
      obtain ⟨vs, hv1, rfl⟩ := perm_back (fun z : V × Wr => (z.1, wrD z.2)) hp us rfl
      have hvl : vs.length = zs.length := hv1.length_eq.trans hul
      have hvp : (vs.map (·.2)).Perm (zs.map (·.2)) := by rw [← hu2]; exact hv1.map _
      have es : vs.map (fun z => wrD z.2) = sD ((zs.map (·.2)).map wrD) := by
        refine ordD_uniq (ordW _) (antW _) ?_ ?_
        · have := hvp.map wrD
          rw [List.map_map] at this
          exact this
        · rw [List.pairwise_map] at hsr ⊢
          exact hsr
      have s2 := s1.new (o := .lst ((vs.map fun z => (z.1, wrD z.2)).map (·.1))) hr2
      have e2 : (upd H' r (.lst ((vs.map fun z => (z.1, wrD z.2)).map (·.1)))) r = some (.lst (vs.map (·.1))) := by rw [upd_same, List.map_map]; rfl
      have hv2 : WsAt K (upd H' r (.lst ((vs.map fun z => (z.1, wrD z.2)).map (·.1)))) vs := fun z hz => (hu z (hv1.mem_iff.mp hz)).same ((Same.refl H').new hr2)
      generalize upd H' r (.lst ((vs.map fun z => (z.1, wrD z.2)).map (·.1))) = H1 at s2 e2 hv2 ⊢
      refine ⟨_, rfl, r, rfl, ⟨_, SqL.of e2⟩, fun D2 hD2 => ?_⟩
      refine lc_list (K := K) (a := r) (xs := vs.map (·.1)) (fun i σ H2 => ∃ v : Option V, σ = [v] ∧ Same H1 H2 ∧ H2 D2 = some (.lst (((vs.take i).map (·.2.o)).map V.int))) ⟨none, rfl, (Same.refl _).new hD2, upd_same⟩ (fun i σ H2 _ ⟨_, _, s3, _⟩ => SqL.of (s3 _ _ e2)) ?_ ?_
      · rintro i x σ H2 N hN hi ⟨v, rfl, s3, e3⟩
        rw [List.getElem?_map] at hi
        cases ez : vs[i]? with
        | none => rw [ez] at hi; cases hi
        | some z =>
          rw [ez] at hi
          obtain rfl : z.1 = x := Option.some.inj hi
          have hm : z ∈ vs := List.mem_of_getElem? ez
          have hi2 : i < vs.length := (List.getElem?_eq_some_iff.mp ez).1
          obtain ⟨a, p, ea, h1, h2⟩ := ((hv2 z hm).same s3).out
          refine turn_do ?_
          refine ⟨_, rfl, a, _, _, _, ea, rfl, h1, rfl, _, e3, by rw [List.length_map, List.length_map, List.length_take]; omega, hN _ _ ⟨_, rfl, s3.put hD2, ?_⟩⟩
          rw [upd_same, take_succ ez, List.map_append, List.map_append]
          rfl
      · rintro σ H2 ⟨v, rfl, s3, e3⟩
        rw [List.length_map, List.take_length] at e3
        have eo : vs.map (·.2.o) = (vs.map (·.2)).map (·.o) := by rw [List.map_map]; rfl
        rw [eo] at e3
        have hNO := nearOk_perm (house := house) hvp
        have all : ∀ x ∈ vs.map (·.2), WrOk x := fun x hx => by
          have := hvp.mem_iff.mp hx
          obtain ⟨z, hz, rfl⟩ := List.mem_map.mp this
          exact hg z hz
        have hlen : ((vs.map (·.2)).map (·.o)).length = zs.length := by rw [List.length_map, List.length_map]; exact hvl
        refine ⟨_, rfl, true, D2, ((vs.map (·.2)).map (·.o)).map Sum.inl, 5, rfl, by rw [← int_keys]; exact SqL.of e3, by rw [List.length_map]; omega, by decide, by decide, ?_, ?_⟩
        · rw [List.length_map, int_nodup]
          rintro ⟨k1, k2⟩ H3 s4
          refine ⟨_, rfl, _, rfl, D2, _, rfl, .inl (SqL.of (s4 _ _ e3)), rfl, flat_ints _, _, rfl, ?_⟩
          show if (inV (.int house) (((vs.map (·.2)).map (·.o)).map V.int)) = true then _ else _
          rw [in_ints']
          by_cases hh : house ∈ (vs.map (·.2)).map (·.o)
          · refine iteY hh ?_
            exact ⟨by show 1 ≤ sizeLine; decide, q2 (fun z => (hNO.mpr z).2.2.2 hh) _ (s2.trans (s3.trans s4))⟩
          · refine iteN hh ?_
            refine ⟨_, rfl, r, _, rfl, .inl ⟨SqL.of (s4 _ _ (s3 _ _ e2)), fun p hp2 => ?_⟩⟩
            have s5 := (Same.refl H3).new (o := .tup (vs.map (·.1))) hp2
            refine q1 (hNO.mp ⟨all, by rw [List.length_map]; rw [List.length_map, List.length_map] at k1; omega, k2, hh⟩) p _ ((s2.trans (s3.trans s4)).trans s5) ?_
            rw [← es]
            exact WsAt.tup (hv2.same ((s3.trans s4).trans s5)) (.inl (.inl upd_same))
        · rw [List.length_map, int_nodup]
          intro hb H3 s4
          exact q2 (fun z => hb (by
            have := hNO.mpr z
            exact ⟨by have := this.2.1; rw [List.length_map] at this ⊢; rw [List.length_map]; omega, this.2.2.1⟩)) _ (s2.trans (s3.trans s4))
/-! made_news -/
structure Nw where
  h : Int
  n : Int
  near : List Wr
  names : List (List Nat)
def NwOk (N : Nw) : Prop := Hse N.h ∧ (0 ≤ N.n ∧ N.n ≤ 900000) ∧ NearOk N.h N.near ∧ NmsOk N.names
def nwD (N : Nw) : PyData := .tuple [.int N.h, .int N.n, .tuple (sD (N.near.map wrD)), .tuple (sD (N.names.map nmD))]
def sp_made_news (K : PySem.W.Frag) (C : Addr) : Sp := fun vs H Q E => ∃ (b c : Bool) (l m : Addr) (zs : List (V × Wr)) (N : Nw), vs = [.int N.h, .int N.n, .ref l, .ref m] ∧ SqB b K H l (zs.map (·.1)) ∧ WsAt K H zs ∧ zs.map (·.2) = N.near ∧ SqB c K H m (N.names.map nmV) ∧
  Sml N.h ∧ Sml N.n ∧ zs.length ≤ 50 ∧ (∀ z ∈ zs, WrS z.2) ∧ N.names.length ≤ 60 ∧ (∀ n ∈ N.names, Asc7 n ∧ (NmOk n ∨ (reprText (ofCodes n)).length ≤ 1000)) ∧
  (NwOk N → ∀ (r : Addr) (H' : Hp), Same H H' → IsDat K H' 4 (.ref r) (nwD N) → Q (.ref r) H') ∧ (¬ NwOk N → ∀ H', Same H H' → E (.ref C) none H')
theorem strOk_nm {n : List Nat} (h : ∀ c ∈ n, c < 128) : PyData.strOk (ofCodes n) = true := by
  unfold PyData.strOk ofCodes
  simp only [List.all_toArray, List.all_eq_true, decide_eq_true_eq]
  intro c hc
  have := h c hc
  omega
theorem sc_made_news : FnScope ["house", "number", "near", "names"] ["house", "number", "near", "names"] (defScope s_made_news) := ⟨rfl, rfl, rfl, by decide +kernel, rfl, by decide +kernel, by decide +kernel⟩
set_option maxHeartbeats 1000000 in
theorem ok_made_news (F : Site K mg "made_news" s_made_news) (T : Txt K mg t) (D_look_house : Def P w K mg base 2 "look_house" ["number"] (sp_look_house t.BadNews)) (D_look_bounds : Def P w K mg base 1 "look_bounds" ["number", "least", "most"] (sp_look_bounds t.BadNews)) (D_look_names : Def P w K mg base 2 "look_names" ["names"] (sp_look_names K t.BadNews)) (D_made_near : Def P w K mg base 4 "made_near" ["house", "near"] (sp_made_near K t.BadNews)) : Def P w K mg base 5 "made_news" ["house", "number", "near", "names"] (sp_made_news K t.BadNews) := by
  refine F.def sc_made_news (fun _ _ _ _ _ _ us hl => match us, hl with | [_, _, _, _], _ => rfl) (fun vs H Q E h => ?_) (fun f cdv A outer s H vs Q E hr h => ?_)
  · obtain ⟨b, c, l, m, zs, N, rfl, _⟩ := h
    rfl
  · obtain ⟨b, c, l, m, zs, N, rfl, hl, hw, hzn, hm, sh, sn, hz, hs, hnl, hna, q1, q2⟩ := h
    refine ⟨_, pss_cons (ps_expr (pe_def (D_look_house.mono (by decide)) hr (pass1 cx1_body) (pa_cons (pv 0) pa_nil)))
      (pss_cons (ps_expr (pe_def (D_look_bounds.mono (by decide)) hr (pass1 cx1_body) (pa_cons (pv 1) (pa_cons pe_int (pa_cons (pe_gint T.cMOST_NUMBER) pa_nil)))))
      (pss_cons (ps_expr (pe_def (D_look_names.mono (by decide)) hr (pass1 cx1_body) (pa_cons (pv 3) pa_nil)))
      (pss_one (ps_ret (pe_tup (pa_cons (pv 0) (pa_cons (pv 1) (pa_cons (pe_def (D_made_near.mono (by decide)) hr (pass1 cx1_body) (pa_cons (pv 0) (pa_cons (pv 2) pa_nil))) (pa_cons (pe_callTy (call_tupleK K) (by rfl) T.n_tuple boot_tuple (pa_cons (pe_callB (call_sorted K (hu16 hr)) (by rfl) T.n_sorted boot_sorted (pa_cons (pv 3) pa_nil)) pa_nil)) pa_nil))))))))), ?_⟩
    have hsz : (2000 : Nat) ≤ sizeLine := by decide
    refine ⟨_, rfl, N.h, rfl, sh, fun g1 => ?_, fun g1 => q2 (fun z => g1 z.1) H (Same.refl _)⟩
    refine ⟨_, rfl, N.n, 0, 900000, rfl, sn, .of (by decide) (by decide), .of (by decide) (by decide), fun g2 => ?_, fun g2 => q2 (fun z => g2 z.2.1) H (Same.refl _)⟩
    refine ⟨_, rfl, c, m, N.names, rfl, hm, by omega, hna, fun g3 H1 s1 => ?_, fun g3 H1 s1 => q2 (fun z => g3 z.2.2.2) H1 s1⟩
    refine ⟨_, rfl, _, rfl, _, rfl, _, rfl, b, l, zs, N.h, rfl, hl.same s1, hw.same s1, hz, hs, fun g4 r H2 s2 d2 => ?_, fun g4 H2 s2 => q2 (fun z => g4 (by rw [hzn]; exact z.2.2.1)) H2 (s1.trans s2)⟩
    rw [hzn] at g4 d2
    have hm2 := (hm.same s1).same s2
    refine ⟨_, rfl, c, m, N.names.map fun n => (nmV n, nmD n), rfl, by rw [List.map_map]; exact hm2, by rw [List.length_map]; omega, fun y hy => ?_, by have := ordN N.names; rw [List.map_map]; exact this, fun ys p hp hsr hp2 => ?_⟩
    · obtain ⟨n, hn, rfl⟩ := List.mem_map.mp hy
      exact .str _ (strOk_nm (hna n hn).1.2)
    obtain ⟨us, hu1, rfl⟩ := perm_back (fun n => (nmV n, nmD n)) hp N.names rfl
    have es : us.map nmD = sD (N.names.map nmD) := by
      refine ordD_uniq (ordN _) (antN _) (hu1.map _) ?_
      rw [List.pairwise_map] at hsr ⊢
      exact hsr
    have hul : us.length ≤ 60 := by rw [hu1.length_eq]; exact hnl
    have s3 := (Same.refl H2).new (o := .lst ((us.map fun n => (nmV n, nmD n)).map (·.1))) hp2
    have e3 : (upd H2 p (.lst ((us.map fun n => (nmV n, nmD n)).map (·.1)))) p = some (.lst (us.map nmV)) := by rw [upd_same, List.map_map]; rfl
    generalize upd H2 p (.lst ((us.map fun n => (nmV n, nmD n)).map (·.1))) = H3 at s3 e3 ⊢
    refine ⟨p, _, rfl, .inl ⟨SqL.of e3, fun x hx => ?_⟩⟩
    have s4 := (Same.refl H3).new (o := .tup (us.map nmV)) hx
    have d4 : IsDat K (upd H3 x (.tup (us.map nmV))) 3 (.ref x) (.tuple (sD (N.names.map nmD))) := by
      rw [← es]
      refine .tup (.inl (.inl upd_same)) (by simp) fun i y d e1 e2 => ?_
      rw [List.getElem?_map] at e1 e2
      cases e : us[i]? with
      | none => rw [e] at e1; cases e1
      | some n =>
        rw [e] at e1 e2; cases e1; cases e2
        exact .str _ (strOk_nm (hna n (hu1.mem_iff.mp (List.mem_of_getElem? e))).1.2)
    have d5 := (d2.same s3).same s4
    generalize upd H3 x (.tup (us.map nmV)) = H4 at s4 d4 d5 ⊢
    refine ⟨by show 4 ≤ sizeLine; decide, fun y hy => ?_⟩
    have s5 := (Same.refl H4).new (o := .tup [.int N.h, .int N.n, .ref r, .ref x]) hy
    refine q1 ⟨g1, g2, g4, g3⟩ y _ ((((s1.trans s2).trans s3).trans s4).trans s5) ?_
    refine .tup (.inl (.inl upd_same)) rfl fun i v d e1 e2 => ?_
    match i with
    | 0 => cases e1; cases e2; exact .int _
    | 1 => cases e1; cases e2; exact .int _
    | 2 => cases e1; cases e2; exact d5.same s5
    | 3 => cases e1; cases e2; exact d4.same s5
    | i + 4 => simp at e1
end
end K46
namespace K46
open PySem L2 PyProof.Rows
section
variable {P : Program} {w : World} {K : PySem.W.Frag} {mg : Str → Option Value} {base : Heap} {t : Ad}
/-! _law_name -/
def abc : Str := "abcdefghijklmnopqrstuvwxyz"
theorem abc_at : ∀ j : Nat, j < 26 → atI abc.cps.toList (j : Int) = some (97 + j) := by decide +kernel
theorem abc_mod (x : Int) : ∃ c, Let c ∧ atI abc.cps.toList (x % 26) = some c := by
  have h0 : 0 ≤ x % 26 := Int.emod_nonneg _ (by decide)
  have h1 : x % 26 < 26 := Int.emod_lt_of_pos _ (by decide)
  obtain ⟨j, hj⟩ : ∃ j : Nat, x % 26 = j := ⟨(x % 26).toNat, by omega⟩
  rw [hj]
  exact ⟨97 + j, ⟨by omega, by omega⟩, abc_at j (by omega)⟩
def sp__law_name : Sp := fun vs H Q _ => ∃ n : Int, vs = [.int n] ∧ 0 ≤ n ∧ n ≤ 10000000 ∧ ∀ cs, NmOk cs → Q (nmV cs) H
theorem sc__law_name : FnScope ["number", "letters", "name", "k"] ["number"] (defScope s__law_name) := ⟨rfl, rfl, rfl, by decide +kernel, rfl, by decide +kernel, by decide +kernel⟩
theorem ok__law_name (F : Site K mg "_law_name" s__law_name) (T : Txt K mg t) : Def P w K mg base 1 "_law_name" ["number"] sp__law_name := by
  refine F.def sc__law_name (fun _ _ _ _ _ _ us hl => match us, hl with | [_], _ => rfl) (fun vs H Q E h => ?_) (fun f cdv A outer s H vs Q E hr h => ?_)
  · obtain ⟨n, rfl, _⟩ := h
    rfl
  · obtain ⟨n, rfl, n0, n1, q⟩ := h
    refine ⟨_, pss_cons (ps_set (i := 1) sc__law_name.nd rfl (Or.inl rfl) pe_str)
      (pss_cons (ps_set (i := 2) sc__law_name.nd rfl (Or.inl rfl) (pe_ix ix_str (pv 1) (pe_op op_mod (pv 0) pe_int) (fun _ _ => rfl)))
      (pss_cons (PS.nox (ps_for PassesOwn.never rfl (pi_range1 (by rfl) T.n_range (pa_cons (pe_op op_mod (pe_op op_fdiv (pv 0) pe_int) pe_int) pa_nil)) (pg_name (i := 3) sc__law_name.nd rfl (Or.inl rfl))
        (pss_one (ps_set (i := 2) sc__law_name.nd rfl (Or.inl rfl) (pe_op op_add_str (pv 2) (pe_ix ix_str (pv 1) (pe_op op_mod (pe_op op_add (pe_op op_fdiv (pv 0) pe_int) (pe_op op_mul (pe_op op_mul pe_int (pv 3)) (pv 3))) pe_int) (fun _ _ => rfl)))))))
      (pss_one (ps_ret (pv 2))))), ?_⟩
    have hsz : (2000 : Nat) ≤ sizeLine := by decide
    have hal : abc.length ≤ sizeLine := by decide +kernel
    obtain ⟨c0, l0, a0⟩ := abc_mod n
    refine ⟨_, rfl, _, rfl, _, _, rfl, rfl, (by show (0 : Int) < 26; decide), abc, _, c0, rfl, rfl, hal, a0, ?_⟩
    have m0 : 0 ≤ n / 26 % 4 := Int.emod_nonneg _ (by decide)
    have m1 : n / 26 % 4 < 4 := Int.emod_lt_of_pos _ (by decide)
    refine ⟨_, rfl, _, _, rfl, rfl, ⟨by decide, by decide⟩, _, _, rfl, rfl, (by show (0 : Int) < 4; decide), _, rfl, by omega, by omega, ?_⟩
    refine for_range (lo := 0) (n := (n / 26 % 4).toNat) (fun i σ H' => ∃ (cs : List Nat) (v : Option V), σ = [some (.int n), some (.str abc), some (nmV cs), v] ∧ H' = H ∧ cs.length = i + 1 ∧ ∀ c ∈ cs, Let c) ⟨[c0], none, rfl, rfl, rfl, fun c hc => by rw [List.mem_singleton.mp hc]; exact l0⟩ ?_ ?_
    · rintro i σ H' hi ⟨cs, v, rfl, rfl, hl, hc⟩
      obtain ⟨c, lc, ac⟩ := abc_mod (n / 104 + 7 * (0 + (i : Int)) * (0 + (i : Int)))
      refine ⟨_, rfl, _, rfl, _, rfl, _, _, rfl, rfl, ⟨by decide, by decide⟩, _, rfl, _, _, rfl, rfl, .inl ⟨by decide, by decide⟩, _, rfl, _, _, rfl, rfl, .inr ⟨by omega, by omega⟩, _, _, rfl, rfl, _, _, rfl, rfl, (by show (0 : Int) < 26; decide), abc, _, c, rfl, rfl, hal, ac, ?_⟩
      have e : ofCodes cs ++ (⟨#[c]⟩ : Str) = ofCodes (cs ++ [c]) := ofCodes_append cs [c]
      refine ⟨_, _, rfl, rfl, by rw [ofCodes_length]; show _ + 1 ≤ _; omega, ?_⟩
      rw [e]
      refine ⟨cs ++ [c], _, rfl, rfl, by rw [List.length_append, hl]; rfl, fun x hx => ?_⟩
      rcases List.mem_append.mp hx with z | z
      · exact hc x z
      · rw [List.mem_singleton.mp z]; exact lc
    · rintro σ H' ⟨cs, v, rfl, rfl, hl, hc⟩
      exact ⟨_, rfl, q cs ⟨⟨by omega, by omega⟩, hc⟩⟩
end
end K46
namespace K46
open PySem L2 PyProof.Rows
section
variable {P : Program} {w : World} {K : PySem.W.Frag} {mg : Str → Option Value} {base : Heap} {t : Ad}
/-! _law_near -/
def bndW : List Int := [6, 31, 10, 4, 4, 9000, 31, 10, 4, 4, 9000, 31, 10, 4, 4, 9000, 31, 10, 4, 4, 9000, 31, 10, 4, 4, 9000]
theorem bndW_pos : ∀ b ∈ bndW, 0 < b ∧ b ≤ 1000000 := by decide
theorem bndW_at : ∀ k : Nat, k < 5 → bndW[1 + 5 * k]? = some 31 ∧ bndW[1 + 5 * k + 1]? = some 10 ∧ bndW[1 + 5 * k + 2]? = some 4 ∧ bndW[1 + 5 * k + 3]? = some 4 ∧ bndW[1 + 5 * k + 4]? = some 9000 := by decide
theorem five {α : Type} {l : List α} {i : Nat} (h : i + 5 ≤ l.length) : ∃ a b c d e, (l.drop i).take 5 = [a, b, c, d, e] ∧ l[i]? = some a ∧ l[i + 1]? = some b ∧ l[i + 2]? = some c ∧ l[i + 3]? = some d ∧ l[i + 4]? = some e := by
  refine ⟨l[i], l[i + 1], l[i + 2], l[i + 3], l[i + 4], ?_, by simp, by simp, by simp, by simp, by simp⟩
  refine List.ext_getElem (by simp; omega) fun j h1 h2 => ?_
  match j, h2 with
  | 0, _ => simp
  | 1, _ => simp
  | 2, _ => simp
  | 3, _ => simp
  | 4, _ => simp
  | j + 5, h2 => exact absurd h2 (by simp)
theorem pick4 {x f : Int} (h0 : 0 ≤ x) (h1 : x < 4) (f0 : 0 ≤ f) (f1 : f < 9000) : ∃ v : Int, atI [V.int 1, V.int 2, V.int 9000, V.int (1 + f)] x = some (.int v) ∧ 1 ≤ v ∧ v ≤ 9000 := by
  have : x = 0 ∨ x = 1 ∨ x = 2 ∨ x = 3 := by omega
  rcases this with rfl | rfl | rfl | rfl
  · exact ⟨1, rfl, by decide, by decide⟩
  · exact ⟨2, rfl, by decide, by decide⟩
  · exact ⟨9000, rfl, by decide, by decide⟩
  · exact ⟨1 + f, rfl, by omega, by omega⟩
def sp__law_near (K : PySem.W.Frag) : Sp := fun vs H Q _ => ∃ c house : Int, vs = [.int c, .int house] ∧ Hse house ∧ ∀ (r : Addr) (H' : Hp) (zs : List (V × Wr)), Same H H' → H r = none → H' r = some (.lst (zs.map (·.1))) → WsAt K H' zs → NearOk house (zs.map (·.2)) → Q (.ref r) H'
theorem sc__law_near : FnScope ["cell", "house", "draws", "near", "k", "other", "quiet", "one", "two", "far", "pair"] ["cell", "house"] (defScope s__law_near) := ⟨rfl, rfl, rfl, by decide +kernel, rfl, by decide +kernel, by decide +kernel⟩
set_option maxHeartbeats 2000000 in
theorem ok__law_near (F : Site K mg "_law_near" s__law_near) (T : Txt K mg t) (D__law_drawn : Def P w K mg base 2 "_law_drawn" ["cell", "bounds"] (sp__law_drawn K)) : Def P w K mg base 3 "_law_near" ["cell", "house"] (sp__law_near K) := by
  refine F.def sc__law_near (fun _ _ _ _ _ _ us hl => match us, hl with | [_, _], _ => rfl) (fun vs H Q E h => ?_) (fun f cdv A outer s H vs Q E hr h => ?_)
  · obtain ⟨c, house, rfl, _⟩ := h
    rfl
  · obtain ⟨c, house, rfl, hh, q⟩ := h
    refine ⟨_, pss_cons (ps_set (i := 2) sc__law_near.nd rfl (Or.inl rfl) (pe_def (D__law_drawn.mono (by decide)) hr passN (pa_cons (pv 0) (pa_cons (pe_op (op_catK K) (pe_lst (pa_cons pe_int pa_nil)) (pe_op op_rep (pe_lst (pa_cons pe_int (pa_cons pe_int (pa_cons pe_int (pa_cons pe_int (pa_cons pe_int pa_nil)))))) pe_int)) pa_nil))))
      (pss_cons (ps_set (i := 3) sc__law_near.nd rfl (Or.inl rfl) (pe_lst pa_nil))
      (pss_cons (PS.nox (ps_for PassesOwn.never rfl (pi_range1 (by rfl) T.n_range (pa_cons (pe_ix (ix_listK K) (pv 2) pe_int (fun _ _ => rfl)) pa_nil)) (pg_name (i := 4) sc__law_near.nd rfl (Or.inl rfl))
        (pss_cons (ps_asg (pe_slice (sl_listK K) (pv 2) (po_some (pe_op op_add pe_int (pe_op op_mul pe_int (pv 4)))) (po_some (pe_op op_add pe_int (pe_op op_mul pe_int (pv 4))))) (pg_tupL K rfl (pgs_cons (pg_name (i := 5) sc__law_near.nd rfl (Or.inl rfl)) (pgs_cons (pg_name (i := 6) sc__law_near.nd rfl (Or.inl rfl)) (pgs_cons (pg_name (i := 7) sc__law_near.nd rfl (Or.inl rfl)) (pgs_cons (pg_name (i := 8) sc__law_near.nd rfl (Or.inl rfl)) (pgs_cons (pg_name (i := 9) sc__law_near.nd rfl (Or.inl rfl)) pgs_nil)))))))
        (pss_cons (ps_set (i := 5) sc__law_near.nd rfl (Or.inl rfl) (pe_op op_mod (pe_op op_add (pe_op op_add (pv 1) pe_int) (pv 5)) pe_int))
        (pss_cons (ps_set (i := 10) sc__law_near.nd rfl (Or.inl rfl) (pe_tup (pa_cons (pe_ix (ix_listK K) (pe_lst (pa_cons pe_int (pa_cons pe_int (pa_cons pe_int (pa_cons (pe_op op_add pe_int (pv 9)) pa_nil))))) (pv 7) (fun _ _ => rfl)) (pa_cons (pe_ix (ix_listK K) (pe_lst (pa_cons pe_int (pa_cons pe_int (pa_cons pe_int (pa_cons (pe_op op_add pe_int (pv 9)) pa_nil))))) (pv 8) (fun _ _ => rfl)) pa_nil))))
        (pss_one (ps_if (pt_cmpR op_notIn_seq (pv 5) (pe_lc rfl (Nc := ["wire"]) (ix := [none]) (cscope (defScope s__law_near) ["cell", "house", "draws", "near", "k", "other", "quiet", "one", "two", "far", "pair"] rfl rfl (by decide +kernel)) (pi_listK K (pv 3)) (fun C fp s H => ⟨(pg_name (i := 0) (show (["wire"] : List Str).Nodup by decide +kernel) rfl (Or.inl rfl)), pts_nil, (pe_ix (ix_tupK K) (pv 0) pe_int (fun _ _ => rfl))⟩)) (by rfl))
          (pss_one (ps_expr (pe_bmK K PySem.F.plainAttrs_list PySem.F.slot_list_append PySem.F.type_list_append mt_append (pv 3) (pa_cons (pe_tup (pa_cons (pv 5) (pa_cons (pe_op op_add pe_int (pv 6)) (pa_cons (pv 10) pa_nil)))) pa_nil))))
          (pss_nil))))))))
      (pss_one (ps_ret (pv 3))))), ?_⟩
    have hsz : (2000 : Nat) ≤ sizeLine := by decide
    refine ⟨_, rfl, by show 1 ≤ sizeLine; decide, fun p1 hp1 => ⟨by show 5 ≤ sizeLine; decide, fun p2 hp2 => ⟨p2, 5, _, rfl, rfl, upd_same, by decide, by decide, by decide, fun p3 hp3 => ?_⟩⟩⟩
    have s3 := (((Same.refl H).new (o := .lst [.int 6]) hp1).new (o := .lst [.int 31, .int 10, .int 4, .int 4, .int 9000]) hp2).new (o := .lst (List.replicate (5 : Int).toNat [V.int 31, .int 10, .int 4, .int 4, .int 9000]).flatten) hp3
    have e1 : (upd (upd (upd H p1 (.lst [.int 6])) p2 (.lst [.int 31, .int 10, .int 4, .int 4, .int 9000])) p3 (.lst (List.replicate (5 : Int).toNat [V.int 31, .int 10, .int 4, .int 4, .int 9000]).flatten)) p1 = some (.lst [.int 6]) := by
      have z : (upd (upd H p1 (.lst [.int 6])) p2 (.lst [.int 31, .int 10, .int 4, .int 4, .int 9000])) p1 = some (.lst [.int 6]) := by rw [upd_ne (ne_of_none upd_same hp2)]; exact upd_same
      rw [upd_ne (ne_of_none z hp3)]; exact z
    refine ⟨p1, p3, _, _, rfl, rfl, SqL.of e1, SqL.of upd_same, by decide, fun p4 hp4 => ?_⟩
    have s4 := s3.new (o := .lst ([V.int 6] ++ (List.replicate (5 : Int).toNat [V.int 31, .int 10, .int 4, .int 4, .int 9000]).flatten)) hp4
    refine ⟨c, p4, bndW, rfl, upd_same, by decide, bndW_pos, fun dr H5 ms s5 ndr e5 dk => ?_⟩
    have s5 := s4.trans s5
    have hlen : ms.length = 26 := dk.1
    refine ⟨by show 0 ≤ sizeLine; decide, fun nr hnr => ?_⟩
    have s6 := s5.new (o := .lst []) hnr
    have e6 : (upd H5 nr (.lst [])) dr = some (.lst (ms.map V.int)) := by rw [upd_ne (ne_of_none e5 hnr)]; exact e5
    have nnr : H nr = none := s5.free hnr
    have hne : dr ≠ nr := ne_of_none e5 hnr
    have n6 : (upd H5 nr (.lst [])) nr = some (.lst []) := upd_same
    generalize upd H5 nr (.lst []) = H6 at s6 e6 n6 ⊢
    have m0 : ms[0]? = some ms[0] := by simp [hlen]
    generalize ms[0] = m at m0
    have hm := dk.2 0 m 6 m0 rfl
    refine ⟨_, rfl, dr, _, _, _, rfl, rfl, SqL.of e6, (by have z := atI_nat (show (ms.map V.int)[0]? = some (V.int m) by rw [List.getElem?_map, m0]; rfl); exact z), m, rfl, by omega, by omega, ?_⟩
    let I : Nat → _ → _ → Prop := fun i σ H2 => ∃ (zs : List (V × Wr)) (v4 v5 v6 v7 v8 v9 v10 : Option V), σ = [some (.int c), some (.int house), some (.ref dr), some (.ref nr), v4, v5, v6, v7, v8, v9, v10] ∧ Same H H2 ∧ H2 nr = some (.lst (zs.map (·.1))) ∧ H2 dr = some (.lst (ms.map V.int)) ∧ WsAt K H2 zs ∧ zs.length ≤ i ∧ (∀ z ∈ zs, WrOk z.2 ∧ z.2.o ≠ house) ∧ (zs.map (·.2.o)).Nodup
    refine for_range (lo := 0) (n := m.toNat) I ⟨[], none, none, none, none, none, none, none, rfl, s6, n6, e6, fun z hz => absurd hz List.not_mem_nil, Nat.le_refl _, fun z hz => absurd hz List.not_mem_nil, .nil⟩ ?_ ?_
    · rintro i σ H2 hi ⟨zs, v4, v5, v6, v7, v8, v9, v10, rfl, s2, n2, e2, hw, hzl, hok, hnd⟩
      have hi5 : i < 5 := by omega
      obtain ⟨b1, b2, b3, b4, b5⟩ := bndW_at i hi5
      obtain ⟨d1, d2, d3, d4, d5, hfive, g1, g2, g3, g4, g5⟩ := five (l := ms) (i := 1 + 5 * i) (by omega)
      have k1 := dk.2 _ _ _ g1 b1
      have k2 := dk.2 _ _ _ g2 b2
      have k3 := dk.2 _ _ _ g3 b3
      have k4 := dk.2 _ _ _ g4 b4
      have k5 := dk.2 _ _ _ g5 b5
      have hcut : cutV (ms.map V.int) (some (1 + 5 * (0 + (i : Nat) : Int))) (some (6 + 5 * (0 + (i : Nat) : Int))) = [.int d1, .int d2, .int d3, .int d4, .int d5] := by
        rw [cutV_ss (by omega) (by omega), ← List.map_drop, ← List.map_take, show (1 + 5 * (0 + (i : Nat) : Int)).toNat = 1 + 5 * i by omega, show (6 + 5 * (0 + (i : Nat) : Int)).toNat - (1 + 5 * i) = 5 by omega, hfive]
        rfl
      refine ⟨_, rfl, _, rfl, _, _, rfl, rfl, .inl ⟨by decide, by decide⟩, _, _, rfl, rfl, _, rfl, _, rfl, _, _, rfl, rfl, .inl ⟨by decide, by decide⟩, _, _, rfl, rfl, _, rfl, dr, _, rfl, SqL.of e2, fun sl hsl => ?_⟩
      rw [hcut]
      refine ⟨sl, _, rfl, SqL.of upd_same, rfl, _, _, rfl, _, _, rfl, _, _, rfl, _, _, rfl, _, _, rfl, rfl, ?_⟩
      have t1 : Same H2 (upd H2 sl (.lst [.int d1, .int d2, .int d3, .int d4, .int d5])) := (Same.refl _).new hsl
      generalize upd H2 sl (.lst [.int d1, .int d2, .int d3, .int d4, .int d5]) = H3 at t1 ⊢
      refine ⟨_, rfl, _, _, rfl, rfl, _, rfl, _, _, rfl, rfl, _, _, rfl, rfl, (by show (0 : Int) < 32; decide), ?_⟩
      obtain ⟨oth, ho⟩ : ∃ oth, (house + 1 + d1) % 32 = oth := ⟨_, rfl⟩
      have hoth : Hse oth ∧ oth ≠ house := by
        have := hh.1
        have := hh.2
        unfold Hse
        omega
      subst ho
      obtain ⟨pa, a1, a2, a3⟩ := pick4 k3.1 k3.2 k5.1 k5.2
      obtain ⟨pb, c1, c2, c3⟩ := pick4 k4.1 k4.2 k5.1 k5.2
      refine ⟨_, rfl, _, _, rfl, rfl, by show 4 ≤ sizeLine; decide, fun q1 hq1 => ⟨_, rfl, q1, _, _, _, rfl, rfl, SqL.of upd_same, a1, _, rfl, _, _, rfl, rfl, by show 4 ≤ sizeLine; decide, fun q2 hq2 => ⟨_, rfl, q2, _, _, _, rfl, rfl, SqL.of upd_same, c1, by show 2 ≤ sizeLine; decide, fun pr hpr => ?_⟩⟩⟩
      have t2 := ((t1.new (o := .lst [.int 1, .int 2, .int 9000, .int (1 + d5)]) hq1).new (o := .lst [.int 1, .int 2, .int 9000, .int (1 + d5)]) hq2).new (o := .tup [.int pa, .int pb]) hpr
      have ep : (upd (upd (upd H3 q1 (.lst [.int 1, .int 2, .int 9000, .int (1 + d5)])) q2 (.lst [.int 1, .int 2, .int 9000, .int (1 + d5)])) pr (.tup [.int pa, .int pb])) pr = some (.tup [.int pa, .int pb]) := upd_same
      generalize upd (upd (upd H3 q1 (.lst [.int 1, .int 2, .int 9000, .int (1 + d5)])) q2 (.lst [.int 1, .int 2, .int 9000, .int (1 + d5)])) pr (.tup [.int pa, .int pb]) = H4 at t2 ep ⊢
      refine ⟨_, rfl, _, rfl, nr, rfl, ⟨_, SqL.of (t2 _ _ n2)⟩, fun D hD => ?_⟩
      refine lc_list (K := K) (a := nr) (xs := zs.map (·.1)) (fun i σ H' => ∃ v : Option V, σ = [v] ∧ Same H4 H' ∧ H' D = some (.lst (((zs.take i).map (·.2.o)).map V.int))) ⟨none, rfl, (Same.refl _).new hD, upd_same⟩ (fun i σ H' _ ⟨_, _, u1, _⟩ => SqL.of (u1 _ _ (t2 _ _ n2))) ?_ ?_
      · rintro j x σ H' N hN hj ⟨v, rfl, u1, f1⟩
        rw [List.getElem?_map] at hj
        cases ez : zs[j]? with
        | none => rw [ez] at hj; cases hj
        | some z =>
          rw [ez] at hj
          obtain rfl : z.1 = x := Option.some.inj hj
          have hmz : z ∈ zs := List.mem_of_getElem? ez
          have hj2 : j < zs.length := (List.getElem?_eq_some_iff.mp ez).1
          obtain ⟨a, p, ea, h1, h2⟩ := ((hw z hmz).same (t2.trans u1)).out
          refine turn_do ?_
          refine ⟨_, rfl, a, _, _, _, ea, rfl, h1, rfl, _, f1, by rw [List.length_map, List.length_map, List.length_take]; omega, hN _ _ ⟨_, rfl, u1.put hD, ?_⟩⟩
          rw [upd_same, take_succ ez, List.map_append, List.map_append]
          rfl
      · rintro σ H' ⟨v, rfl, u1, f1⟩
        rw [List.length_map, List.take_length] at f1
        have t3 := t2.trans u1
        refine ⟨D, _, rfl, .inl (SqL.of f1), rfl, flat_ints _, _, rfl, ?_⟩
        show if (!inV (.int ((house + 1 + d1) % 32)) ((zs.map (·.2.o)).map V.int)) = true then _ else _
        rw [in_ints']
        by_cases hin : (house + 1 + d1) % 32 ∈ zs.map (·.2.o)
        · refine iteNN hin ?_
          exact ⟨zs, _, _, _, _, _, _, _, rfl, s2.trans t3, t3 _ _ n2, t3 _ _ e2, hw.same t3, by omega, hok, hnd⟩
        · refine iteNY hin ?_
          refine ⟨_, rfl, .inl ⟨rfl, _, SqL.of (t3 _ _ n2)⟩, _, rfl, _, rfl, _, _, rfl, rfl, _, rfl, by show 3 ≤ sizeLine; decide, fun tp htp => ?_⟩
          have t4 := t3.new (o := .tup [.int ((house + 1 + d1) % 32), .int (1 + d2), .ref pr]) htp
          refine ⟨nr, _, _, rfl, rfl, t4 _ _ n2, by rw [List.length_map]; omega, ?_⟩
          have kp := kept_upd (o := .lst (zs.map (·.1) ++ [V.ref tp])) (t4 _ _ n2)
          have wn : WAt K (upd H' tp (.tup [.int ((house + 1 + d1) % 32), .int (1 + d2), .ref pr])) (.ref tp) ⟨(house + 1 + d1) % 32, 1 + d2, pa, pb⟩ := .mk (SqT.of upd_same) (SqT.of (((u1.trans ((Same.refl H').new htp))) _ _ ep))
          refine ⟨zs ++ [(.ref tp, ⟨(house + 1 + d1) % 32, 1 + d2, pa, pb⟩)], _, _, _, _, _, _, _, rfl, (s2.trans t4).put nnr, by rw [upd_same, List.map_append]; rfl, ?_, fun z hz => ?_, by rw [List.length_append]; show _ + 1 ≤ _; omega, fun z hz => ?_, ?_⟩
          · rw [upd_ne hne]
            exact t4 _ _ e2
          · rcases List.mem_append.mp hz with h | h
            · exact ((hw z h).same t4).kept kp
            · rw [List.mem_singleton.mp h]; exact wn.kept kp
          · rcases List.mem_append.mp hz with h | h
            · exact hok z h
            · rw [List.mem_singleton.mp h]
              exact ⟨⟨hoth.1, ⟨by show 1 ≤ 1 + d2; omega, by show 1 + d2 ≤ 10; omega⟩, ⟨a2, a3⟩, ⟨c2, c3⟩⟩, hoth.2⟩
          · rw [List.map_append]
            refine List.nodup_append.mpr ⟨hnd, by simp, fun a ha b hb => ?_⟩
            rw [List.mem_singleton.mp hb]
            rintro rfl
            exact hin ha
    · rintro σ H2 ⟨zs, v4, v5, v6, v7, v8, v9, v10, rfl, s2, n2, e2, hw, hzl, hok, hnd⟩
      refine ⟨_, rfl, q nr H2 zs s2 nnr n2 hw ⟨fun w hw => ?_, by rw [List.length_map]; omega, by rw [List.map_map]; exact hnd, fun hb => ?_⟩⟩
      · obtain ⟨z, hz, rfl⟩ := List.mem_map.mp hw
        exact (hok z hz).1
      · rw [List.map_map] at hb
        obtain ⟨z, hz, e⟩ := List.mem_map.mp hb
        exact (hok z hz).2 e
end
end K46
namespace K46
open PySem L2 PyProof.Rows
section
variable {P : Program} {w : World} {K : PySem.W.Frag} {mg : Str → Option Value} {base : Heap} {t : Ad}
/-! _law_names, _law_head -/
def bndN : List Int := [5, 1000000, 1000000, 1000000, 1000000]
theorem bndN_pos : ∀ b ∈ bndN, 0 < b ∧ b ≤ 1000000 := by decide
theorem bndN_at : ∀ k : Nat, k < 4 → bndN[1 + k]? = some 1000000 := by decide
theorem in_nms (n : List Nat) (ns : List (List Nat)) : inV (nmV n) (ns.map nmV) = decide (n ∈ ns) := by
  unfold inV
  rw [Bool.eq_iff_iff, List.any_map, List.any_eq_true, decide_eq_true_iff]
  constructor
  · rintro ⟨x, hx, h⟩
    have : ofCodes x = ofCodes n := by simpa [eqV, nmV] using h
    exact ofCodes_inj this ▸ hx
  · intro h
    exact ⟨n, h, by simp [eqV, nmV]⟩
theorem flat_nms (ns : List (List Nat)) : (ns.map nmV).all flatV = true := by
  rw [List.all_map, List.all_eq_true]
  intro _ _
  rfl
def sp__law_names (K : PySem.W.Frag) : Sp := fun vs H Q _ => ∃ c : Int, vs = [.int c] ∧ ∀ (r : Addr) (H' : Hp) (ns : List (List Nat)), Same H H' → H r = none → H' r = some (.lst (ns.map nmV)) → NmsOk ns → Q (.ref r) H'
theorem sc__law_names : FnScope ["cell", "draws", "names", "k", "name"] ["cell"] (defScope s__law_names) := ⟨rfl, rfl, rfl, by decide +kernel, rfl, by decide +kernel, by decide +kernel⟩
set_option maxHeartbeats 2000000 in
theorem ok__law_names (F : Site K mg "_law_names" s__law_names) (T : Txt K mg t) (D__law_drawn : Def P w K mg base 2 "_law_drawn" ["cell", "bounds"] (sp__law_drawn K)) (D__law_name : Def P w K mg base 1 "_law_name" ["number"] sp__law_name) : Def P w K mg base 3 "_law_names" ["cell"] (sp__law_names K) := by
  refine F.def sc__law_names (fun _ _ _ _ _ _ us hl => match us, hl with | [_], _ => rfl) (fun vs H Q E h => ?_) (fun f cdv A outer s H vs Q E hr h => ?_)
  · obtain ⟨c, rfl, _⟩ := h
    rfl
  · obtain ⟨c, rfl, q⟩ := h
    refine ⟨_, pss_cons (ps_set (i := 1) sc__law_names.nd rfl (Or.inl rfl) (pe_def (D__law_drawn.mono (by decide)) hr passN (pa_cons (pv 0) (pa_cons (pe_op (op_catK K) (pe_lst (pa_cons pe_int pa_nil)) (pe_op op_rep (pe_lst (pa_cons (pe_op op_pow pe_int pe_int) pa_nil)) pe_int)) pa_nil))))
      (pss_cons (ps_set (i := 2) sc__law_names.nd rfl (Or.inl rfl) (pe_lst pa_nil))
      (pss_cons (PS.nox (ps_for PassesOwn.never rfl (pi_range1 (by rfl) T.n_range (pa_cons (pe_ix (ix_listK K) (pv 1) pe_int (fun _ _ => rfl)) pa_nil)) (pg_name (i := 3) sc__law_names.nd rfl (Or.inl rfl))
        (pss_cons (ps_set (i := 4) sc__law_names.nd rfl (Or.inl rfl) (pe_def (D__law_name.mono (by decide)) hr passN (pa_cons (pe_ix (ix_listK K) (pv 1) (pe_op op_add pe_int (pv 3)) (fun _ _ => rfl)) pa_nil)))
        (pss_one (ps_if (pt_cmpR op_notIn_seq (pv 4) (pv 2) (by rfl))
          (pss_one (ps_expr (pe_bmK K PySem.F.plainAttrs_list PySem.F.slot_list_append PySem.F.type_list_append mt_append (pv 2) (pa_cons (pv 4) pa_nil))))
          (pss_nil))))))
      (pss_one (ps_ret (pv 2))))), ?_⟩
    have hsz : (2000 : Nat) ≤ sizeLine := by decide
    refine ⟨_, rfl, by show 1 ≤ sizeLine; decide, fun p1 hp1 => ⟨_, _, rfl, rfl, ⟨by decide, by decide, by decide⟩, by show 1 ≤ sizeLine; decide, fun p2 hp2 => ⟨p2, 4, _, rfl, rfl, upd_same, by decide, by decide, by decide, fun p3 hp3 => ?_⟩⟩⟩
    have s3 := (((Same.refl H).new (o := .lst [.int 5]) hp1).new (o := .lst [.int (10 ^ (6 : Int).toNat)]) hp2).new (o := .lst (List.replicate (4 : Int).toNat [V.int (10 ^ (6 : Int).toNat)]).flatten) hp3
    have e1 : (upd (upd (upd H p1 (.lst [.int 5])) p2 (.lst [.int (10 ^ (6 : Int).toNat)])) p3 (.lst (List.replicate (4 : Int).toNat [V.int (10 ^ (6 : Int).toNat)]).flatten)) p1 = some (.lst [.int 5]) := by
      have z : (upd (upd H p1 (.lst [.int 5])) p2 (.lst [.int (10 ^ (6 : Int).toNat)])) p1 = some (.lst [.int 5]) := by rw [upd_ne (ne_of_none upd_same hp2)]; exact upd_same
      rw [upd_ne (ne_of_none z hp3)]; exact z
    refine ⟨p1, p3, _, _, rfl, rfl, SqL.of e1, SqL.of upd_same, by decide, fun p4 hp4 => ?_⟩
    have s4 := s3.new (o := .lst ([V.int 5] ++ (List.replicate (4 : Int).toNat [V.int (10 ^ (6 : Int).toNat)]).flatten)) hp4
    refine ⟨c, p4, bndN, rfl, upd_same, by decide, bndN_pos, fun dr H5 ms s5 ndr e5 dk => ?_⟩
    have s5 := s4.trans s5
    have hlen : ms.length = 5 := dk.1
    refine ⟨by show 0 ≤ sizeLine; decide, fun nr hnr => ?_⟩
    have s6 := s5.new (o := .lst []) hnr
    have e6 : (upd H5 nr (.lst [])) dr = some (.lst (ms.map V.int)) := by rw [upd_ne (ne_of_none e5 hnr)]; exact e5
    have nnr : H nr = none := s5.free hnr
    have hne : dr ≠ nr := ne_of_none e5 hnr
    have n6 : (upd H5 nr (.lst [])) nr = some (.lst []) := upd_same
    generalize upd H5 nr (.lst []) = H6 at s6 e6 n6 ⊢
    have m0 : ms[0]? = some ms[0] := by simp [hlen]
    generalize ms[0] = m at m0
    have hm := dk.2 0 m 5 m0 rfl
    refine ⟨_, rfl, dr, _, _, _, rfl, rfl, SqL.of e6, (by have z := atI_nat (show (ms.map V.int)[0]? = some (V.int m) by rw [List.getElem?_map, m0]; rfl); exact z), m, rfl, by omega, by omega, ?_⟩
    let I : Nat → _ → _ → Prop := fun i σ H2 => ∃ (ns : List (List Nat)) (v3 v4 : Option V), σ = [some (.int c), some (.ref dr), some (.ref nr), v3, v4] ∧ Same H H2 ∧ H2 nr = some (.lst (ns.map nmV)) ∧ H2 dr = some (.lst (ms.map V.int)) ∧ ns.length ≤ i ∧ (∀ n ∈ ns, NmOk n) ∧ ns.Nodup
    refine for_range (lo := 0) (n := m.toNat) I ⟨[], none, none, rfl, s6, n6, e6, Nat.le_refl _, fun z hz => absurd hz List.not_mem_nil, .nil⟩ ?_ ?_
    · rintro i σ H2 hi ⟨ns, v3, v4, rfl, s2, n2, e2, hzl, hok, hnd⟩
      have hi4 : i < 4 := by omega
      have g1 : ms[1 + i]? = some ms[1 + i] := by simp
      generalize ms[1 + i] = d at g1
      have k1 := dk.2 _ _ _ g1 (bndN_at i hi4)
      refine ⟨_, rfl, _, rfl, _, _, rfl, rfl, dr, _, _, _, rfl, rfl, SqL.of e2, (by have z := atI_nat (show (ms.map V.int)[1 + i]? = some (V.int d) by rw [List.getElem?_map, g1]; rfl); rw [show (1 + (0 + (i : Nat) : Int)) = ((1 + i : Nat) : Int) by omega]; exact z), d, rfl, by omega, by omega, fun cs hcs => ?_⟩
      refine ⟨_, rfl, _, rfl, nr, _, rfl, .inl (SqL.of n2), rfl, flat_nms _, _, rfl, ?_⟩
      show if (!inV (nmV cs) (ns.map nmV)) = true then _ else _
      rw [in_nms]
      by_cases hin : cs ∈ ns
      · refine iteNN hin ?_
        exact ⟨ns, _, _, rfl, s2, n2, e2, by omega, hok, hnd⟩
      · refine iteNY hin ?_
        refine ⟨_, rfl, .inl ⟨rfl, _, SqL.of n2⟩, _, rfl, nr, _, _, rfl, rfl, n2, by rw [List.length_map]; omega, ?_⟩
        refine ⟨ns ++ [cs], _, _, rfl, s2.put nnr, by rw [upd_same, List.map_append]; rfl, by rw [upd_ne hne]; exact e2, by rw [List.length_append]; show _ + 1 ≤ _; omega, fun z hz => ?_, ?_⟩
        · rcases List.mem_append.mp hz with h | h
          · exact hok z h
          · rw [List.mem_singleton.mp h]; exact hcs
        · refine List.nodup_append.mpr ⟨hnd, by simp, fun a ha b hb => ?_⟩
          rw [List.mem_singleton.mp hb]
          rintro rfl
          exact hin ha
    · rintro σ H2 ⟨ns, v3, v4, rfl, s2, n2, e2, hzl, hok, hnd⟩
      exact ⟨_, rfl, q nr H2 ns s2 nnr n2 ⟨by omega, hnd, hok⟩⟩
theorem four_at (a b c d : Int) {x : Int} (h0 : 0 ≤ x) (h1 : x < 4) : ∃ v : Int, atI [V.int a, .int b, .int c, .int d] x = some (.int v) ∧ (v = a ∨ v = b ∨ v = c ∨ v = d) := by
  have : x = 0 ∨ x = 1 ∨ x = 2 ∨ x = 3 := by omega
  rcases this with rfl | rfl | rfl | rfl
  · exact ⟨a, rfl, .inl rfl⟩
  · exact ⟨b, rfl, .inr (.inl rfl)⟩
  · exact ⟨c, rfl, .inr (.inr (.inl rfl))⟩
  · exact ⟨d, rfl, .inr (.inr (.inr rfl))⟩
def sp__law_head : Sp := fun vs H Q _ => ∃ c : Int, vs = [.int c] ∧ ∀ (r : Addr) (H' : Hp) (h n : Int), Same H H' → H' r = some (.tup [.int h, .int n]) → Hse h → 0 ≤ n ∧ n ≤ 900000 → Q (.ref r) H'
theorem sc__law_head : FnScope ["cell", "house", "way", "number"] ["cell"] (defScope s__law_head) := ⟨rfl, rfl, rfl, by decide +kernel, rfl, by decide +kernel, by decide +kernel⟩
set_option maxHeartbeats 2000000 in
theorem ok__law_head (F : Site K mg "_law_head" s__law_head) (T : Txt K mg t) (D__law_drawn : Def P w K mg base 2 "_law_drawn" ["cell", "bounds"] (sp__law_drawn K)) : Def P w K mg base 3 "_law_head" ["cell"] sp__law_head := by
  refine F.def sc__law_head (fun _ _ _ _ _ _ us hl => match us, hl with | [_], _ => rfl) (fun vs H Q E h => ?_) (fun f cdv A outer s H vs Q E hr h => ?_)
  · obtain ⟨c, rfl, _⟩ := h
    rfl
  · obtain ⟨c, rfl, q⟩ := h
    refine ⟨_, pss_cons (ps_asg (pe_def (D__law_drawn.mono (by decide)) hr passN (pa_cons (pv 0) (pa_cons (pe_lst (pa_cons pe_int (pa_cons pe_int (pa_cons pe_int pa_nil)))) pa_nil))) (pg_tupL K rfl (pgs_cons (pg_name (i := 1) sc__law_head.nd rfl (Or.inl rfl)) (pgs_cons (pg_name (i := 2) sc__law_head.nd rfl (Or.inl rfl)) (pgs_cons (pg_name (i := 3) sc__law_head.nd rfl (Or.inl rfl)) pgs_nil)))))
      (pss_one (ps_ret (pe_tup (pa_cons (pe_ix (ix_listK K) (pe_lst (pa_cons (pv 1) (pa_cons (pv 1) (pa_cons pe_int (pa_cons pe_int pa_nil))))) (pv 2) (fun _ _ => rfl)) (pa_cons (pe_ix (ix_listK K) (pe_lst (pa_cons (pv 3) (pa_cons (pe_op op_mod (pv 3) pe_int) (pa_cons pe_int (pa_cons pe_int pa_nil))))) (pv 2) (fun _ _ => rfl)) pa_nil))))), ?_⟩
    have hsz : (2000 : Nat) ≤ sizeLine := by decide
    refine ⟨_, rfl, by show 3 ≤ sizeLine; decide, fun p1 hp1 => ?_⟩
    refine ⟨c, p1, [32, 4, 900001], rfl, upd_same, by decide, by decide, fun dr H5 ms s5 ndr e5 dk => ?_⟩
    have s5 := ((Same.refl H).new (o := .lst [.int 32, .int 4, .int 900001]) hp1).trans s5
    obtain ⟨d1, d2, d3, rfl⟩ : ∃ d1 d2 d3, ms = [d1, d2, d3] := by
      match ms, dk.1 with
      | [a, b, c], _ => exact ⟨a, b, c, rfl⟩
    have k1 := dk.2 0 _ _ rfl rfl
    have k2 := dk.2 1 _ _ rfl rfl
    have k3 := dk.2 2 _ _ rfl rfl
    refine ⟨dr, _, rfl, SqL.of e5, rfl, _, _, rfl, _, _, rfl, _, _, rfl, rfl, ?_⟩
    obtain ⟨h, ah, ch⟩ := four_at d1 d1 0 31 k2.1 k2.2
    obtain ⟨n, an, cn⟩ := four_at d3 (d3 % 5) 900000 0 k2.1 k2.2
    refine ⟨_, rfl, _, rfl, by show 4 ≤ sizeLine; decide, fun q1 hq1 => ⟨_, rfl, q1, _, _, _, rfl, rfl, SqL.of upd_same, ah, _, rfl, _, rfl, _, _, rfl, rfl, (by show (0 : Int) < 5; decide), by show 4 ≤ sizeLine; decide, fun q2 hq2 => ⟨_, rfl, q2, _, _, _, rfl, rfl, SqL.of upd_same, an, by show 2 ≤ sizeLine; decide, fun pr hpr => ?_⟩⟩⟩
    have t2 := ((s5.new (o := .lst [.int d1, .int d1, .int 0, .int 31]) hq1).new (o := .lst [.int d3, .int (d3 % 5), .int 900000, .int 0]) hq2).new (o := .tup [.int h, .int n]) hpr
    refine q pr _ h n t2 upd_same ?_ ?_
    · unfold Hse
      rcases ch with rfl | rfl | rfl | rfl <;> omega
    · rcases cn with rfl | rfl | rfl | rfl <;> omega
end
end K46
namespace K46
open PySem L2 PyProof.Rows
section
variable {P : Program} {w : World} {K : PySem.W.Frag} {mg : Str → Option Value} {base : Heap} {t : Ad}
/-! bodies of news: what tells what -/
def d2 (n : Int) : List Int := [n / 97 % 97, n % 97]
def d3 (n : Int) : List Int := [n / 97 / 97 % 97, n / 97 % 97, n % 97]
theorem told2 {n : Int} (h0 : 0 ≤ n) (h : n ≤ 9000) : My.told (d2 n) = n := by
  show (0 * 97 + n / 97 % 97) * 97 + n % 97 = n
  omega
theorem told3 {n : Int} (h0 : 0 ≤ n) (h : n ≤ 900000) : My.told (d3 n) = n := by
  show ((0 * 97 + n / 97 / 97 % 97) * 97 + n / 97 % 97) * 97 + n % 97 = n
  omega
theorem rest2 {n : Int} (h0 : 0 ≤ n) (h : n ≤ 9000) : My.rest 2 n = 0 := by
  show n / 97 / 97 = 0
  omega
theorem rest3 {n : Int} (h0 : 0 ≤ n) (h : n ≤ 900000) : My.rest 3 n = 0 := by
  show n / 97 / 97 / 97 = 0
  omega
def wS (w : Wr) : List Int := [w.o, w.q] ++ (d2 w.a ++ d2 w.b)
def wireD (c : List Int) : Wr := ⟨c.getD 0 0, c.getD 1 0, My.told ((c.drop 2).take 2), My.told ((c.drop 4).take 2)⟩
theorem wireD_wS {w : Wr} (h : WrOk w) : wireD (wS w) = w := by
  obtain ⟨o, q, a, b⟩ := w
  obtain ⟨_, _, ha, hb⟩ := h
  show Wr.mk o q (My.told (d2 a)) (My.told (d2 b)) = _
  rw [told2 (by have := ha.1; omega) ha.2, told2 (by have := hb.1; omega) hb.2]
theorem wS_len (w : Wr) : (wS w).length = 6 := rfl
def Sgn1 (n : Int) : Prop := 0 ≤ n ∧ n < 97
theorem wS_sg {w : Wr} (h : WrOk w) : ∀ n ∈ wS w, Sgn1 n := by
  obtain ⟨o, q, a, b⟩ := w
  obtain ⟨ho, hq, _, _⟩ := h
  intro n hn
  have ho : 0 ≤ o ∧ o < 32 := ho
  have hq : 1 ≤ q ∧ q ≤ 10 := hq
  simp only [wS, d2, List.cons_append, List.nil_append, List.mem_cons, List.not_mem_nil, or_false] at hn
  unfold Sgn1
  rcases hn with rfl | rfl | rfl | rfl | rfl | rfl <;> omega
/-- texts joined by blanks -/
def jn : List (List Nat) → List Nat
  | [] => []
  | [n] => n
  | n :: m :: r => n ++ 32 :: jn (m :: r)
theorem jn_two (n m : List Nat) (r : List (List Nat)) : jn (n :: m :: r) = n ++ 32 :: jn (m :: r) := by rw [jn]
theorem jn_one (n : List Nat) : jn [n] = n := by rw [jn]
theorem jn_inj : ∀ {xs ys : List (List Nat)}, xs ≠ [] → ys ≠ [] → (∀ x ∈ xs, 32 ∉ x) → (∀ y ∈ ys, 32 ∉ y) → jn xs = jn ys → xs = ys
  | [], _, h, _, _, _, _ => absurd rfl h
  | _, [], _, h, _, _, _ => absurd rfl h
  | [x], [y], _, _, _, _, e => by rw [jn_one, jn_one] at e; rw [e]
  | [x], y :: z :: r, _, _, hx, _, e => by
    rw [jn_one, jn_two] at e
    exact absurd (show 32 ∈ x by rw [e]; simp) (hx x List.mem_cons_self)
  | x :: z :: r, [y], _, _, _, hy, e => by
    rw [jn_one, jn_two] at e
    exact absurd (show 32 ∈ y by rw [← e]; simp) (hy y List.mem_cons_self)
  | x :: z :: r, y :: w :: s, _, _, hx, hy, e => by
    rw [jn_two, jn_two] at e
    have nx := hx x List.mem_cons_self
    have ny := hy y List.mem_cons_self
    have cut : ∀ {a b c d : List Nat}, 32 ∉ a → 32 ∉ c → a ++ 32 :: b = c ++ 32 :: d → a = c ∧ b = d := by
      intro a
      induction a with
      | nil =>
        intro b c d _ hc e
        cases c with
        | nil => exact ⟨rfl, (List.cons.inj e).2⟩
        | cons u c => exact absurd (show 32 ∈ u :: c by rw [← (List.cons.inj e).1]; exact List.mem_cons_self) hc
      | cons u a ih =>
        intro b c d ha hc e
        cases c with
        | nil => exact absurd (show 32 ∈ u :: a by rw [(List.cons.inj e).1]; exact List.mem_cons_self) ha
        | cons v c =>
          obtain ⟨e1, e2⟩ := List.cons.inj e
          obtain ⟨rfl, rfl⟩ := ih (fun z => ha (List.mem_cons_of_mem _ z)) (fun z => hc (List.mem_cons_of_mem _ z)) e2
          exact ⟨by rw [e1], rfl⟩
    obtain ⟨rfl, e2⟩ := cut nx ny e
    rw [jn_inj (by simp) (by simp) (fun x h => hx x (List.mem_cons_of_mem _ h)) (fun y h => hy y (List.mem_cons_of_mem _ h)) e2]
theorem jn_nil {xs : List (List Nat)} (h : ∀ x ∈ xs, x ≠ []) (e : jn xs = []) : xs = [] := by
  match xs with
  | [] => rfl
  | [x] => rw [jn_one] at e; exact absurd e (h x List.mem_cons_self)
  | x :: y :: r => rw [jn_two] at e; simp at e
theorem jn_mem : ∀ {xs : List (List Nat)} {c : Nat}, c ∈ jn xs → c = 32 ∨ ∃ x ∈ xs, c ∈ x
  | [], _, h => by cases h
  | [x], _, h => by rw [jn_one] at h; exact .inr ⟨x, List.mem_cons_self, h⟩
  | x :: y :: r, c, h => by
    rw [jn_two] at h
    rcases List.mem_append.mp h with z | z
    · exact .inr ⟨x, List.mem_cons_self, z⟩
    · rcases List.mem_cons.mp z with rfl | z
      · exact .inl rfl
      · rcases jn_mem z with e | ⟨u, h1, h2⟩
        · exact .inl e
        · exact .inr ⟨u, List.mem_cons_of_mem _ h1, h2⟩
theorem jn_len : ∀ (xs : List (List Nat)), (∀ x ∈ xs, x.length ≤ 4) → (jn xs).length ≤ 5 * xs.length
  | [], _ => Nat.le_refl _
  | [x], h => by rw [jn_one]; have := h x List.mem_cons_self; show x.length ≤ 5; omega
  | x :: y :: r, h => by
    have := h x List.mem_cons_self
    have ih := jn_len (y :: r) fun z hz => h z (List.mem_cons_of_mem _ hz)
    rw [jn_two, List.length_append, List.length_cons]
    rw [List.length_cons] at ih ⊢
    rw [List.length_cons]
    omega
end
end K46
namespace K46
open PySem L2 PyProof.Rows
section
variable {P : Program} {w : World} {K : PySem.W.Frag} {mg : Str → Option Value} {base : Heap} {t : Ad}
/-! bodies of news: read back -/
theorem let_sg : ∀ c < 128, (97 ≤ c ∧ c ≤ 122 ∨ c = 32) → 0 ≤ fnd c ∧ fnd c < 96 ∧ fnd c ≠ 5 ∧ code (fnd c).toNat = c := by decide +kernel
theorem BL : (" " : Str) = ⟨#[32]⟩ := by decide +kernel
theorem join_jn : ∀ ns : List (List Nat), Str.join ⟨#[32]⟩ (ns.map ofCodes) = ofCodes (jn ns)
  | [] => rfl
  | [n] => by rw [jn_one]; rfl
  | n :: m :: r => by
    have ih := join_jn (m :: r)
    rw [jn_two]
    show ofCodes n ++ (⟨#[32]⟩ : Str) ++ Str.join ⟨#[32]⟩ ((m :: r).map ofCodes) = _
    rw [ih]
    show (⟨n.toArray ++ #[32] ++ (jn (m :: r)).toArray⟩ : Str) = ⟨(n ++ 32 :: jn (m :: r)).toArray⟩
    congr 1
    apply Array.toList_inj.mp
    simp
def prts (cs : List Nat) : List (List Nat) := (Txt.split (ofCodes cs) ⟨#[32]⟩).map fun p => p.cps.toList
theorem prts_of (cs : List Nat) : (prts cs).map ofCodes = Txt.split (ofCodes cs) ⟨#[32]⟩ := by
  unfold prts
  rw [List.map_map]
  conv => rhs; rw [← List.map_id (Txt.split (ofCodes cs) ⟨#[32]⟩)]
  exact List.map_congr_left fun p _ => by show (⟨p.cps.toList.toArray⟩ : Str) = p; rw [Array.toArray_toList]
theorem prts_jn (cs : List Nat) : jn (prts cs) = cs := by
  have h := StrLaws.join_split (ofCodes cs) ⟨#[32]⟩
  rw [← prts_of, join_jn] at h
  have h2 : (jn (prts cs)).toArray = cs.toArray := congrArg Str.cps h
  simpa using congrArg Array.toList h2
theorem prts_free (cs : List Nat) : ∀ p ∈ prts cs, 32 ∉ p := fun p hp => by
  obtain ⟨x, hx, rfl⟩ := List.mem_map.mp hp
  exact StrLaws.split_free (ofCodes cs) 32 x hx
theorem prts_nn (cs : List Nat) : prts cs ≠ [] := fun e => split_nn (ofCodes cs) ⟨#[32]⟩ (List.map_eq_nil_iff.mp e)
theorem jn_has {p : List Nat} {c : Nat} (hc : c ∈ p) : ∀ (xs : List (List Nat)), p ∈ xs → c ∈ jn xs
  | [], h => by cases h
  | [x], h => by rw [jn_one, ← List.mem_singleton.mp h]; exact hc
  | x :: y :: r, h => by
    rw [jn_two]
    rcases List.mem_cons.mp h with rfl | h
    · exact List.mem_append_left _ hc
    · exact List.mem_append_right _ (List.mem_cons_of_mem _ (jn_has hc (y :: r) h))
theorem prts_mem {cs p : List Nat} (hp : p ∈ prts cs) {c : Nat} (hc : c ∈ p) : c ∈ cs := by
  have := jn_has hc _ hp
  rwa [prts_jn] at this
theorem jn_some : ∀ (xs : List (List Nat)), ∀ x ∈ xs, x.length + xs.length ≤ (jn xs).length + 1
  | [], _, h => by cases h
  | [x], y, h => by rw [jn_one, List.mem_singleton.mp h]; exact Nat.le_refl _
  | x :: y :: r, z, h => by
    have ih := jn_some (y :: r)
    rw [jn_two, List.length_append]
    rcases List.mem_cons.mp h with rfl | h
    · have := ih y List.mem_cons_self
      simp only [List.length_cons] at this ⊢
      omega
    · have := ih z h
      simp only [List.length_cons] at this ⊢
      omega
theorem prts_len {cs p : List Nat} (hp : p ∈ prts cs) : p.length ≤ cs.length ∧ (prts cs).length ≤ cs.length + 1 := by
  have := jn_some _ p hp
  rw [prts_jn] at this
  have := List.length_pos_of_mem hp
  omega
def nmsD (r : List Int) : List (List Nat) := if r = [] then [] else prts (r.map fun n => code n.toNat)
theorem let_of {ns : List (List Nat)} (h : ∀ n ∈ ns, NmOk n) {c : Nat} (hc : c ∈ jn ns) : 97 ≤ c ∧ c ≤ 122 ∨ c = 32 := by
  rcases jn_mem hc with e | ⟨x, hx, hcx⟩
  · exact .inr e
  · exact .inl ((h x hx).2 c hcx)
theorem nmsD_jn {ns : List (List Nat)} (h : ∀ n ∈ ns, NmOk n) : nmsD ((jn ns).map fnd) = ns := by
  unfold nmsD
  have nz : ∀ n ∈ ns, n ≠ [] := fun n hn e => by have := (h n hn).1.1; rw [e] at this; exact absurd this (by decide)
  by_cases c : jn ns = []
  · rw [if_pos (by rw [c]; rfl), jn_nil nz c]
  · rw [if_neg fun e => c (List.map_eq_nil_iff.mp e)]
    have e : ((jn ns).map fnd).map (fun n => code n.toNat) = jn ns := by
      rw [List.map_map]
      conv => rhs; rw [← List.map_id (jn ns)]
      refine List.map_congr_left fun c hc => ?_
      have hl := let_of h hc
      exact (let_sg c (by omega) hl).2.2.2
    rw [e]
    refine jn_inj (prts_nn _) (fun z => c (by rw [z]; rfl)) (prts_free _) (fun y hy z => ?_) (prts_jn _)
    have : 97 ≤ 32 := ((h y hy).2 32 z).1
    omega
def nb (N : Nw) : List Int := [N.h] ++ d3 N.n ++ [(N.near.length : Int)] ++ N.near.flatMap wS ++ (jn N.names).map fnd
def dec (bs : List Int) : Nw := ⟨bs.getD 0 0, My.told ((bs.drop 1).take 3), (List.range (bs.getD 4 0).toNat).map fun i => wireD ((bs.drop (5 + 6 * i)).take 6), nmsD (bs.drop (5 + 6 * (bs.getD 4 0).toNat))⟩
theorem flat_len (ws : List Wr) : (ws.flatMap wS).length = 6 * ws.length := by
  induction ws with
  | nil => rfl
  | cons w ws ih => rw [List.flatMap_cons, List.length_append, ih, wS_len, List.length_cons]; omega
theorem chunk (R : List Int) : ∀ (ws : List Wr) (i : Nat) (hi : i < ws.length), ((ws.flatMap wS ++ R).drop (6 * i)).take 6 = wS ws[i]
  | [], i, hi => absurd hi (Nat.not_lt_zero _)
  | w :: ws, 0, _ => by
    rw [List.flatMap_cons]
    rfl
  | w :: ws, i + 1, hi => by
    have hi' : i < ws.length := Nat.lt_of_succ_lt_succ hi
    rw [List.flatMap_cons, List.append_assoc, show 6 * (i + 1) = (wS w).length + 6 * i by rw [wS_len]; omega, List.drop_length_add_append, chunk R ws i hi']
    rfl
theorem nb_eq (N : Nw) : nb N = N.h :: N.n / 97 / 97 % 97 :: N.n / 97 % 97 :: N.n % 97 :: (N.near.length : Int) :: (N.near.flatMap wS ++ (jn N.names).map fnd) := by
  unfold nb d3
  simp
theorem nb_drop (N : Nw) (k : Nat) : (nb N).drop (5 + k) = (N.near.flatMap wS ++ (jn N.names).map fnd).drop k := by
  rw [nb_eq, Nat.add_comm]
  rfl
theorem nb_rest (N : Nw) : (nb N).drop (5 + 6 * N.near.length) = (jn N.names).map fnd := by
  rw [nb_drop, ← flat_len, List.drop_left]
theorem dec_nb {N : Nw} (ok : NwOk N) : dec (nb N) = N := by
  obtain ⟨hh, hn, hw, hm⟩ := ok
  have e4 : ((nb N).getD 4 0).toNat = N.near.length := by rw [nb_eq]; show ((N.near.length : Int)).toNat = _; omega
  have e0 : (nb N).getD 0 0 = N.h := by rw [nb_eq]; rfl
  have e1 : ((nb N).drop 1).take 3 = d3 N.n := by rw [nb_eq]; rfl
  unfold dec
  rw [e4, e0, e1, told3 hn.1 hn.2, nb_rest, nmsD_jn hm.2.2]
  have ew : ((List.range N.near.length).map fun i => wireD (((nb N).drop (5 + 6 * i)).take 6)) = N.near := by
    refine List.ext_getElem (by simp) fun i h1 h2 => ?_
    rw [List.getElem_map, List.getElem_range, nb_drop, chunk _ _ i h2]
    exact wireD_wS (hw.1 _ (List.getElem_mem h2))
  rw [ew]
theorem nb_inj {N M : Nw} (h1 : NwOk N) (h2 : NwOk M) (e : nb N = nb M) : N = M := by rw [← dec_nb h1, e, dec_nb h2]
theorem nb_len {N : Nw} (ok : NwOk N) : 5 + 6 * N.near.length ≤ (nb N).length ∧ (nb N).length ≤ 56 := by
  obtain ⟨_, _, hw, hm⟩ := ok
  have h1 := jn_len N.names fun x hx => (hm.2.2 x hx).1.2
  have h2 := hw.2.1
  have h3 := hm.1
  have e : (nb N).length = 5 + (6 * N.near.length + (jn N.names).length) := by
    rw [nb_eq]
    simp only [List.length_cons, List.length_append, flat_len, List.length_map]
    omega
  exact ⟨by omega, by omega⟩
theorem nb_sg {N : Nw} (ok : NwOk N) : ∀ n ∈ nb N, Sgn1 n := by
  obtain ⟨hh, hn, hw, hm⟩ := ok
  intro n h
  have hh : 0 ≤ N.h ∧ N.h < 32 := hh
  have wl := hw.2.1
  rw [nb_eq] at h
  simp only [List.mem_cons, List.mem_append] at h
  unfold Sgn1
  rcases h with rfl | rfl | rfl | rfl | rfl | h | h
  · omega
  · omega
  · omega
  · omega
  · omega
  · obtain ⟨w, hw', z⟩ := List.mem_flatMap.mp h
    exact wS_sg (hw.1 w hw') n z
  · obtain ⟨c, hc, rfl⟩ := List.mem_map.mp h
    have hl := let_of hm.2.2 hc
    have := let_sg c (by omega) hl
    omega
/-- news as they are made: wires and names rising -/
structure Can (N : Nw) : Prop where
  ok : NwOk N
  sw : sD (N.near.map wrD) = N.near.map wrD
  sn : sD (N.names.map nmD) = N.names.map nmD
theorem sD_perm {ds es : List PyData} (O : OrdD ds) (ant : ∀ d ∈ ds, ∀ e ∈ ds, lesD d e = false → lesD e d = false → d = e) (O2 : OrdD es) (hp : es.Perm ds) : sD es = sD ds :=
  ordD_uniq O ant ((ordD_sorted O2).1.trans hp) (ordD_sorted O2).2
theorem nms_perm {ns ms : List (List Nat)} (h : ms.Perm ns) : NmsOk ns → NmsOk ms := fun z => ⟨by rw [h.length_eq]; exact z.1, h.nodup_iff.mpr z.2.1, fun n hn => z.2.2 n (h.mem_iff.mp hn)⟩
theorem can_of {N : Nw} (ok : NwOk N) : ∃ M, Can M ∧ nwD M = nwD N := by
  obtain ⟨ws, h1, e1⟩ := perm_back wrD (ordD_sorted (ordW N.near)).1 N.near rfl
  obtain ⟨ns, h2, e2⟩ := perm_back nmD (ordD_sorted (ordN N.names)).1 N.names rfl
  have q1 : sD (ws.map wrD) = ws.map wrD := by rw [sD_perm (ordW N.near) (antW N.near) (ordW ws) (h1.map _)]; exact e1
  have q2 : sD (ns.map nmD) = ns.map nmD := by rw [sD_perm (ordN N.names) (antN N.names) (ordN ns) (h2.map _)]; exact e2
  refine ⟨⟨N.h, N.n, ws, ns⟩, ⟨⟨ok.1, ok.2.1, (nearOk_perm h1).mpr ok.2.2.1, nms_perm h2 ok.2.2.2⟩, q1, q2⟩, ?_⟩
  show PyData.tuple [.int N.h, .int N.n, .tuple (sD (ws.map wrD)), .tuple (sD (ns.map nmD))] = _
  rw [q1, q2, ← e1, ← e2]
  rfl
theorem Can.nwD {N : Nw} (c : Can N) : nwD N = .tuple [.int N.h, .int N.n, .tuple (N.near.map wrD), .tuple (N.names.map nmD)] := by
  unfold K46.nwD
  rw [c.sw, c.sn]
theorem nmD_inj {m n : List Nat} (h : nmD m = nmD n) : m = n := by
  have : (ofCodes m) = ofCodes n := PyData.str.inj h
  have h2 : m.toArray = n.toArray := congrArg Str.cps this
  simpa using congrArg Array.toList h2
theorem map_inj {α β : Type} {f : α → β} (hf : ∀ {x y}, f x = f y → x = y) : ∀ {l m : List α}, l.map f = m.map f → l = m
  | [], [], _ => rfl
  | [], _ :: _, h => by cases h
  | _ :: _, [], h => by cases h
  | x :: l, y :: m, h => by
    obtain ⟨h1, h2⟩ := List.cons.inj h
    rw [hf h1, map_inj hf h2]
theorem Can.inj {N M : Nw} (c : Can N) (d : Can M) (h : K46.nwD N = K46.nwD M) : N = M := by
  rw [c.nwD, d.nwD] at h
  simp only [PyData.tuple.injEq, List.cons.injEq, PyData.int.injEq, and_true] at h
  obtain ⟨h1, h2, h3, h4⟩ := h
  have e3 := map_inj wrD_inj h3
  have e4 := map_inj nmD_inj h4
  cases N; cases M
  simp only at h1 h2 e3 e4
  subst h1 h2 e3 e4
  rfl
/-- made anew of its own parts -/
theorem Can.again {N M : Nw} (c : Can N) (d : Can M) (h : K46.nwD M = K46.nwD N) : M = N := d.inj c h
end
end K46
namespace K46
open PySem L2 PyProof.Rows
section
variable {P : Program} {w : World} {K : PySem.W.Frag} {mg : Str → Option Value} {base : Heap} {t : Ad}
/-! wire_signs, wire_of, news_body -/
def nwR (N : Nw) : PyData := .tuple [.int N.h, .int N.n, .tuple (N.near.map wrD), .tuple (N.names.map nmD)]
def NAt (K : PySem.W.Frag) (H : Hp) (v : V) (N : Nw) : Prop := IsDat K H 4 v (nwR N)
theorem noL_all : ∀ {ds : List PyData}, (∀ d ∈ ds, noL d = true) → noLAll ds = true
  | [], _ => by simp [noLAll]
  | d :: ds, h => by rw [noLAll, h d List.mem_cons_self, noL_all fun x hx => h x (List.mem_cons_of_mem _ hx)]; rfl
theorem noL_nw (N : Nw) : noL (nwR N) = true := by
  have h1 : noLAll (N.near.map wrD) = true := noL_all fun d hd => by obtain ⟨w, _, rfl⟩ := List.mem_map.mp hd; exact noL_wr w
  have h2 : noLAll (N.names.map nmD) = true := noL_all fun d hd => by obtain ⟨w, _, rfl⟩ := List.mem_map.mp hd; simp [nmD, noL]
  simp [nwR, noL, noLAll, h1, h2]
theorem NAt.kept {K : PySem.W.Frag} {H H' : Hp} {v : V} {N : Nw} (h : NAt K H v N) (k : Kept H H') : NAt K H' v N := IsDat.kept h k (noL_nw N)
theorem NAt.same {K : PySem.W.Frag} {H H' : Hp} {v : V} {N : Nw} (h : NAt K H v N) (s : Same H H') : NAt K H' v N := IsDat.same h s
theorem NAt.out {K : PySem.W.Frag} {H : Hp} {v : V} {N : Nw} (h : NAt K H v N) : ∃ a p q zs, v = .ref a ∧ SqT K H a [.int N.h, .int N.n, .ref p, .ref q] ∧ SqT K H p (zs.map (·.1)) ∧ WsAt K H zs ∧ zs.map (·.2) = N.near ∧ SqT K H q (N.names.map nmV) := by
  obtain ⟨a, xs, rfl, h1, h2, h3⟩ := dTup h
  match xs, h2 with
  | [x, y, z, w], _ =>
    obtain rfl := dInt (h3 0 x _ rfl rfl)
    obtain rfl := dInt (h3 1 y _ rfl rfl)
    obtain ⟨p, ys, rfl, g1, g2, g3⟩ := dTup (h3 2 z _ rfl rfl)
    obtain ⟨q, ks, rfl, k1, k2, k3⟩ := dTup (h3 3 w _ rfl rfl)
    rw [List.length_map] at g2 k2
    have hk : ks = N.names.map nmV := by
      refine List.ext_getElem (by rw [List.length_map]; exact k2) fun i i1 i2 => ?_
      rw [List.length_map] at i2
      have := dStr (k3 i ks[i] (nmD N.names[i]) (by simp) (by simp [i2]))
      rw [this]
      simp [nmV]
    subst hk
    refine ⟨a, p, q, ys.zip N.near, rfl, h1, ?_, fun z hz => ?_, ?_, k1⟩
    · rw [List.map_fst_zip (Nat.le_of_eq g2)]; exact g1
    · obtain ⟨i, hi, rfl⟩ := List.getElem_of_mem hz
      rw [List.length_zip] at hi
      rw [List.getElem_zip]
      have j1 := Nat.lt_of_lt_of_le hi (Nat.min_le_right _ _)
      exact g3 i _ _ (by simp) (by simp [j1])
    · rw [List.map_snd_zip (Nat.le_of_eq g2.symm)]
theorem sml_of {n : Int} (h0 : 0 ≤ n) (h : n ≤ 1000000) : n.natAbs < 2 ^ 1000 := by
  have : (1000001 : Nat) ≤ 2 ^ 1000 := by decide +kernel
  omega
def sp_wire_signs (K : PySem.W.Frag) : Sp := fun vs H Q _ => ∃ (v : V) (w : Wr), vs = [v] ∧ WAt K H v w ∧ WrOk w ∧ ∀ (r : Addr) (H' : Hp), Same H H' → H' r = some (.lst ((wS w).map V.int)) → Q (.ref r) H'
theorem sc_wire_signs : FnScope ["wire", "pair", "births"] ["wire"] (defScope s_wire_signs) := ⟨rfl, rfl, rfl, by decide +kernel, rfl, by decide +kernel, by decide +kernel⟩
set_option maxHeartbeats 1000000 in
theorem ok_wire_signs (F : Site K mg "wire_signs" s_wire_signs) (T : Txt K mg t) (D_number_signs : Def P w K mg base 1 "number_signs" ["number", "many"] (sp_number_signs t.BadSign)) : Def P w K mg base 2 "wire_signs" ["wire"] (sp_wire_signs K) := by
  refine F.def sc_wire_signs (fun _ _ _ _ _ _ us hl => match us, hl with | [_], _ => rfl) (fun vs H Q E h => ?_) (fun f cdv A outer s H vs Q E hr h => ?_)
  · obtain ⟨v, w', rfl, _⟩ := h
    rfl
  · obtain ⟨v, w', rfl, hw, ok, q⟩ := h
    refine ⟨_, pss_cons (ps_set (i := 1) sc_wire_signs.nd rfl (Or.inl rfl) (pe_ix (ix_tupK K) (pv 0) pe_int (fun _ _ => rfl)))
      (pss_cons (ps_set (i := 2) sc_wire_signs.nd rfl (Or.inl rfl) (pe_op (op_catK K) (pe_def (D_number_signs.mono (by decide)) hr passN (pa_cons (pe_ix (ix_tupK K) (pv 1) pe_int (fun _ _ => rfl)) (pa_cons (pe_gint T.cBIRTH_SIGNS) pa_nil))) (pe_def (D_number_signs.mono (by decide)) hr passN (pa_cons (pe_ix (ix_tupK K) (pv 1) pe_int (fun _ _ => rfl)) (pa_cons (pe_gint T.cBIRTH_SIGNS) pa_nil)))))
      (pss_one (ps_ret (pe_op (op_catK K) (pe_lst (pa_cons (pe_ix (ix_tupK K) (pv 0) pe_int (fun _ _ => rfl)) (pa_cons (pe_ix (ix_tupK K) (pv 0) pe_int (fun _ _ => rfl)) pa_nil))) (pv 2))))), ?_⟩
    have hsz : (20000 : Nat) ≤ sizeLine := by decide
    obtain ⟨a, p, rfl, h1, h2⟩ := hw.out
    obtain ⟨_, _, ha, hb⟩ := ok
    refine ⟨_, rfl, a, _, _, .ref p, rfl, rfl, h1, rfl, ?_⟩
    refine ⟨_, rfl, p, _, _, .int w'.a, rfl, rfl, h2, rfl, w'.a, 2, rfl, sml_of (by omega) (by omega), by decide, by decide, fun _ _ b1 H1 n1 s1 e1 => ?_, fun z => absurd z (by rw [show (2 : Int).toNat = 2 from rfl, rest2 (by omega) ha.2]; omega)⟩
    refine ⟨_, rfl, p, _, _, .int w'.b, rfl, rfl, s1.tup h2, rfl, w'.b, 2, rfl, sml_of (by omega) (by omega), by decide, by decide, fun _ _ b2 H2 n2 s2 e2 => ?_, fun z => absurd z (by rw [show (2 : Int).toNat = 2 from rfl, rest2 (by omega) hb.2]; omega)⟩
    refine ⟨b1, b2, _, _, rfl, rfl, SqL.of (s2 _ _ e1), SqL.of e2, by show 2 + 2 ≤ sizeLine; decide, fun b3 hb3 => ?_⟩
    have s3 := (Same.refl H2).new (o := .lst ((d2 w'.a ++ d2 w'.b).map V.int)) hb3
    have e3 : (upd H2 b3 (.lst ((d2 w'.a ++ d2 w'.b).map V.int))) b3 = some (.lst ((d2 w'.a ++ d2 w'.b).map V.int)) := upd_same
    have S3 := s1.trans (s2.trans s3)
    refine ⟨_, rfl, a, _, _, .int w'.o, rfl, rfl, S3.tup h1, rfl, _, rfl, a, _, _, .int w'.q, rfl, rfl, S3.tup h1, rfl, by show 2 ≤ sizeLine; decide, fun b4 hb4 => ?_⟩
    have s4 := (Same.refl (upd H2 b3 (.lst ((d2 w'.a ++ d2 w'.b).map V.int)))).new (o := .lst [.int w'.o, .int w'.q]) hb4
    refine ⟨_, rfl, b4, b3, _, _, rfl, rfl, SqL.of upd_same, SqL.of (s4 _ _ e3), by show 2 + 4 ≤ sizeLine; decide, fun b5 hb5 => ?_⟩
    exact q b5 _ (S3.trans (s4.trans ((Same.refl _).new hb5))) upd_same
def sp_wire_of (K : PySem.W.Frag) : Sp := fun vs H Q _ => ∃ (l : Addr) (cs : List Int), vs = [.ref l] ∧ SqL K H l (cs.map V.int) ∧ cs.length = 6 ∧ (∀ n ∈ cs, Sgn1 n) ∧ ∀ (r : Addr) (H' : Hp), Same H H' → WAt K H' (.ref r) (wireD cs) → Q (.ref r) H'
theorem sc_wire_of : FnScope ["signs"] ["signs"] (defScope s_wire_of) := ⟨rfl, rfl, rfl, by decide +kernel, rfl, by decide +kernel, by decide +kernel⟩
set_option maxHeartbeats 1000000 in
theorem ok_wire_of (F : Site K mg "wire_of" s_wire_of) (T : Txt K mg t) (D_signs_number : Def P w K mg base 3 "signs_number" ["signs"] (sp_signs_number K t.BadSign)) : Def P w K mg base 4 "wire_of" ["signs"] (sp_wire_of K) := by
  refine F.def sc_wire_of (fun _ _ _ _ _ _ us hl => match us, hl with | [_], _ => rfl) (fun vs H Q E h => ?_) (fun f cdv A outer s H vs Q E hr h => ?_)
  · obtain ⟨l, cs, rfl, _⟩ := h
    rfl
  · obtain ⟨l, cs, rfl, hl, cl, sg, q⟩ := h
    refine ⟨_, pss_one (ps_ret (pe_tup (pa_cons (pe_ix (ix_listK K) (pv 0) pe_int (fun _ _ => rfl)) (pa_cons (pe_ix (ix_listK K) (pv 0) pe_int (fun _ _ => rfl)) (pa_cons (pe_tup (pa_cons (pe_def (D_signs_number.mono (by decide)) hr passN (pa_cons (pe_slice (sl_listK K) (pv 0) (po_some pe_int) (po_some pe_int)) pa_nil)) (pa_cons (pe_def (D_signs_number.mono (by decide)) hr passN (pa_cons (pe_slice (sl_listK K) (pv 0) (po_some pe_int) (po_some pe_int)) pa_nil)) pa_nil))) pa_nil))))), ?_⟩
    have hsz : (20000 : Nat) ≤ sizeLine := by decide
    obtain ⟨a, b, c, d, e, f, rfl⟩ : ∃ a b c d e f, cs = [a, b, c, d, e, f] := by
      match cs, cl with
      | [a, b, c, d, e, f], _ => exact ⟨a, b, c, d, e, f, rfl⟩
    have sg' : ∀ n ∈ [a, b, c, d, e, f], n.natAbs < 2 ^ 1000 := fun n hn => by
      have := sg n hn
      exact sml_of this.1 (by have := this.2; omega)
    refine ⟨_, rfl, l, _, _, .int a, rfl, rfl, hl, rfl, _, rfl, l, _, _, .int b, rfl, rfl, hl, rfl, ?_⟩
    refine ⟨_, rfl, _, rfl, _, rfl, l, _, rfl, hl, fun p1 hp1 => ?_⟩
    have ec1 : cutV ([a, b, c, d, e, f].map V.int) (some 2) (some 4) = [c, d].map V.int := by rw [cutV_ss (by decide) (by decide)]; rfl
    have ec2 : cutV ([a, b, c, d, e, f].map V.int) (some 4) (some 6) = [e, f].map V.int := by rw [cutV_ss (by decide) (by decide)]; rfl
    rw [ec1]
    have s1 := (Same.refl H).new (o := .lst ([c, d].map V.int)) hp1
    have e1 : (upd H p1 (.lst ([c, d].map V.int))) p1 = some (.lst ([c, d].map V.int)) := upd_same
    generalize upd H p1 (.lst ([c, d].map V.int)) = H1 at s1 e1 ⊢
    have m1 : ∀ n ∈ [c, d], n ∈ [a, b, c, d, e, f] := fun n hn => by simp only [List.mem_cons, List.not_mem_nil, or_false] at hn ⊢; rcases hn with rfl | rfl <;> simp
    have m2 : ∀ n ∈ [e, f], n ∈ [a, b, c, d, e, f] := fun n hn => by simp only [List.mem_cons, List.not_mem_nil, or_false] at hn ⊢; rcases hn with rfl | rfl <;> simp
    refine ⟨p1, [c, d], rfl, SqL.of e1, fun n hn => sg' n (m1 n hn), fun _ => ?_, fun n hn z => absurd (sg n (m1 n hn)) z⟩
    refine ⟨_, rfl, _, rfl, _, rfl, l, _, rfl, s1.seq hl, fun p2 hp2 => ?_⟩
    rw [ec2]
    have s2 := (Same.refl H1).new (o := .lst ([e, f].map V.int)) hp2
    have e2 : (upd H1 p2 (.lst ([e, f].map V.int))) p2 = some (.lst ([e, f].map V.int)) := upd_same
    generalize upd H1 p2 (.lst ([e, f].map V.int)) = H2 at s2 e2 ⊢
    refine ⟨p2, [e, f], rfl, SqL.of e2, fun n hn => sg' n (m2 n hn), fun _ => ?_, fun n hn z => absurd (sg n (m2 n hn)) z⟩
    refine ⟨by show 2 ≤ sizeLine; decide, fun p3 hp3 => ?_⟩
    have s3 := (Same.refl H2).new (o := .tup [.int (My.told [c, d]), .int (My.told [e, f])]) hp3
    have e3 : SqT K (upd H2 p3 (.tup [.int (My.told [c, d]), .int (My.told [e, f])])) p3 [.int (My.told [c, d]), .int (My.told [e, f])] := SqT.of upd_same
    generalize upd H2 p3 (.tup [.int (My.told [c, d]), .int (My.told [e, f])]) = H3 at s3 e3 ⊢
    refine ⟨by show 3 ≤ sizeLine; decide, fun p4 hp4 => ?_⟩
    have s4 := (Same.refl H3).new (o := .tup [.int a, .int b, .ref p3]) hp4
    exact q p4 _ (s1.trans (s2.trans (s3.trans s4))) (WAt.mk (w := ⟨a, b, My.told [c, d], My.told [e, f]⟩) (SqT.of upd_same) (s4.tup e3))
theorem Can.nat {K : PySem.W.Frag} {H : Hp} {v : V} {N : Nw} (c : Can N) (h : IsDat K H 4 v (K46.nwD N)) : NAt K H v N := by
  rw [c.nwD] at h
  exact h
def sp_news_body (K : PySem.W.Frag) : Sp := fun vs H Q _ => ∃ (v : V) (N : Nw), vs = [v] ∧ NAt K H v N ∧ Can N ∧ ∀ (r : Addr) (H' : Hp), Same H H' → SqT K H' r ((nb N).map V.int) → Q (.ref r) H'
theorem sc_news_body : FnScope ["news", "near", "signs", "wire"] ["news"] (defScope s_news_body) := ⟨rfl, rfl, rfl, by decide +kernel, rfl, by decide +kernel, by decide +kernel⟩
set_option maxHeartbeats 2000000 in
theorem ok_news_body (F : Site K mg "news_body" s_news_body) (T : Txt K mg t) (D_number_signs : Def P w K mg base 1 "number_signs" ["number", "many"] (sp_number_signs t.BadSign)) (D_wire_signs : Def P w K mg base 2 "wire_signs" ["wire"] (sp_wire_signs K)) (D_text_signs : Def P w K mg base 2 "text_signs" ["text"] (sp_text_signs t.BadSign)) : Def P w K mg base 3 "news_body" ["news"] (sp_news_body K) := by
  refine F.def sc_news_body (fun _ _ _ _ _ _ us hl => match us, hl with | [_], _ => rfl) (fun vs H Q E h => ?_) (fun f cdv A outer s H vs Q E hr h => ?_)
  · obtain ⟨v, N, rfl, _⟩ := h
    rfl
  · obtain ⟨v, N, rfl, hN, cN, q⟩ := h
    refine ⟨_, pss_cons (ps_set (i := 1) sc_news_body.nd rfl (Or.inl rfl) (pe_ix (ix_tupK K) (pv 0) pe_int (fun _ _ => rfl)))
      (pss_cons (ps_set (i := 2) sc_news_body.nd rfl (Or.inl rfl) (pe_op (op_catK K) (pe_op (op_catK K) (pe_lst (pa_cons (pe_ix (ix_tupK K) (pv 0) pe_int (fun _ _ => rfl)) pa_nil)) (pe_def (D_number_signs.mono (by decide)) hr passN (pa_cons (pe_ix (ix_tupK K) (pv 0) pe_int (fun _ _ => rfl)) (pa_cons (pe_gint T.cNUMBER_SIGNS) pa_nil)))) (pe_lst (pa_cons (pe_callB (call_lenK K) (by rfl) T.n_len boot_len (pa_cons (pv 1) pa_nil)) pa_nil))))
      (pss_cons (PS.nox (ps_for PassesOwn.never rfl (pi_tupK K (pv 1)) (pg_name (i := 3) sc_news_body.nd rfl (Or.inl rfl))
        (pss_one (ps_expr (pe_bmK K PySem.F.plainAttrs_list PySem.F.slot_list_extend PySem.F.type_list_extend mt_extend (pv 2) (pa_cons (pe_def (D_wire_signs.mono (by decide)) hr passN (pa_cons (pv 3) pa_nil)) pa_nil))))))
      (pss_cons (ps_expr (pe_bmK K PySem.F.plainAttrs_list PySem.F.slot_list_extend PySem.F.type_list_extend mt_extend (pv 2) (pa_cons (pe_def (D_text_signs.mono (by decide)) hr passN (pa_cons (pe_bmK K PySem.F.plainAttrs_str PySem.F.slot_str_join PySem.F.type_str_join (mt_joinT K) pe_str (pa_cons (pe_ix (ix_tupK K) (pv 0) pe_int (fun _ _ => rfl)) pa_nil)) pa_nil)) pa_nil)))
      (pss_one (ps_ret (pe_callTy (call_tupleK K) (by rfl) T.n_tuple boot_tuple (pa_cons (pv 2) pa_nil))))))), ?_⟩
    have hsz : (20000 : Nat) ≤ sizeLine := by decide
    obtain ⟨a, p, qn, zs, rfl, h1, h2, h3, h4, h5⟩ := hN.out
    obtain ⟨hh, hn, hw, hm⟩ := cN.ok
    have zl : zs.length = N.near.length := by rw [← h4, List.length_map]
    have wl := hw.2.1
    refine ⟨_, rfl, a, _, _, .ref p, rfl, rfl, h1, rfl, ?_⟩
    refine ⟨_, rfl, a, _, _, .int N.h, rfl, rfl, h1, rfl, by show 1 ≤ sizeLine; decide, fun l1 hl1 => ?_⟩
    have s1 := (Same.refl H).new (o := .lst [.int N.h]) hl1
    have e1 : (upd H l1 (.lst [.int N.h])) l1 = some (.lst [.int N.h]) := upd_same
    generalize upd H l1 (.lst [.int N.h]) = H1 at s1 e1 ⊢
    refine ⟨_, rfl, a, _, _, .int N.n, rfl, rfl, s1.tup h1, rfl, N.n, 3, rfl, sml_of hn.1 (by omega), by decide, by decide, fun _ _ l2 H2 n2 s2 e2 => ?_, fun z => absurd z (by rw [show (3 : Int).toNat = 3 from rfl, rest3 hn.1 hn.2]; omega)⟩
    refine ⟨l1, l2, _, _, rfl, rfl, SqL.of (s2 _ _ e1), SqL.of e2, by show 1 + 3 ≤ sizeLine; decide, fun l3 hl3 => ?_⟩
    have s3 := (Same.refl H2).new (o := .lst (([N.h] ++ d3 N.n).map V.int)) hl3
    have e3 : (upd H2 l3 (.lst (([N.h] ++ d3 N.n).map V.int))) l3 = some (.lst (([N.h] ++ d3 N.n).map V.int)) := upd_same
    have S3 := s1.trans (s2.trans s3)
    refine ⟨_, rfl, p, _, rfl, .inr (S3.tup h2), by show 1 ≤ sizeLine; decide, fun l4 hl4 => ?_⟩
    have s4 := (Same.refl (upd H2 l3 (.lst (([N.h] ++ d3 N.n).map V.int)))).new (o := .lst [.int (((zs.map (·.1)).length : Nat) : Int)]) hl4
    refine ⟨l3, l4, _, _, rfl, rfl, SqL.of (s4 _ _ e3), SqL.of upd_same, by show 4 + 1 ≤ sizeLine; decide, fun l5 hl5 => ?_⟩
    have S4 := S3.trans s4
    have n5 : H l5 = none := by
      cases e : H l5 with
      | none => rfl
      | some o => exact absurd ((S4 _ _ e).symm.trans hl5) (by simp)
    have s5 := (Same.refl _).new (o := .lst (([N.h] ++ d3 N.n ++ [(((zs.map (·.1)).length : Nat) : Int)]).map V.int)) hl5
    have S5 := S4.trans s5
    let I : Nat → _ → _ → Prop := fun i σ H' => ∃ v3 : Option V, σ = [some (.ref a), some (.ref p), some (.ref l5), v3] ∧ Same H H' ∧ H' l5 = some (.lst (([N.h] ++ d3 N.n ++ [(((zs.map (·.1)).length : Nat) : Int)] ++ (N.near.take i).flatMap wS).map V.int))
    refine ⟨_, rfl, p, rfl, ⟨_, S5.tup h2⟩, for_tup (K := K) (a := p) (xs := zs.map (·.1)) I ⟨none, rfl, S5, upd_same⟩ (fun i σ H' _ ⟨_, _, s, _⟩ => s.tup h2) ?_ ?_⟩
    · rintro i y σ H6 hi ⟨v3, rfl, s6, e6⟩
      rw [List.getElem?_map] at hi
      cases ez : zs[i]? with
      | none => rw [ez] at hi; cases hi
      | some z =>
        rw [ez] at hi
        cases hi
        have hz := List.mem_of_getElem? ez
        have en : N.near[i]? = some z.2 := by rw [← h4, List.getElem?_map, ez]; rfl
        have il : i < zs.length := (List.getElem?_eq_some_iff.mp ez).1
        refine ⟨_, rfl, .inl ⟨rfl, _, SqL.of e6⟩, _, rfl, z.1, z.2, rfl, (h3 z hz).same s6, hw.1 _ (List.mem_of_getElem? en), fun r H7 s7 e7 => ?_⟩
        have e6' := s7 _ _ e6
        refine ⟨l5, r, _, _, rfl, rfl, e6', e7, ?_, ⟨_, rfl, (s6.trans s7).put n5, ?_⟩⟩
        · simp only [List.length_map, List.length_append, flat_len, List.length_take, wS_len]
          show 1 + 3 + 1 + _ + 6 ≤ sizeLine
          omega
        · rw [upd_same, take_succ en, List.flatMap_append, ← List.map_append, List.append_assoc]
          simp
    rintro σ H6 ⟨v3, rfl, s6, e6⟩
    rw [List.length_map, zl, List.take_length] at e6
    refine ⟨_, rfl, .inl ⟨rfl, _, SqL.of e6⟩, ?_⟩
    have ej : Txt.join " " (N.names.map ofCodes) = ofCodes (jn N.names) := by
      rw [BL, ← join_jn]
      exact StrLaws.glued_eq_join _ _
    have l4' : ∀ x ∈ N.names, x.length ≤ 4 := fun x hx => (hm.2.2 x hx).1.2
    have jl := jn_len N.names l4'
    have m4 := hm.1
    have ev : N.names.map nmV = (N.names.map ofCodes).map V.str := by rw [List.map_map]; rfl
    have su : ((N.names.map ofCodes).map (·.length)).sum ≤ 4 * N.names.length := by
      clear jl m4 ev ej e6 hm h5
      generalize N.names = ns at l4'
      induction ns with
      | nil => exact Nat.le_refl _
      | cons n ns ih =>
        have h1 := l4' n List.mem_cons_self
        have h2 := ih fun x hx => l4' x (List.mem_cons_of_mem _ hx)
        rw [List.map_cons, List.map_cons, List.sum_cons, List.length_cons]
        show n.toArray.size + _ ≤ _
        rw [List.size_toArray]
        omega
    refine ⟨rfl, _, rfl, a, _, _, .ref qn, rfl, rfl, s6.tup h1, rfl, " ", qn, N.names.map ofCodes, rfl, rfl, by rw [← ev]; exact s6.tup h5, ?_, ?_⟩
    · rw [List.length_map, BL]
      show _ + N.names.length * 1 ≤ _
      omega
    rw [ej]
    have lt : ∀ c ∈ jn N.names, c < 128 ∧ 0 ≤ fnd c := fun c hc => by
      have hl := let_of hm.2.2 hc
      have h0 : c < 128 := by omega
      exact ⟨h0, (let_sg c h0 hl).1⟩
    refine ⟨jn N.names, rfl, fun c hc => (lt c hc).1, by omega, fun _ r2 H7 n7 s7 e7 => ?_, fun c hc z => absurd (lt c hc).2 (by omega)⟩
    have e6' := s7 _ _ e6
    refine ⟨l5, r2, _, _, rfl, rfl, e6', e7, ?_, ?_⟩
    · simp only [List.length_map, List.length_append, flat_len]
      show 1 + 3 + 1 + _ + _ ≤ sizeLine
      omega
    rw [← List.map_append]
    have s8 := (s6.trans s7).put n5 (o := .lst (([N.h] ++ d3 N.n ++ [(N.near.length : Int)] ++ N.near.flatMap wS ++ (jn N.names).map fnd).map V.int))
    refine ⟨_, rfl, l5, _, rfl, .inl ⟨SqL.of upd_same, fun r3 hr3 => ?_⟩⟩
    exact q r3 _ (s8.trans ((Same.refl _).new hr3)) (SqT.of upd_same)
end
end K46
namespace K46
open PySem L2 PyProof.Rows
section
variable {P : Program} {w : World} {K : PySem.W.Frag} {mg : Str → Option Value} {base : Heap} {t : Ad}
/-! names_of -/
theorem rc_len : ∀ c < 128, (Builtin.Str.reprChar 39 c).length ≤ 10 ∧ (Builtin.Str.reprChar 34 c).length ≤ 10 := by decide +kernel
theorem rep_fold (q : Nat) (hq : ∀ c < 128, (Builtin.Str.reprChar q c).length ≤ 10) : ∀ (l : List Nat) (a : Array Nat), (∀ c ∈ l, c < 128) → (l.foldl (fun out c => out ++ (Builtin.Str.reprChar q c).toArray) a).size ≤ a.size + 10 * l.length
  | [], a, _ => by simp
  | c :: l, a, h => by
    have ih := rep_fold q hq l (a ++ (Builtin.Str.reprChar q c).toArray) fun x hx => h x (List.mem_cons_of_mem _ hx)
    have hc := hq c (h c List.mem_cons_self)
    rw [List.foldl_cons]
    have e : (Builtin.Str.reprChar q c).toArray.size = (Builtin.Str.reprChar q c).length := List.size_toArray ..
    rw [Array.size_append, e] at ih
    rw [List.length_cons]
    omega
theorem rep_len {n : List Nat} (h : ∀ c ∈ n, c < 128) (hl : n.length ≤ 90) : (reprText (ofCodes n)).length ≤ 1000 := by
  have hq : reprQuote (ofCodes n) = 39 ∨ reprQuote (ofCodes n) = 34 := by
    unfold reprQuote
    split <;> simp
  have hb : ∀ c < 128, (Builtin.Str.reprChar (reprQuote (ofCodes n)) c).length ≤ 10 := fun c hc => by
    rcases hq with e | e <;> rw [e]
    · exact (rc_len c hc).1
    · exact (rc_len c hc).2
  have := rep_fold _ hb n #[reprQuote (ofCodes n)] h
  show ((n.toArray.foldl (fun out c => out ++ (Builtin.Str.reprChar (reprQuote (ofCodes n)) c).toArray) #[reprQuote (ofCodes n)]).push (reprQuote (ofCodes n))).size ≤ 1000
  rw [Array.size_push]
  have e : (#[reprQuote (ofCodes n)] : Array Nat).size = 1 := rfl
  simp only [List.foldl_toArray] at *
  omega
def sp_names_of (K : PySem.W.Frag) (C : Addr) : Sp := fun vs H Q E => ∃ (l : Addr) (ns : List Int), vs = [.ref l] ∧ SqL K H l (ns.map V.int) ∧ (∀ n ∈ ns, Sgn1 n) ∧ ns.length ≤ 90 ∧
  ((∀ n ∈ ns, n < 96 ∧ n ≠ 5) → ∀ (r : Addr) (H' : Hp), Same H H' → H' r = some (.lst ((nmsD ns).map nmV)) → Q (.ref r) H') ∧ ((∃ n ∈ ns, ¬ (n < 96 ∧ n ≠ 5)) → ∀ (x : Option Addr) (H' : Hp), Same H H' → E (.ref C) x H')
theorem sc_names_of : FnScope ["signs"] ["signs"] (defScope s_names_of) := ⟨rfl, rfl, rfl, by decide +kernel, rfl, by decide +kernel, by decide +kernel⟩
set_option maxHeartbeats 1000000 in
theorem ok_names_of (F : Site K mg "names_of" s_names_of) (T : Txt K mg t) (D_signs_text : Def P w K mg base 2 "signs_text" ["signs"] (sp_signs_text K t.BadSign)) : Def P w K mg base 3 "names_of" ["signs"] (sp_names_of K t.BadNews) := by
  refine F.def sc_names_of (fun _ _ _ _ _ _ us hl => match us, hl with | [_], _ => rfl) (fun vs H Q E h => ?_) (fun f cdv A outer s H vs Q E hr h => ?_)
  · obtain ⟨l, ns, rfl, _⟩ := h
    rfl
  · obtain ⟨l, ns, rfl, hl, sg, nl, q, qe⟩ := h
    refine ⟨_, pss_cons (ps_if (pt_not (pt_truth (pv 0) (fun _ => rfl)))
        (pss_one (ps_ret (pe_lst pa_nil)))
        (pss_nil))
      (pss_one (ps_tryF (E1 := fun c x H' => c = .ref t.BadSign ∧ x = none ∧ (∃ n ∈ ns, ¬ (n < 96 ∧ n ≠ 5)) ∧ Same H H') cx1_body rfl T.mBadSign T.catchBadSign rfl T.mBadNews T.xBadNews T.kpBadNews PySem.F.excBase_ValueError
        (fun pins => pss_one (ps_ret (pe_bmK K PySem.F.plainAttrs_str PySem.F.slot_str_split PySem.F.type_str_split mt_split (pe_def (D_signs_text.mono (by decide)) hr passTry (pa_cons (pv 0) pa_nil)) (pa_cons pe_str pa_nil))))
        (fun a => (pa_cons pe_str pa_nil)))), ?_⟩
    have hsz : (20000 : Nat) ≤ sizeLine := by decide
    by_cases c : ns = []
    · subst c
      refine ⟨_, rfl, false, .inl ⟨_, hl, rfl⟩, ?_⟩
      refine (show if (!false) = true then _ else _ from iteT ?_)
      refine ⟨by show 0 ≤ sizeLine; decide, fun r hr2 => ?_⟩
      exact q (fun n hn => absurd hn List.not_mem_nil) r _ ((Same.refl H).new hr2) upd_same
    refine ⟨_, rfl, true, .inl ⟨_, hl, by cases ns with | nil => exact absurd rfl c | cons _ _ => rfl⟩, ?_⟩
    refine (show if (!true) = true then _ else _ from iteF ?_)
    refine ⟨?_, ?_⟩
    · refine ⟨_, rfl, l, ns, rfl, hl, fun n hn => sml_of (sg n hn).1 (by have := (sg n hn).2; omega), by omega, fun ok H1 s1 => ?_, fun n hn no H1 s1 => ⟨rfl, rfl, ⟨n, hn, fun z => no ⟨(sg n hn).1, z⟩⟩, s1⟩⟩
      refine ⟨rfl, ?_⟩
      have pl : ∀ p ∈ prts (ns.map fun n => code n.toNat), (prts (ns.map fun n => code n.toNat)).length ≤ 91 := fun p hp => by
        have := (prts_len hp).2
        rw [List.length_map] at this
        omega
      have pz : (prts (ns.map fun n => code n.toNat)).length ≤ 91 := by
        cases e : prts (ns.map fun n => code n.toNat) with
        | nil => exact Nat.zero_le _
        | cons p r => rw [← e]; exact pl p (by rw [e]; exact List.mem_cons_self)
      refine ⟨ofCodes (ns.map fun n => code n.toNat), " ", rfl, rfl, by rw [BL]; rfl, by show (ns.map _).toArray.size ≤ 1000; rw [List.size_toArray, List.length_map]; omega, by rw [BL, ← prts_of, List.length_map]; omega, fun r hr2 => ?_⟩
      have e : (Txt.split (ofCodes (ns.map fun n => code n.toNat)) " ").map V.str = (nmsD ns).map nmV := by
        rw [BL, ← prts_of, List.map_map]
        unfold nmsD
        rw [if_neg c]
        rfl
      rw [e]
      exact q (fun n hn => ⟨(ok n hn).2.1, (ok n hn).2.2⟩) r _ (s1.new hr2) upd_same
    · rintro σ' a C H' x hlen ⟨hc, rfl, no, s1⟩ hna
      cases hc
      exact ⟨rfl, T.subBadSign_BadSign, by show 1 ≤ sizeLine; decide, upd_same, fun y => qe no _ _ (s1.new hna)⟩
end
end K46
namespace K46
open PySem L2 PyProof.Rows
section
variable {P : Program} {w : World} {K : PySem.W.Frag} {mg : Str → Option Value} {base : Heap} {t : Ad}
/-! news_of -/
theorem eqvAll_ints : ∀ xs ys : List Int, PyData.eqvAll (xs.map .int) (ys.map .int) = decide (xs = ys)
  | [], [] => by simp [PyData.eqvAll]
  | [], _ :: _ => by simp [PyData.eqvAll]
  | _ :: _, [] => by simp [PyData.eqvAll]
  | x :: xs, y :: ys => by
    have ih := eqvAll_ints xs ys
    simp only [List.map_cons, PyData.eqvAll, ih, PyData.eqv]
    by_cases c : x = y
    · subst c; simp
    · simp [c]
theorem tup_dat {K : PySem.W.Frag} {H : Hp} {n : Nat} {a : Addr} {xs : List Int} (h : SqT K H a (xs.map V.int)) : IsDat K H (n + 1) (.ref a) (.tuple (xs.map .int)) := by
  refine .tup h (by rw [List.length_map, List.length_map]) fun i x d e1 e2 => ?_
  rw [List.getElem?_map] at e1 e2
  cases e : xs[i]? with
  | none => rw [e] at e1; cases e1
  | some o => rw [e] at e1 e2; cases e1; cases e2; exact .int _
theorem told_small : ∀ l : List Int, (∀ s ∈ l, Sgn1 s) → l.length ≤ 3 → 0 ≤ My.told l ∧ My.told l ≤ 1000000
  | [], _, _ => by decide
  | [a], h, _ => by
    have ha : 0 ≤ a ∧ a < 97 := h a (by simp)
    show 0 ≤ 0 * 97 + a ∧ 0 * 97 + a ≤ 1000000
    omega
  | [a, b], h, _ => by
    have ha : 0 ≤ a ∧ a < 97 := h a (by simp)
    have hb : 0 ≤ b ∧ b < 97 := h b (by simp)
    show 0 ≤ (0 * 97 + a) * 97 + b ∧ (0 * 97 + a) * 97 + b ≤ 1000000
    omega
  | [a, b, c], h, _ => by
    have ha : 0 ≤ a ∧ a < 97 := h a (by simp)
    have hb : 0 ≤ b ∧ b < 97 := h b (by simp)
    have hc : 0 ≤ c ∧ c < 97 := h c (by simp)
    show 0 ≤ ((0 * 97 + a) * 97 + b) * 97 + c ∧ ((0 * 97 + a) * 97 + b) * 97 + c ≤ 1000000
    omega
  | _ :: _ :: _ :: _ :: _, _, h => by simp at h
theorem wireD_s {c : List Int} (h : ∀ s ∈ c, Sgn1 s) : WrS (wireD c) := by
  have g : ∀ i, 0 ≤ c.getD i 0 ∧ c.getD i 0 ≤ 1000000 := fun i => by
    by_cases z : i < c.length
    · have := h (c.getD i 0) (by simp [z])
      exact ⟨this.1, by have := this.2; omega⟩
    · rw [List.getD_eq_getElem?_getD, List.getElem?_eq_none (by omega)]
      exact ⟨Int.le_refl _, by decide⟩
  have k : ∀ i, 0 ≤ My.told ((c.drop i).take 2) ∧ My.told ((c.drop i).take 2) ≤ 1000000 := fun i => told_small _ (fun s hs => h s (List.mem_of_mem_drop (List.mem_of_mem_take hs))) (by rw [List.length_take]; omega)
  exact ⟨sml_of (g 0).1 (g 0).2, sml_of (g 1).1 (g 1).2, sml_of (k 2).1 (k 2).2, sml_of (k 4).1 (k 4).2⟩
theorem code_lt {n : Int} (h : Sgn1 n) (h2 : n < 96 ∧ n ≠ 5) : code n.toNat < 128 := (code_ok n.toNat (by have := h.1; omega) (by omega)).2
theorem ntu_lst {H : Hp} {a : Addr} {xs : List V} (h : H a = some (.lst xs)) : ∀ ys, ¬ Rd H a (.tup ys) := fun ys e => by rcases e with e | ⟨u, e⟩ <;> (rw [h] at e; cases e)
theorem kept_of2 {H : Hp} {D : Addr} {o : HO} (h : ∀ ys, ¬ Rd H D (.tup ys)) : Kept H (upd H D o) := fun a xs e => by
  have n : a ≠ D := fun z => h xs (z ▸ e)
  rcases e with e | ⟨u, e⟩
  · exact .inl (by rw [upd_ne n]; exact e)
  · exact .inr ⟨u, by rw [upd_ne n]; exact e⟩
def sp_news_of (K : PySem.W.Frag) (C : Addr) : Sp := fun vs H Q E => ∃ (p : Addr) (bs : List Int), vs = [.ref p] ∧ SqT K H p (bs.map V.int) ∧ (∀ b ∈ bs, b.natAbs < 2 ^ 1000) ∧ bs.length ≤ 58 ∧
  (∀ N, Can N → nb N = bs → ∀ (r : Addr) (H' : Hp), Same H H' → NAt K H' (.ref r) N → Q (.ref r) H') ∧ ((∀ N, Can N → nb N ≠ bs) → ∀ (x : Option Addr) (H' : Hp), Same H H' → E (.ref C) x H')
theorem sc_news_of : FnScope ["body", "signs", "names_at", "near", "news"] ["body"] (defScope s_news_of) := ⟨rfl, rfl, rfl, by decide +kernel, rfl, by decide +kernel, by decide +kernel⟩
set_option maxHeartbeats 4000000 in
theorem ok_news_of (F : Site K mg "news_of" s_news_of) (T : Txt K mg t) (D_is_sign : Def P w K mg base 1 "is_sign" ["number"] sp_is_sign) (D_wire_of : Def P w K mg base 4 "wire_of" ["signs"] (sp_wire_of K)) (D_signs_number : Def P w K mg base 3 "signs_number" ["signs"] (sp_signs_number K t.BadSign)) (D_names_of : Def P w K mg base 3 "names_of" ["signs"] (sp_names_of K t.BadNews)) (D_made_news : Def P w K mg base 5 "made_news" ["house", "number", "near", "names"] (sp_made_news K t.BadNews)) (D_news_body : Def P w K mg base 3 "news_body" ["news"] (sp_news_body K)) : Def P w K mg base 6 "news_of" ["body"] (sp_news_of K t.BadNews) := by
  refine F.def sc_news_of (fun _ _ _ _ _ _ us hl => match us, hl with | [_], _ => rfl) (fun vs H Q E h => ?_) (fun f cdv A outer s H vs Q E hr h => ?_)
  · obtain ⟨p, bs, rfl, _⟩ := h
    rfl
  · obtain ⟨p, bs, rfl, hp, sm, bl, q, qe⟩ := h
    refine ⟨_, pss_cons (ps_set (i := 1) sc_news_of.nd rfl (Or.inr rfl) (pe_callTy (call_listK K) (by rfl) T.n_list boot_list (pa_cons (pv 0) pa_nil)))
      (pss_cons (ps_if (PW.pt (pw_or (pt_cmpR op_lt (pe_callB (call_lenK K) (by rfl) T.n_len boot_len (pa_cons (pv 1) pa_nil)) (pe_gint T.cNEAR_AT) (nomark _)) (pw_or1 (pt_not (pt_val (pe_callB (call_allK K rfl) (by rfl) T.n_all boot_all (pa_cons (pe_lc rfl (Nc := ["sign"]) (ix := [none]) (cscope (defScope s_news_of) ["body", "signs", "names_at", "near", "news"] rfl rfl (by decide +kernel)) (pi_listK K (pv 1)) (fun C fp s H => ⟨(pg_name (i := 0) (show (["sign"] : List Str).Nodup by decide +kernel) rfl (Or.inl rfl)), pts_nil, (pe_def (D_is_sign.mono (by decide)) hr passN (pa_cons (pv 0) pa_nil))⟩)) pa_nil)))))))
        (pss_one (ps_raise cx1_body rfl rfl T.mBadNews T.xBadNews PySem.F.excBase_ValueError (pa_cons pe_str pa_nil)))
        (pss_nil))
      (pss_cons (ps_set (i := 2) sc_news_of.nd rfl (Or.inl rfl) (pe_op op_add (pe_gint T.cNEAR_AT) (pe_op op_mul (pe_gint T.cWIRE_SIGNS) (pe_ix (ix_listK K) (pv 1) (pe_gint T.cMANY_AT) (fun _ _ => rfl)))))
      (pss_cons (ps_if (pt_cmpR op_lt (pe_callB (call_lenK K) (by rfl) T.n_len boot_len (pa_cons (pv 1) pa_nil)) (pv 2) (nomark _))
        (pss_one (ps_raise cx1_body rfl rfl T.mBadNews T.xBadNews PySem.F.excBase_ValueError (pa_cons pe_str pa_nil)))
        (pss_nil))
      (pss_cons (ps_setLC (i := 3) sc_news_of.nd rfl (Or.inl rfl) rfl (Nc := ["at", "signs"]) (ix := [none, some 1]) (cscope (defScope s_news_of) ["body", "signs", "names_at", "near", "news"] rfl rfl (by decide +kernel)) (pi_range3 (by rfl) T.n_range (pa_cons (pe_gint T.cNEAR_AT) (pa_cons (pv 2) (pa_cons (pe_gint T.cWIRE_SIGNS) pa_nil)))) (fun C fp s H => ⟨(pg_name (i := 0) (show (["at", "signs"] : List Str).Nodup by decide +kernel) rfl (Or.inl rfl)), pts_nil, (pe_def (D_wire_of.mono (by decide)) hr passN (pa_cons (pe_slice (sl_listK K) (pv 1) (po_some (pv 0)) (po_some (pe_op op_add (pv 0) (pe_gint T.cWIRE_SIGNS)))) pa_nil))⟩))
      (pss_cons (ps_set (i := 4) sc_news_of.nd rfl (Or.inl rfl) (pe_def (D_made_news.mono (by decide)) hr (pass1 cx1_body) (pa_cons (pe_ix (ix_listK K) (pv 1) pe_int (fun _ _ => rfl)) (pa_cons (pe_def (D_signs_number.mono (by decide)) hr (pass1 cx1_body) (pa_cons (pe_slice (sl_listK K) (pv 1) (po_some (pe_gint T.cNUMBER_AT)) (po_some (pe_gint T.cMANY_AT))) pa_nil)) (pa_cons (pv 3) (pa_cons (pe_def (D_names_of.mono (by decide)) hr (pass1 cx1_body) (pa_cons (pe_slice (sl_listK K) (pv 1) (po_some (pv 2)) po_none) pa_nil)) pa_nil))))))
      (pss_cons (ps_if (pt_cmpR (op_neD K (hu16 hr)) (pe_def (D_news_body.mono (by decide)) hr passN (pa_cons (pv 4) pa_nil)) (pe_callTy (call_tupleK K) (by rfl) T.n_tuple boot_tuple (pa_cons (pv 1) pa_nil)) (nomark _))
        (pss_one (ps_raise cx1_body rfl rfl T.mBadNews T.xBadNews PySem.F.excBase_ValueError (pa_cons pe_str pa_nil)))
        (pss_nil))
      (pss_one (ps_ret (pv 4))))))))), ?_⟩
    have hsz : (20000 : Nat) ≤ sizeLine := by decide
    refine ⟨_, rfl, p, _, rfl, .inr hp, fun l hl => ?_⟩
    have s1 := (Same.refl H).new (o := .lst (bs.map V.int)) hl
    have e1 : (upd H l (.lst (bs.map V.int))) l = some (.lst (bs.map V.int)) := upd_same
    generalize upd H l (.lst (bs.map V.int)) = H1 at s1 e1 ⊢
    refine ⟨_, rfl, l, _, rfl, .inl (SqL.of e1), ?_⟩
    refine ⟨_, _, rfl, rfl, _, rfl, ?_⟩
    by_cases c5 : (((bs.map V.int).length : Nat) : Int) < 5
    · rw [decide_eq_true c5]
      refine iteT (iteT ⟨by show 1 ≤ sizeLine; decide, qe (fun N cN e => ?_) none _ s1⟩)
      rw [List.length_map, ← e] at c5
      have := (nb_len cN.ok).1
      omega
    rw [decide_eq_false c5]
    refine iteF ?_
    rw [List.length_map] at c5
    refine ⟨_, rfl, l, rfl, ⟨_, SqL.of e1⟩, fun D hD => ?_⟩
    refine lc_list (K := K) (a := l) (xs := bs.map V.int) (fun i σ H' => ∃ v : Option V, σ = [v] ∧ Same H1 H' ∧ H' D = some (.lst (((bs.take i).map fun n => decide (0 ≤ n ∧ n < 97)).map V.bl))) ⟨none, rfl, (Same.refl _).new hD, upd_same⟩ (fun i σ H' _ ⟨_, _, s, _⟩ => SqL.of (s _ _ e1)) ?_ ?_
    · rintro i y σ H2 N hN hi ⟨v, rfl, s2, e2⟩
      obtain ⟨n, hn, rfl⟩ := item_of hi
      have il : i < bs.length := (List.getElem?_eq_some_iff.mp hn).1
      refine turn_do ?_
      refine ⟨_, rfl, n, rfl, _, e2, by rw [List.length_map, List.length_map, List.length_take]; omega, hN _ _ ⟨_, rfl, s2.put hD, ?_⟩⟩
      rw [upd_same, take_succ hn, List.map_append, List.map_append]
      rfl
    rintro σ H2 ⟨v, rfl, s2, e2⟩
    rw [List.length_map, List.take_length] at e2
    refine ⟨D, _, rfl, SqL.of e2, _, rfl, ?_⟩
    have S2 := s1.trans s2
    by_cases sg : ∀ n ∈ bs, Sgn1 n
    · have ea : (bs.map fun n => decide (0 ≤ n ∧ n < 97)).all id = true := by
        rw [List.all_map, List.all_eq_true]
        exact fun n hn => decide_eq_true (sg n hn)
      rw [ea]
      refine (show if (!true) = true then _ else _ from iteF ?_)
      have e12 := s2 _ _ e1
      obtain ⟨m, em⟩ : ∃ m : Nat, bs[4]? = some (m : Int) := by
        have h4 : 4 < bs.length := by omega
        have := sg bs[4] (List.getElem_mem h4)
        exact ⟨bs[4].toNat, by rw [List.getElem?_eq_getElem h4]; congr 1; have := this.1; omega⟩
      have m97 : m < 97 := by have := (sg _ (List.mem_of_getElem? em)).2; omega
      have em' : bs.getD 4 0 = (m : Int) := by rw [List.getD_eq_getElem?_getD, em]; rfl
      have at4 : atI (bs.map V.int) 4 = some (.int m) := (by have z := atI_nat (show (bs.map V.int)[4]? = some (V.int m) by rw [List.getElem?_map, em]; rfl); exact z)
      refine ⟨_, rfl, l, _, _, .int m, rfl, rfl, SqL.of e12, at4, _, _, rfl, rfl, .inl ⟨by decide, by decide⟩, _, _, rfl, rfl, ?_⟩
      refine ⟨_, rfl, l, _, rfl, .inl (SqL.of e12), _, rfl, _, _, rfl, rfl, _, rfl, ?_⟩
      -- what news told by bs would have
      have is_dec : ∀ N, Can N → nb N = bs → dec bs = N := fun N cN e => by rw [← e]; exact dec_nb cN.ok
      by_cases cl : (((bs.map V.int).length : Nat) : Int) < 5 + 6 * (m : Int)
      · rw [decide_eq_true cl]
        refine iteT ⟨by show 1 ≤ sizeLine; decide, qe (fun N cN e => ?_) none _ S2⟩
        rw [List.length_map] at cl
        have h1 := (nb_len cN.ok).1
        rw [e] at h1
        have h2 : (m : Int) = (N.near.length : Int) := by rw [← em', ← e, nb_eq]; rfl
        omega
      rw [decide_eq_false cl]
      refine iteF ?_
      rw [List.length_map] at cl
      have rs : (Builtin.Range.rangeSize 5 (5 + 6 * (m : Int)) 6).toNat = m := by
        unfold Builtin.Range.rangeSize
        rw [if_pos (by decide)]
        split <;> omega
      refine ⟨_, rfl, 5, 5 + 6 * (m : Int), 6, rfl, ?_, fun D2 hD2 => ?_⟩
      · exact ⟨by decide, by decide, by omega, by omega, by decide, by decide⟩
      rw [rs]
      let J : Nat → _ → _ → Prop := fun i σ H' => ∃ (v : Option V) (zs : List (V × Wr)), σ = [v, some (.ref l)] ∧ Same H2 H' ∧ H' D2 = some (.lst (zs.map (·.1))) ∧ WsAt K H' zs ∧ zs.map (·.2) = (List.range i).map fun k => wireD ((bs.drop (5 + 6 * k)).take 6)
      refine lc_range3 (lo := 5) (st := 6) (n := m) J ⟨none, [], rfl, (Same.refl _).new hD2, upd_same, fun z hz => absurd hz List.not_mem_nil, rfl⟩ ?_ ?_
      · rintro i σ H3 N hN hi ⟨v, zs, rfl, s3, e3, w3, z3⟩
        have zl : zs.length = i := by have := congrArg List.length z3; rwa [List.length_map, List.length_map, List.length_range] at this
        refine turn_do ?_
        have ec : cutV (bs.map V.int) (some (5 + (i : Int) * 6)) (some (5 + (i : Int) * 6 + 6)) = ((bs.drop (5 + 6 * i)).take 6).map V.int := by
          rw [cutV_ss (by omega) (by omega), ← List.map_drop, ← List.map_take]
          rw [show (5 + (i : Int) * 6).toNat = 5 + 6 * i by omega, show (5 + (i : Int) * 6 + 6).toNat - (5 + 6 * i) = 6 by omega]
        refine ⟨_, rfl, _, rfl, _, rfl, _, rfl, _, _, rfl, rfl, _, rfl, l, _, rfl, SqL.of (s3 _ _ e12), fun p1 hp1 => ?_⟩
        rw [ec]
        have s4 := (Same.refl H3).new (o := .lst (((bs.drop (5 + 6 * i)).take 6).map V.int)) hp1
        have e4 : (upd H3 p1 (.lst (((bs.drop (5 + 6 * i)).take 6).map V.int))) p1 = some (.lst (((bs.drop (5 + 6 * i)).take 6).map V.int)) := upd_same
        generalize upd H3 p1 (.lst (((bs.drop (5 + 6 * i)).take 6).map V.int)) = H4 at s4 e4 ⊢
        refine ⟨p1, _, rfl, SqL.of e4, by rw [List.length_take, List.length_drop]; omega, fun n hn => sg n (List.mem_of_mem_drop (List.mem_of_mem_take hn)), fun r H5 s5 w5 => ?_⟩
        have e5 := s5 _ _ (s4 _ _ e3)
        have kz := kept_of2 (o := .lst (zs.map (·.1) ++ [V.ref r])) (ntu_lst e5)
        refine ⟨_, e5, by rw [List.length_map]; omega, hN _ _ ⟨_, zs ++ [(.ref r, wireD ((bs.drop (5 + 6 * i)).take 6))], rfl, (s3.trans (s4.trans s5)).put hD2, by rw [upd_same, List.map_append]; rfl, fun z hz => ?_, by rw [List.map_append, z3, List.range_succ, List.map_append]; rfl⟩⟩
        rcases List.mem_append.mp hz with h | h
        · exact ((w3 z h).same (s4.trans s5)).kept kz
        · rw [List.mem_singleton.mp h]; exact w5.kept kz
      rintro σ H3 ⟨v3, zs, rfl, s3, e3, w3, z3⟩
      have zl : zs.length = m := by have := congrArg List.length z3; rwa [List.length_map, List.length_map, List.length_range] at this
      have S3 := S2.trans s3
      have e13 := s3 _ _ e12
      obtain ⟨b0, eb0⟩ : ∃ b0, bs[0]? = some b0 := ⟨bs[0]'(by omega), by simp [show 0 < bs.length by omega]⟩
      have eb0' : bs.getD 0 0 = b0 := by rw [List.getD_eq_getElem?_getD, eb0]; rfl
      have sb0 := sg _ (List.mem_of_getElem? eb0)
      have at0 : atI (bs.map V.int) 0 = some (.int b0) := (by have z := atI_nat (show (bs.map V.int)[0]? = some (V.int b0) by rw [List.getElem?_map, eb0]; rfl); exact z)
      refine ⟨_, rfl, l, _, _, .int b0, rfl, rfl, SqL.of e13, at0, ?_⟩
      have ec1 : cutV (bs.map V.int) (some 1) (some 4) = ((bs.drop 1).take 3).map V.int := by rw [cutV_ss (by decide) (by decide), ← List.map_drop, ← List.map_take]; rfl
      refine ⟨_, rfl, _, rfl, _, rfl, l, _, rfl, SqL.of e13, fun p1 hp1 => ?_⟩
      rw [ec1]
      have s4 := (Same.refl H3).new (o := .lst (((bs.drop 1).take 3).map V.int)) hp1
      have e4 : (upd H3 p1 (.lst (((bs.drop 1).take 3).map V.int))) p1 = some (.lst (((bs.drop 1).take 3).map V.int)) := upd_same
      generalize upd H3 p1 (.lst (((bs.drop 1).take 3).map V.int)) = H4 at s4 e4 ⊢
      have sg3 : ∀ n ∈ (bs.drop 1).take 3, Sgn1 n := fun n hn => sg n (List.mem_of_mem_drop (List.mem_of_mem_take hn))
      have t3 := told_small _ sg3 (by rw [List.length_take]; omega)
      refine ⟨p1, _, rfl, SqL.of e4, fun n hn => sml_of (sg3 n hn).1 (by have := (sg3 n hn).2; omega), fun _ => ?_, fun n hn z => absurd (sg3 n hn) z⟩
      have ec2 : cutV (bs.map V.int) (some (5 + 6 * (m : Int))) none = (bs.drop (5 + 6 * m)).map V.int := by rw [cutV_sn (by omega), ← List.map_drop, show (5 + 6 * (m : Int)).toNat = 5 + 6 * m by omega]
      refine ⟨_, rfl, _, rfl, _, rfl, _, rfl, l, _, rfl, SqL.of (s4 _ _ e13), fun p2 hp2 => ?_⟩
      rw [ec2]
      have s5 := (Same.refl H4).new (o := .lst ((bs.drop (5 + 6 * m)).map V.int)) hp2
      have e5 : (upd H4 p2 (.lst ((bs.drop (5 + 6 * m)).map V.int))) p2 = some (.lst ((bs.drop (5 + 6 * m)).map V.int)) := upd_same
      generalize upd H4 p2 (.lst ((bs.drop (5 + 6 * m)).map V.int)) = H5 at s5 e5 ⊢
      have sgR : ∀ n ∈ bs.drop (5 + 6 * m), Sgn1 n := fun n hn => sg n (List.mem_of_mem_drop hn)
      have S5 := S3.trans (s4.trans s5)
      have mlen : ∀ N, Can N → nb N = bs → m = N.near.length := fun N cN e => by
        have h2 : (m : Int) = (N.near.length : Int) := by rw [← em', ← e, nb_eq]; rfl
        omega
      refine ⟨p2, _, rfl, SqL.of e5, sgR, by rw [List.length_drop]; omega, fun ok rn H6 s6 e6 => ?_, fun no x H6 s6 => qe (fun N cN e => ?_) x _ (S5.trans s6)⟩
      · have eD : (⟨b0, My.told ((bs.drop 1).take 3), zs.map (·.2), nmsD (bs.drop (5 + 6 * m))⟩ : Nw) = dec bs := by
          unfold dec
          rw [eb0', em', z3, show ((m : Int)).toNat = m by omega]
        have S6 := S5.trans s6
        have w6 := w3.same (s4.trans (s5.trans s6))
        have e36 := (s4.trans (s5.trans s6)) _ _ e3
        have cl2 : ∀ c ∈ (bs.drop (5 + 6 * m)).map fun n => code n.toNat, c < 128 := fun c hc => by
          obtain ⟨n, hn, rfl⟩ := List.mem_map.mp hc
          exact code_lt (sgR n hn) (ok n hn)
        have nms : (nmsD (bs.drop (5 + 6 * m))).length ≤ 60 ∧ ∀ n ∈ nmsD (bs.drop (5 + 6 * m)), Asc7 n ∧ (NmOk n ∨ (reprText (ofCodes n)).length ≤ 1000) := by
          unfold nmsD
          split
          · exact ⟨Nat.zero_le _, fun n hn => absurd hn List.not_mem_nil⟩
          · have pn : ∀ n ∈ prts ((bs.drop (5 + 6 * m)).map fun n => code n.toNat), n.length ≤ 58 ∧ (prts ((bs.drop (5 + 6 * m)).map fun n => code n.toNat)).length ≤ 59 := fun n hn => by
              have := prts_len hn
              rw [List.length_map, List.length_drop] at this
              omega
            refine ⟨?_, fun n hn => ?_⟩
            · cases e : prts ((bs.drop (5 + 6 * m)).map fun n => code n.toNat) with
              | nil => exact Nat.zero_le _
              | cons p r => rw [← e]; have := (pn p (by rw [e]; exact List.mem_cons_self)).2; omega
            · have lt : ∀ c ∈ n, c < 128 := fun c hc => cl2 c (prts_mem hn hc)
              have := (pn n hn).1
              exact ⟨⟨by omega, lt⟩, .inr (rep_len lt (by omega))⟩
        refine ⟨true, true, D2, rn, zs, ⟨b0, My.told ((bs.drop 1).take 3), zs.map (·.2), nmsD (bs.drop (5 + 6 * m))⟩, rfl, SqL.of e36, w6, rfl, SqL.of e6, sml_of sb0.1 (show b0 ≤ 1000000 by have := sb0.2; omega), sml_of t3.1 t3.2, by omega, fun z hz => ?_, nms.1, nms.2, fun okN r H7 s7 d7 => ?_, fun no H7 s7 => qe (fun N cN e => no ?_) none _ (S6.trans s7)⟩
        · have hz2 : z.2 ∈ zs.map (·.2) := List.mem_map.mpr ⟨z, hz, rfl⟩
          rw [z3] at hz2
          obtain ⟨k, _, ek⟩ := List.mem_map.mp hz2
          rw [← ek]
          exact wireD_s fun s hs => sg s (List.mem_of_mem_drop (List.mem_of_mem_take hs))
        · obtain ⟨M, cM, eM⟩ := can_of okN
          have S7 := S6.trans s7
          have nM : NAt K H7 (.ref r) M := cM.nat (by rw [eM]; exact d7)
          refine ⟨_, rfl, .ref r, M, rfl, nM, cM, fun r4 H8 s8 t8 => ?_⟩
          have e18 := ((s3.trans (s4.trans (s5.trans s6))).trans (s7.trans s8)) _ _ e12
          refine ⟨_, rfl, l, _, rfl, .inl ⟨SqL.of e18, fun r5 hr5 => ?_⟩⟩
          have s9 := (Same.refl H8).new (o := .tup (bs.map V.int)) hr5
          have e9 : SqT K (upd H8 r5 (.tup (bs.map V.int))) r5 (bs.map V.int) := SqT.of upd_same
          generalize upd H8 r5 (.tup (bs.map V.int)) = H9 at s9 e9 ⊢
          have S9 := S7.trans (s8.trans s9)
          refine ⟨.tuple ((nb M).map .int), .tuple (bs.map .int), tup_dat (s9.tup t8), tup_dat e9, _, rfl, ?_⟩
          have eq : PyData.eqv (.tuple ((nb M).map .int)) (.tuple (bs.map .int)) = decide (nb M = bs) := by rw [PyData.eqv]; exact eqvAll_ints _ _
          rw [if_pos rfl, eq]
          by_cases cm : nb M = bs
          · rw [decide_eq_true cm]
            refine (show if (!true) = true then _ else _ from iteF ?_)
            exact ⟨_, rfl, q M cM cm r _ S9 (nM.same (s8.trans s9))⟩
          · rw [decide_eq_false cm]
            refine (show if (!false) = true then _ else _ from iteT ⟨by show 1 ≤ sizeLine; decide, qe (fun N cN e => cm ?_) none _ S9⟩)
            have : M = N := cM.inj cN (by rw [eM, eD, is_dec N cN e])
            rw [this]; exact e
        · rw [eD, is_dec N cN e]; exact cN.ok
      · obtain ⟨n, hn, z⟩ := no
        rw [mlen N cN e, ← e, nb_rest] at hn
        obtain ⟨c, hc, rfl⟩ := List.mem_map.mp hn
        have hl := let_of cN.ok.2.2.2.2.2 hc
        have := let_sg c (by omega) hl
        exact z ⟨this.2.1, this.2.2.1⟩
    · have ea : (bs.map fun n => decide (0 ≤ n ∧ n < 97)).all id = false := by
        rw [Bool.eq_false_iff]
        intro z
        rw [List.all_map, List.all_eq_true] at z
        exact sg fun n hn => by
          have h : decide (0 ≤ n ∧ n < 97) = true := z n hn
          have h2 : 0 ≤ n ∧ n < 97 := of_decide_eq_true h
          exact h2
      rw [ea]
      refine (show if (!false) = true then _ else _ from iteT ⟨by show 1 ≤ sizeLine; decide, qe (fun N cN e => sg (by rw [← e]; exact nb_sg cN.ok)) none _ S2⟩)
end
end K46
namespace K46
open PySem L2 PyProof.Rows
section
variable {P : Program} {w : World} {K : PySem.W.Frag} {mg : Str → Option Value} {base : Heap} {t : Ad}
/-! _law_news, _law_whole, _law_is_body, _law_read_right -/
theorem blsD {K : PySem.W.Frag} {H : Hp} {a : Addr} {bs : List Bool} (ha : SqL K H a (bs.map V.bl)) : IsDat K H 8 (.ref a) (.list (bs.map .bool)) := by
  refine .lst ha (by simp) fun i x d e1 e2 => ?_
  rw [List.getElem?_map] at e1 e2
  cases e : bs[i]? with
  | none => rw [e] at e1; cases e1
  | some z => rw [e] at e1 e2; cases e1; cases e2; exact .bl z
theorem nmOk_asc {n : List Nat} (h : NmOk n) : Asc7 n := ⟨by have := h.1.2; omega, fun c hc => by have := (h.2 c hc).2; omega⟩
theorem nearOk_s {house : Int} {ws : List Wr} (h : NearOk house ws) : ∀ w ∈ ws, WrS w := fun w hw => by
  obtain ⟨h1, h2, h3, h4⟩ := h.1 w hw
  have h1 : 0 ≤ w.o ∧ w.o < 32 := h1
  exact ⟨sml_of h1.1 (by omega), sml_of (by omega) (by omega), sml_of (by omega) (by omega), sml_of (by omega) (by omega)⟩
/-- made of parts that are right -/
theorem mk_can {K : PySem.W.Frag} {C : Addr} {H : Hp} {b c : Bool} {l m : Addr} {zs : List (V × Wr)} {N : Nw} {Q : VK} {E : XK} (hl : SqB b K H l (zs.map (·.1))) (hw : WsAt K H zs) (hz : zs.map (·.2) = N.near) (hm : SqB c K H m (N.names.map nmV)) (ok : NwOk N)
    (q : ∀ (r : Addr) (H' : Hp) (M : Nw), Same H H' → Can M → nwD M = nwD N → NAt K H' (.ref r) M → Q (.ref r) H') : sp_made_news K C [.int N.h, .int N.n, .ref l, .ref m] H Q E := by
  have zl : zs.length = N.near.length := by rw [← hz, List.length_map]
  have h0 : 0 ≤ N.h ∧ N.h < 32 := ok.1
  have h1 := ok.2.1
  have h2 := ok.2.2.1.2.1
  have h3 := ok.2.2.2.1
  refine ⟨b, c, l, m, zs, N, rfl, hl, hw, hz, hm, sml_of h0.1 (by omega), sml_of h1.1 (by omega), by omega, fun z hz' => nearOk_s ok.2.2.1 _ (by rw [← hz]; exact List.mem_map.mpr ⟨z, hz', rfl⟩), by omega, fun n hn => ⟨nmOk_asc (ok.2.2.2.2.2 n hn), .inl (ok.2.2.2.2.2 n hn)⟩, fun _ r H' s d => ?_, fun no => absurd ok no⟩
  obtain ⟨M, cM, eM⟩ := can_of ok
  exact q r H' M s cM eM (cM.nat (by rw [eM]; exact d))
def sp__law_news (K : PySem.W.Frag) : Sp := fun vs H Q _ => ∃ c : Int, vs = [.int c] ∧ ∀ (r : Addr) (H' : Hp) (N : Nw), Same H H' → Can N → NAt K H' (.ref r) N → Q (.ref r) H'
theorem sc__law_news : FnScope ["cell", "house", "number"] ["cell"] (defScope s__law_news) := ⟨rfl, rfl, rfl, by decide +kernel, rfl, by decide +kernel, by decide +kernel⟩
set_option maxHeartbeats 1000000 in
theorem ok__law_news (F : Site K mg "_law_news" s__law_news) (T : Txt K mg t) (D__law_head : Def P w K mg base 3 "_law_head" ["cell"] sp__law_head) (D__law_near : Def P w K mg base 3 "_law_near" ["cell", "house"] (sp__law_near K)) (D__law_names : Def P w K mg base 3 "_law_names" ["cell"] (sp__law_names K)) (D_made_news : Def P w K mg base 5 "made_news" ["house", "number", "near", "names"] (sp_made_news K t.BadNews)) : Def P w K mg base 6 "_law_news" ["cell"] (sp__law_news K) := by
  refine F.def sc__law_news (fun _ _ _ _ _ _ us hl => match us, hl with | [_], _ => rfl) (fun vs H Q E h => ?_) (fun f cdv A outer s H vs Q E hr h => ?_)
  · obtain ⟨c, rfl, _⟩ := h
    rfl
  · obtain ⟨c, rfl, q⟩ := h
    refine ⟨_, pss_cons (ps_asg (pe_def (D__law_head.mono (by decide)) hr passN (pa_cons (pv 0) pa_nil)) (pg_twoK K (i := 1) (j := 2) rfl sc__law_news.nd rfl rfl (Or.inl rfl) (Or.inl rfl)))
      (pss_one (ps_ret (pe_def (D_made_news.mono (by decide)) hr passN (pa_cons (pv 1) (pa_cons (pv 2) (pa_cons (pe_def (D__law_near.mono (by decide)) hr passN (pa_cons (pe_op op_add (pv 0) pe_int) (pa_cons (pv 1) pa_nil))) (pa_cons (pe_def (D__law_names.mono (by decide)) hr passN (pa_cons (pe_op op_add (pv 0) pe_int) pa_nil)) pa_nil))))))), ?_⟩
    have hsz : (20000 : Nat) ≤ sizeLine := by decide
    refine ⟨_, rfl, c, rfl, fun r1 H1 hh n s1 e1 hs hn => ?_⟩
    refine ⟨r1, _, rfl, SqT.of e1, rfl, _, _, rfl, _, _, rfl, rfl, ?_⟩
    refine ⟨_, rfl, _, rfl, _, rfl, _, _, rfl, rfl, _, rfl, c + 1, hh, rfl, hs, fun r2 H2 zs s2 nr2 e2 w2 ok2 => ?_⟩
    refine ⟨_, rfl, _, _, rfl, rfl, c + 2, rfl, fun r3 H3 ns s3 nr3 e3 ok3 => ?_⟩
    exact mk_can (b := true) (c := true) (N := ⟨hh, n, zs.map (·.2), ns⟩) (SqL.of (s3 _ _ e2)) (w2.same s3) rfl (SqL.of e3) ⟨hs, hn, ok2, ok3⟩ fun r H' M s cM _ nM => q r H' M (s1.trans (s2.trans (s3.trans s))) cM nM
def sp__law_whole : Sp := fun vs H Q _ => ∃ n : Int, vs = [.int n] ∧ Q (.bl true) H
theorem sc__law_whole : FnScope ["found"] ["found"] (defScope s__law_whole) := ⟨rfl, rfl, rfl, by decide +kernel, rfl, by decide +kernel, by decide +kernel⟩
theorem ok__law_whole (F : Site K mg "_law_whole" s__law_whole) (T : Txt K mg t) : Def P w K mg base 1 "_law_whole" ["found"] sp__law_whole := by
  refine F.def sc__law_whole (fun _ _ _ _ _ _ us hl => match us, hl with | [_], _ => rfl) (fun vs H Q E h => ?_) (fun f cdv A outer s H vs Q E hr h => ?_)
  · obtain ⟨n, rfl, _⟩ := h
    rfl
  · obtain ⟨n, rfl, q⟩ := h
    refine ⟨_, pss_one (ps_ret (pe_and (pe_isi K T.n_isinstance (pa_cons (pv 0) (pa_cons (pe_bltn (v := .ty "int") (by rfl) T.n_int boot_int rfl) pa_nil))) (pe_one (pe_not (pe_isi K T.n_isinstance (pa_cons (pv 0) (pa_cons (pe_bltn (v := .ty "bool") (by rfl) T.n_bool boot_bool rfl) pa_nil))))))), ?_⟩
    refine ⟨_, rfl, _, _, _, _, true, rfl, rfl, .of (.int n), T.isi_int_int, _, rfl, ?_⟩
    refine iteT ?_
    exact ⟨_, rfl, _, _, _, _, false, rfl, rfl, .of (.int n), T.isi_int_bool, _, rfl, q⟩
def sp__law_is_body (K : PySem.W.Frag) : Sp := fun vs H Q _ => ∃ (p : Addr) (bs : List Int), vs = [.ref p] ∧ SqT K H p (bs.map V.int) ∧ bs.length ≤ 56 ∧ (∀ n ∈ bs, Sgn1 n) ∧ ∀ H', Same H H' → Q (.bl true) H'
theorem sc__law_is_body : FnScope ["body"] ["body"] (defScope s__law_is_body) := ⟨rfl, rfl, rfl, by decide +kernel, rfl, by decide +kernel, by decide +kernel⟩
set_option maxHeartbeats 1000000 in
theorem ok__law_is_body (F : Site K mg "_law_is_body" s__law_is_body) (T : Txt K mg t) (D__law_whole : Def P w K mg base 1 "_law_whole" ["found"] sp__law_whole) : Def P w K mg base 2 "_law_is_body" ["body"] (sp__law_is_body K) := by
  refine F.def sc__law_is_body (fun _ _ _ _ _ _ us hl => match us, hl with | [_], _ => rfl) (fun vs H Q E h => ?_) (fun f cdv A outer s H vs Q E hr h => ?_)
  · obtain ⟨p, bs, rfl, _⟩ := h
    rfl
  · obtain ⟨p, bs, rfl, hp, bl, sg, q⟩ := h
    refine ⟨_, pss_cons (ps_if (PW.pt (pw_or (pt_not (pt_val (pe_isiS K T.n_isinstance (pa_cons (pv 0) (pa_cons (pe_bltn (v := .ty "tuple") (by rfl) T.n_tuple boot_tuple rfl) pa_nil))))) (pw_or1 (pt_cmpR op_gt (pe_callB (call_lenK K) (by rfl) T.n_len boot_len (pa_cons (pv 0) pa_nil)) pe_int (nomark _)))))
        (pss_one (ps_ret pe_bl))
        (pss_nil))
      (pss_one (ps_ret (pe_cmpR (op_eqD K (hu16 hr)) (pe_lc rfl (Nc := ["sign"]) (ix := [none]) (cscope (defScope s__law_is_body) ["body"] rfl rfl (by decide +kernel)) (pi_tupK K (pv 0)) (fun C fp s H => ⟨(pg_name (i := 0) (show (["sign"] : List Str).Nodup by decide +kernel) rfl (Or.inl rfl)), (pts_one (PW.pt (pw_or (pt_not (pt_val (pe_def (D__law_whole.mono (by decide)) hr passN (pa_cons (pv 0) pa_nil)))) (pw_or1 (pt_not (pt_chain op_le op_le pe_int (pv 0) pe_int)))))), (pv 0)⟩)) (pe_lst pa_nil) (nomark _)))), ?_⟩
    have hsz : (20000 : Nat) ≤ sizeLine := by decide
    refine ⟨_, rfl, _, _, _, true, rfl, .tup hp, T.isi_tuple_tuple, _, rfl, ?_⟩
    refine (show if (!true) = true then _ else _ from iteF ?_)
    refine ⟨_, rfl, p, _, rfl, .inr hp, _, _, rfl, rfl, _, rfl, ?_⟩
    rw [decide_eq_false (show ¬ (56 : Int) < (((bs.map V.int).length : Nat) : Int) by rw [List.length_map]; omega)]
    refine iteF ?_
    refine ⟨_, rfl, p, rfl, ⟨_, hp⟩, fun D hD => ?_⟩
    refine lc_tup (K := K) (a := p) (xs := bs.map V.int) (fun i σ H' => ∃ v : Option V, σ = [v] ∧ Same H H' ∧ H' D = some (.lst [])) ⟨none, rfl, (Same.refl _).new hD, upd_same⟩ (fun i σ H' _ ⟨_, _, s, _⟩ => s.tup hp) ?_ ?_
    · rintro i y σ H2 N hN hi ⟨v, rfl, s2, e2⟩
      obtain ⟨n, hn, rfl⟩ := item_of hi
      have := sg n (List.mem_of_getElem? hn)
      refine turn_if ?_
      refine ⟨_, rfl, n, rfl, _, rfl, ?_⟩
      refine (show if (!true) = true then _ else _ from iteF ?_)
      refine ⟨_, rfl, _, _, rfl, rfl, _, rfl, ?_⟩
      rw [decide_eq_true this.1]
      refine iteT ⟨_, _, rfl, rfl, _, rfl, ?_⟩
      rw [decide_eq_true (show n ≤ 96 by have := this.2; omega)]
      refine (show if (!true) = true then _ else _ from iteF ?_)
      exact hN _ _ ⟨_, rfl, s2, e2⟩
    rintro σ H2 ⟨v, rfl, s2, e2⟩
    refine ⟨by show 0 ≤ sizeLine; decide, fun el hel => ?_⟩
    have s3 := (Same.refl H2).new (o := .lst []) hel
    have d1 : IsDat K (upd H2 el (.lst [])) 8 (.ref el) (.list []) := .lst (SqL.of upd_same) rfl fun i x d hx => by cases hx
    refine ⟨.list [], .list [], (.lst (SqL.of (s3 _ _ e2)) rfl fun i x d hx => by cases hx), d1, ?_⟩
    rw [if_neg (by decide), d1.eqv]
    exact q _ (s2.trans s3)
def sp__law_read_right (K : PySem.W.Frag) : Sp := fun vs H Q _ => ∃ (p : Addr) (bs : List Int), vs = [.ref p] ∧ SqT K H p (bs.map V.int) ∧ (∀ b ∈ bs, b.natAbs < 2 ^ 1000) ∧ bs.length ≤ 58 ∧ ∀ H', Same H H' → Q (.bl true) H'
theorem sc__law_read_right : FnScope ["body", "told", "kept", "e"] ["body"] (defScope s__law_read_right) := ⟨rfl, rfl, rfl, by decide +kernel, rfl, by decide +kernel, by decide +kernel⟩
set_option maxHeartbeats 2000000 in
theorem ok__law_read_right (F : Site K mg "_law_read_right" s__law_read_right) (T : Txt K mg t) (D_made_news : Def P w K mg base 5 "made_news" ["house", "number", "near", "names"] (sp_made_news K t.BadNews)) (D_news_body : Def P w K mg base 3 "news_body" ["news"] (sp_news_body K)) (D_news_of : Def P w K mg base 6 "news_of" ["body"] (sp_news_of K t.BadNews)) : Def P w K mg base 7 "_law_read_right" ["body"] (sp__law_read_right K) := by
  refine F.def sc__law_read_right (fun _ _ _ _ _ _ us hl => match us, hl with | [_], _ => rfl) (fun vs H Q E h => ?_) (fun f cdv A outer s H vs Q E hr h => ?_)
  · obtain ⟨p, bs, rfl, _⟩ := h
    rfl
  · obtain ⟨p, bs, rfl, hp, sm, bl, q⟩ := h
    refine ⟨_, pss_cons (ps_set (i := 1) sc__law_read_right.nd rfl (Or.inl rfl) pe_non)
      (pss_cons (ps_set (i := 2) sc__law_read_right.nd rfl (Or.inl rfl) (pe_lst pa_nil))
      (pss_cons (ps_tryD (E := fun c x H' => c = .ref t.BadNews ∧ Same H H') (i := 3) (j := 1) cx1_body sc__law_read_right.nd rfl rfl rfl (Or.inl rfl) rfl T.mPostError T.catchPostError (D_news_of.mono (by decide)) hr (fun pins σ => (pa_cons (pv 0) pa_nil))
        (fun a => pss_one (ps_set (i := 2) sc__law_read_right.nd rfl (Or.inl rfl) (pe_lst (pa_cons (pe_isi K T.n_isinstance (pa_cons (pv 3) (pa_cons (pe_bltn (v := .ty "ValueError") (by rfl) T.n_ValueError boot_ValueError rfl) pa_nil))) (pa_cons (pe_isi K T.n_isinstance (pa_cons (pv 3) (pa_cons (pe_glob (v := .ref t.BadNews) (by rfl) T.mBadNews rfl) pa_nil))) (pa_cons (pe_isi K T.n_isinstance (pa_cons (pv 3) (pa_cons (pe_glob (v := .ref t.BadSign) (by rfl) T.mBadSign rfl) pa_nil))) pa_nil)))))))
      (pss_cons (ps_if (pt_cmpR op_isN (pv 1) pe_non (nomark _))
        (pss_one (ps_ret (pe_cmpR (op_eqD K (hu16 hr)) (pv 2) (pe_lst (pa_cons pe_bl (pa_cons pe_bl (pa_cons pe_bl pa_nil)))) (nomark _))))
        (pss_nil))
      (pss_one (ps_ret (pe_and (pe_cmpR (op_eqD K (hu16 hr)) (pe_def (D_news_body.mono (by decide)) hr passN (pa_cons (pe_def (D_made_news.mono (by decide)) hr passN (pa_cons (pe_ix (ix_tupK K) (pv 1) pe_int (fun _ _ => rfl)) (pa_cons (pe_ix (ix_tupK K) (pv 1) pe_int (fun _ _ => rfl)) (pa_cons (pe_ix (ix_tupK K) (pv 1) pe_int (fun _ _ => rfl)) (pa_cons (pe_ix (ix_tupK K) (pv 1) pe_int (fun _ _ => rfl)) pa_nil))))) pa_nil)) (pv 0) (nomark _)) (pe_one (pe_cmpR (op_eqD K (hu16 hr)) (pe_def (D_news_body.mono (by decide)) hr passN (pa_cons (pv 1) pa_nil)) (pv 0) (nomark _))))))))), ?_⟩
    have hsz : (20000 : Nat) ≤ sizeLine := by decide
    refine ⟨by show 0 ≤ sizeLine; decide, fun kl hkl => ?_⟩
    have s1 := (Same.refl H).new (o := .lst []) hkl
    have e1 : (upd H kl (.lst [])) kl = some (.lst []) := upd_same
    generalize upd H kl (.lst []) = H1 at s1 e1 ⊢
    refine ⟨?_, ?_⟩
    · refine ⟨_, rfl, p, bs, rfl, s1.tup hp, sm, bl, fun N cN e r H2 s2 n2 => ?_, fun _ x H2 s2 => ⟨rfl, s1.trans s2⟩⟩
      refine ⟨_, rfl, rfl, _, rfl, iteN (fun e => by cases e) ?_⟩
      obtain ⟨a, p1, q1, zs, ea, h1, h2, h3, h4, h5⟩ := n2.out
      cases ea
      refine ⟨_, rfl, r, _, _, .int N.h, rfl, rfl, h1, rfl, _, rfl, r, _, _, .int N.n, rfl, rfl, h1, rfl, _, rfl, r, _, _, .ref p1, rfl, rfl, h1, rfl, _, rfl, r, _, _, .ref q1, rfl, rfl, h1, rfl, ?_⟩
      unfold tNil
      show sp_made_news K t.BadNews [.int N.h, .int N.n, .ref p1, .ref q1] H2 _ _
      refine mk_can (b := false) (c := false) (zs := zs) (N := N) h2 h3 h4 h5 cN.ok fun r3 H3 M s3 cM eM nM => ?_
      obtain rfl : M = N := cM.inj cN eM
      refine ⟨.ref r3, M, rfl, nM, cM, fun r4 H4 s4 t4 => ?_⟩
      rw [e] at t4
      have S4 := s1.trans (s2.trans (s3.trans s4))
      have d4 : IsDat K H4 8 (.ref r4) (.tuple (bs.map .int)) := tup_dat t4
      refine ⟨_, rfl, .tuple (bs.map .int), .tuple (bs.map .int), d4, tup_dat (S4.tup hp), ?_⟩
      rw [if_neg (by decide), d4.eqv]
      refine ⟨_, rfl, iteT ?_⟩
      refine ⟨_, rfl, .ref r, M, rfl, n2.same (s3.trans s4), cM, fun r5 H5 s5 t5 => ?_⟩
      rw [e] at t5
      have d5 : IsDat K H5 8 (.ref r5) (.tuple (bs.map .int)) := tup_dat t5
      refine ⟨_, rfl, .tuple (bs.map .int), .tuple (bs.map .int), d5, tup_dat ((S4.trans s5).tup hp), ?_⟩
      rw [if_neg (by decide), d5.eqv]
      exact q _ (S4.trans s5)
    · rintro a C H2 x ⟨hc, s2⟩ hna
      cases hc
      refine ⟨T.subBadNews_PostError, ?_⟩
      have ha : (upd H2 a (.ext (ExcAt a t.BadNews))) a = some (.ext (ExcAt a t.BadNews)) := upd_same
      have s3 := s2.new (o := .ext (ExcAt a t.BadNews)) hna
      generalize upd H2 a (.ext (ExcAt a t.BadNews)) = H3 at ha s3 ⊢
      refine ⟨_, rfl, _, _, _, _, true, rfl, rfl, .exc ha T.eBadNews, T.oneBadNews_ValueError, _, rfl, _, _, _, _, true, rfl, rfl, .exc ha T.eBadNews, T.oneBadNews_BadNews, _, rfl, _, _, _, _, false, rfl, rfl, .exc ha T.eBadNews, T.oneBadNews_BadSign, by show 3 ≤ sizeLine; decide, fun k2 hk2 => ?_⟩
      have s4 := (Same.refl H3).new (o := .lst [.bl true, .bl true, .bl false]) hk2
      have e4 : (upd H3 k2 (.lst [.bl true, .bl true, .bl false])) k2 = some (.lst [.bl true, .bl true, .bl false]) := upd_same
      generalize upd H3 k2 (.lst [.bl true, .bl true, .bl false]) = H4 at s4 e4 ⊢
      refine ⟨_, rfl, rfl, _, rfl, iteY rfl ?_⟩
      refine ⟨_, rfl, by show 3 ≤ sizeLine; decide, fun k3 hk3 => ?_⟩
      have s5 := (Same.refl H4).new (o := .lst [.bl true, .bl true, .bl false]) hk3
      have d5 : IsDat K (upd H4 k3 (.lst [.bl true, .bl true, .bl false])) 8 (.ref k3) (.list ([true, true, false].map .bool)) := blsD (bs := [true, true, false]) (SqL.of upd_same)
      refine ⟨_, _, blsD (bs := [true, true, false]) (SqL.of (s5 _ _ e4)), d5, ?_⟩
      rw [if_neg (by decide), d5.eqv]
      exact q _ (s3.trans (s4.trans s5))
end
end K46
namespace K46
open PySem L2 PyProof.Rows
section
variable {P : Program} {w : World} {K : PySem.W.Frag} {mg : Str → Option Value} {base : Heap} {t : Ad}
/-! _law_spoilt -/
theorem cut_0n {bs : List Int} {b : Nat} (h : b ≤ bs.length) : cutV (bs.map V.int) none (some (b : Int)) = (bs.take b).map V.int := by
  unfold cutV
  rw [HT.sIx_nat, HT.sIx_none, List.length_map, Nat.min_eq_left h, List.drop_zero, Nat.sub_zero, List.map_take]
def SmL (cs : List Int) : Prop := ∀ c ∈ cs, c.natAbs < 2 ^ 1000
theorem ixN_n {n a : Nat} (h : a < n) : ixN n (a : Int) = some a := by
  unfold ixN
  rw [if_pos (Int.natCast_nonneg a), if_pos (by omega), Int.toNat_natCast]
theorem SmL.set {cs : List Int} {a : Nat} {v : Int} (h : SmL cs) (hv : v.natAbs < 2 ^ 1000) : SmL (cs.set a v) := fun c hc => by
  rcases List.mem_or_eq_of_mem_set hc with h1 | rfl
  · exact h c h1
  · exact hv
theorem SmL.app {cs ds : List Int} (h : SmL cs) (h2 : SmL ds) : SmL (cs ++ ds) := fun c hc => by
  rcases List.mem_append.mp hc with h1 | h1
  · exact h c h1
  · exact h2 c h1
theorem SmL.one {v : Int} (h : v.natAbs < 2 ^ 1000) : SmL [v] := fun c hc => by rw [List.mem_singleton.mp hc]; exact h
theorem sgnS {v : Int} (h0 : 0 ≤ v) (h1 : v < 1000) : v.natAbs < 2 ^ 1000 := small_abs (by omega) (by omega)
theorem erase_map (cs : List Int) (a : Nat) : (cs.map V.int).eraseIdx a = (cs.eraseIdx a).map V.int := by
  induction cs generalizing a with
  | nil => rfl
  | cons x xs ih =>
    cases a with
    | zero => rfl
    | succ a => rw [List.map_cons, List.eraseIdx_cons_succ, List.eraseIdx_cons_succ, List.map_cons, ih]
theorem three_at {g : Int} (h0 : 0 ≤ g) : ∃ v : Int, atI [V.int 97, .int (-1), .int (10 ^ (30 : Int).toNat)] (g % 3) = some (.int v) ∧ v.natAbs < 2 ^ 1000 := by
  have : g % 3 = 0 ∨ g % 3 = 1 ∨ g % 3 = 2 := by omega
  rcases this with e | e | e <;> rw [e]
  · exact ⟨97, rfl, small_abs (by omega) (by omega)⟩
  · exact ⟨-1, rfl, small_abs (by omega) (by omega)⟩
  · exact ⟨10 ^ (30 : Int).toNat, rfl, by set_option exponentiation.threshold 1001 in decide⟩
theorem two_at (a b : Int) (g : Int) : ∃ v : Int, atI [V.int a, .int b] (g % 2) = some (.int v) ∧ (v = a ∨ v = b) := by
  have : g % 2 = 0 ∨ g % 2 = 1 := by omega
  rcases this with e | e <;> rw [e]
  · exact ⟨a, rfl, .inl rfl⟩
  · exact ⟨b, rfl, .inr rfl⟩
def SpR (K : PySem.W.Frag) (H : Hp) (p : Addr) (bs : List Int) (c : Int) (a b : Nat) (g w : Int) (k : Int) (σ : List (Option V)) (H' : Hp) : Prop :=
  ∃ (l : Addr) (cs : List Int), σ = [some (.ref p), some (.int c), some (.int (a : Nat)), some (.int (b : Nat)), some (.int g), some (.int w), some (.ref l)] ∧ Same H H' ∧ H l = none ∧ H' l = some (.lst (cs.map V.int)) ∧ SmL cs ∧ cs.length ≤ 57 ∧ (k ≤ w → cs = bs)
theorem SpR.skip {K : PySem.W.Frag} {H H' : Hp} {p : Addr} {bs : List Int} {c g w k : Int} {a b : Nat} {σ : List (Option V)} (h : SpR K H p bs c a b g w k σ H') : SpR K H p bs c a b g w (k + 1) σ H' := by
  obtain ⟨l, cs, e, s, n, h1, h2, h3, h4⟩ := h
  exact ⟨l, cs, e, s, n, h1, h2, h3, fun z => h4 (by omega)⟩
def sp__law_spoilt (K : PySem.W.Frag) : Sp := fun vs H Q _ => ∃ (p : Addr) (bs : List Int) (c : Int), vs = [.ref p, .int c] ∧ SqT K H p (bs.map V.int) ∧ (∀ n ∈ bs, Sgn1 n) ∧ 1 ≤ bs.length ∧ bs.length ≤ 56 ∧ ∀ (r : Addr) (H' : Hp) (cs : List Int), Same H H' → SqT K H' r (cs.map V.int) → SmL cs → cs.length ≤ 58 → Q (.ref r) H'
theorem sc__law_spoilt : FnScope ["body", "cell", "at", "to", "sign", "way", "rows"] ["body", "cell"] (defScope s__law_spoilt) := ⟨rfl, rfl, rfl, by decide +kernel, rfl, by decide +kernel, by decide +kernel⟩
set_option maxHeartbeats 4000000 in
theorem ok__law_spoilt (F : Site K mg "_law_spoilt" s__law_spoilt) (T : Txt K mg t) (D__law_drawn : Def P w K mg base 2 "_law_drawn" ["cell", "bounds"] (sp__law_drawn K)) : Def P w K mg base 3 "_law_spoilt" ["body", "cell"] (sp__law_spoilt K) := by
  refine F.def sc__law_spoilt (fun _ _ _ _ _ _ us hl => match us, hl with | [_, _], _ => rfl) (fun vs H Q E h => ?_) (fun f cdv A outer s H vs Q E hr h => ?_)
  · obtain ⟨p, bs, c, rfl, _⟩ := h
    rfl
  · obtain ⟨p, bs, c, rfl, hp, sg, l1, l2, q⟩ := h
    refine ⟨_, pss_cons (ps_asg (pe_def (D__law_drawn.mono (by decide)) hr passN (pa_cons (pv 1) (pa_cons (pe_lst (pa_cons (pe_callB (call_lenK K) (by rfl) T.n_len boot_len (pa_cons (pv 0) pa_nil)) (pa_cons (pe_callB (call_lenK K) (by rfl) T.n_len boot_len (pa_cons (pv 0) pa_nil)) (pa_cons pe_int (pa_cons pe_int pa_nil))))) pa_nil))) (pg_tupL K rfl (pgs_cons (pg_name (i := 2) sc__law_spoilt.nd rfl (Or.inl rfl)) (pgs_cons (pg_name (i := 3) sc__law_spoilt.nd rfl (Or.inl rfl)) (pgs_cons (pg_name (i := 4) sc__law_spoilt.nd rfl (Or.inl rfl)) (pgs_cons (pg_name (i := 5) sc__law_spoilt.nd rfl (Or.inl rfl)) pgs_nil))))))
      (pss_cons (ps_set (i := 6) sc__law_spoilt.nd rfl (Or.inl rfl) (pe_callTy (call_listK K) (by rfl) T.n_list boot_list (pa_cons (pv 0) pa_nil)))
      (pss_cons (ps_cut (ps_if (pt_cmpR op_eq (pv 5) pe_int (nomark _))
        (pss_one (ps_expr (pe_bmK K PySem.F.plainAttrs_list PySem.F.slot_list_pop PySem.F.type_list_pop mt_popAt (pv 6) (pa_cons (pv 2) pa_nil))))
        (pss_nil)))
      (pss_cons (ps_cut (ps_if (pt_cmpR op_eq (pv 5) pe_int (nomark _))
        (pss_one (ps_expr (pe_bmK K PySem.F.plainAttrs_list PySem.F.slot_list_insert PySem.F.type_list_insert mt_insert (pv 6) (pa_cons (pv 2) (pa_cons (pv 4) pa_nil)))))
        (pss_nil)))
      (pss_cons (ps_cut (ps_if (pt_cmpR op_eq (pv 5) pe_int (nomark _))
        (pss_one (ps_asg (pv 4) (pg_sub (pv 6) (pv 2) set_list)))
        (pss_nil)))
      (pss_cons (ps_cut (ps_if (pt_cmpR op_eq (pv 5) pe_int (nomark _))
        (pss_one (ps_expr (pe_bmK K PySem.F.plainAttrs_list PySem.F.slot_list_append PySem.F.type_list_append mt_append (pv 6) (pa_cons (pe_bmK K PySem.F.plainAttrs_list PySem.F.slot_list_pop PySem.F.type_list_pop mt_popAt (pv 6) (pa_cons (pv 2) pa_nil)) pa_nil))))
        (pss_nil)))
      (pss_cons (ps_cut (ps_if (pt_cmpR op_eq (pv 5) pe_int (nomark _))
        (pss_one (ps_asg (pe_tup (pa_cons (pe_ix (ix_listK K) (pv 6) (pv 3) (fun _ _ => rfl)) (pa_cons (pe_ix (ix_listK K) (pv 6) (pv 2) (fun _ _ => rfl)) pa_nil))) (pg_tupK K rfl (pgs_cons (pg_sub (pv 6) (pv 2) set_list) (pgs_cons (pg_sub (pv 6) (pv 3) set_list) pgs_nil)))))
        (pss_nil)))
      (pss_cons (ps_cut (ps_if (pt_cmpR op_eq (pv 5) pe_int (nomark _))
        (pss_one (ps_asg (pe_ix (ix_listK K) (pe_lst (pa_cons pe_int (pa_cons (pe_un un_neg pe_int) (pa_cons (pe_op op_pow pe_int pe_int) pa_nil)))) (pe_op op_mod (pv 4) pe_int) (fun _ _ => rfl)) (pg_sub (pv 6) (pv 2) set_list)))
        (pss_nil)))
      (pss_cons (ps_cut (ps_if (pt_cmpR op_eq (pv 5) pe_int (nomark _))
        (pss_one (ps_set (i := 6) sc__law_spoilt.nd rfl (Or.inl rfl) (pe_slice (sl_listK K) (pv 6) po_none (po_some (pv 2)))))
        (pss_nil)))
      (pss_cons (ps_cut (ps_if (pt_cmpR op_eq (pv 5) pe_int (nomark _))
        (pss_one (ps_expr (pe_bmK K PySem.F.plainAttrs_list PySem.F.slot_list_append PySem.F.type_list_append mt_append (pv 6) (pa_cons (pv 4) pa_nil))))
        (pss_nil)))
      (pss_cons (ps_cut (ps_if (pt_cmpR op_eq (pv 5) pe_int (nomark _))
        (pss_one (ps_asg (pe_op op_mod (pe_op op_add (pe_ix (ix_listK K) (pv 6) (pv 2) (fun _ _ => rfl)) (pe_ix (ix_listK K) (pe_lst (pa_cons pe_int (pa_cons pe_int pa_nil))) (pe_op op_mod (pv 4) pe_int) (fun _ _ => rfl))) pe_int) (pg_sub (pv 6) (pv 2) set_list)))
        (pss_nil)))
      (pss_one (ps_ret (pe_callTy (call_tupleK K) (by rfl) T.n_tuple boot_tuple (pa_cons (pv 6) pa_nil)))))))))))))), ?_⟩
    have hsz : (20000 : Nat) ≤ sizeLine := by decide
    refine ⟨_, rfl, _, rfl, p, _, rfl, .inr hp, _, rfl, p, _, rfl, .inr hp, by show 4 ≤ sizeLine; decide, fun p1 hp1 => ?_⟩
    rw [List.length_map]
    refine ⟨c, p1, [(bs.length : Int), (bs.length : Int), 97, 9], rfl, upd_same, by show 4 ≤ 100; decide, fun b hb => ?_, fun dr H5 ms s5 ndr e5 dk => ?_⟩
    · simp only [List.mem_cons, List.not_mem_nil, or_false] at hb
      omega
    have s5 := ((Same.refl H).new (o := .lst [.int (bs.length : Int), .int (bs.length : Int), .int 97, .int 9]) hp1).trans s5
    obtain ⟨d1, d2, d3, d4, rfl⟩ : ∃ d1 d2 d3 d4, ms = [d1, d2, d3, d4] := by
      match ms, dk.1 with
      | [a, b, c, d], _ => exact ⟨a, b, c, d, rfl⟩
    have k1 := dk.2 0 _ _ rfl rfl
    have k2 := dk.2 1 _ _ rfl rfl
    have k3 := dk.2 2 _ _ rfl rfl
    have k4 := dk.2 3 _ _ rfl rfl
    refine ⟨dr, _, rfl, SqL.of e5, rfl, _, _, rfl, _, _, rfl, _, _, rfl, _, _, rfl, rfl, ?_⟩
    obtain ⟨a, rfl⟩ : ∃ a : Nat, d1 = a := ⟨d1.toNat, by omega⟩
    obtain ⟨b, rfl⟩ : ∃ b : Nat, d2 = b := ⟨d2.toNat, by omega⟩
    have ha : a < bs.length := by omega
    have hb : b < bs.length := by omega
    have sb : SmL bs := fun n hn => by have := sg n hn; exact sgnS this.1 (by have := this.2; omega)
    have ga : (bs.map V.int)[a]? = some (.int bs[a]) := by rw [List.getElem?_map, List.getElem?_eq_getElem ha]; rfl
    have gb : (bs.map V.int)[b]? = some (.int bs[b]) := by rw [List.getElem?_map, List.getElem?_eq_getElem hb]; rfl
    have na : (bs[a]).natAbs < 2 ^ 1000 := sb _ (List.getElem_mem ha)
    have nb' : (bs[b]).natAbs < 2 ^ 1000 := sb _ (List.getElem_mem hb)
    have sa := sg _ (List.getElem_mem ha)
    have xa : ixN (bs.map V.int).length (a : Int) = some a := ixN_n (by rw [List.length_map]; exact ha)
    have xb : ixN (bs.map V.int).length (b : Int) = some b := ixN_n (by rw [List.length_map]; exact hb)
    have hg : d3.natAbs < 2 ^ 1000 := sgnS k3.1 (by omega)
    refine ⟨_, rfl, p, _, rfl, .inr (s5.tup hp), fun l hl => ?_⟩
    have R0 : SpR K H p bs c a b d3 d4 0 [some (.ref p), some (.int c), some (.int (a : Nat)), some (.int (b : Nat)), some (.int d3), some (.int d4), some (.ref l)] (upd H5 l (.lst (bs.map V.int))) :=
      ⟨l, bs, rfl, s5.new hl, s5.free hl, upd_same, sb, by omega, fun _ => rfl⟩
    generalize upd H5 l (.lst (bs.map V.int)) = H6 at R0 ⊢
    -- 0
    refine ⟨SpR K H p bs c a b d3 d4 1, ?_, ?_⟩
    · obtain ⟨l, cs, eσ, s, n, e1, e2, e3, e4⟩ := R0
      cases eσ
      refine ⟨_, rfl, rfl, _, rfl, ite2 (fun hw => ?_) (fun hw => ⟨l, cs, rfl, s, n, e1, e2, e3, fun z => e4 (by omega)⟩)⟩
      have hw : d4 = 0 := by simpa [eqV] using hw
      obtain rfl := e4 (by omega)
      refine ⟨_, rfl, .inl ⟨rfl, _, SqL.of e1⟩, _, rfl, ?_⟩
      refine ⟨l, _, _, a, _, rfl, rfl, e1, by omega, by omega, (ixN_seq xa).1, ga, ?_⟩
      refine ⟨l, cs.eraseIdx a, rfl, s.put n, n, by rw [upd_same]; rw [erase_map], fun z hz => sb z (List.mem_of_mem_eraseIdx hz), by have := List.length_eraseIdx_le cs a; omega, fun z => by omega⟩
    -- 1
    rintro σ H7 R1
    refine ⟨SpR K H p bs c a b d3 d4 2, ?_, ?_⟩
    · obtain ⟨l, cs, rfl, s, n, e1, e2, e3, e4⟩ := R1
      refine ⟨_, rfl, rfl, _, rfl, ite2 (fun hw => ?_) (fun hw => ⟨l, cs, rfl, s, n, e1, e2, e3, fun z => e4 (by omega)⟩)⟩
      have hw : d4 = 1 := by simpa [eqV] using hw
      obtain rfl := e4 (by omega)
      refine ⟨_, rfl, .inl ⟨rfl, _, SqL.of e1⟩, _, rfl, _, rfl, ?_⟩
      refine ⟨l, _, a, _, rfl, rfl, e1, by rw [List.length_map]; omega, by rw [List.length_map]; omega, ?_⟩
      refine ⟨l, cs.take a ++ d3 :: cs.drop a, rfl, s.put n, n, by rw [upd_same, List.map_append, List.map_cons, List.map_take, List.map_drop], SmL.app (fun z hz => sb z (List.mem_of_mem_take hz)) (SmL.app (.one hg) fun z hz => sb z (List.mem_of_mem_drop hz)), ?_, fun z => by omega⟩
      rw [List.length_append, List.length_take, List.length_cons, List.length_drop]; omega
    -- 2
    rintro σ H7 R2
    refine ⟨SpR K H p bs c a b d3 d4 3, ?_, ?_⟩
    · obtain ⟨l, cs, rfl, s, n, e1, e2, e3, e4⟩ := R2
      refine ⟨_, rfl, rfl, _, rfl, ite2 (fun hw => ?_) (fun hw => ⟨l, cs, rfl, s, n, e1, e2, e3, fun z => e4 (by omega)⟩)⟩
      have hw : d4 = 2 := by simpa [eqV] using hw
      obtain rfl := e4 (by omega)
      refine ⟨_, rfl, _, rfl, _, rfl, l, _, _, a, rfl, rfl, e1, xa, ?_⟩
      refine ⟨l, cs.set a (d3), rfl, s.put n, n, by rw [upd_same, List.map_set], sb.set hg, by rw [List.length_set]; omega, fun z => by omega⟩
    -- 3
    rintro σ H7 R3
    refine ⟨SpR K H p bs c a b d3 d4 4, ?_, ?_⟩
    · obtain ⟨l, cs, rfl, s, n, e1, e2, e3, e4⟩ := R3
      refine ⟨_, rfl, rfl, _, rfl, ite2 (fun hw => ?_) (fun hw => ⟨l, cs, rfl, s, n, e1, e2, e3, fun z => e4 (by omega)⟩)⟩
      have hw : d4 = 3 := by simpa [eqV] using hw
      obtain rfl := e4 (by omega)
      refine ⟨_, rfl, .inl ⟨rfl, _, SqL.of e1⟩, _, rfl, .inl ⟨rfl, _, SqL.of e1⟩, _, rfl, ?_⟩
      refine ⟨l, _, _, a, _, rfl, rfl, e1, by omega, by omega, (ixN_seq xa).1, ga, ?_⟩
      refine ⟨l, _, _, rfl, rfl, upd_same, by have := List.length_eraseIdx_le (cs.map V.int) a; rw [List.length_map] at this; omega, ?_⟩
      refine ⟨l, cs.eraseIdx a ++ [cs[a]], rfl, (s.put n).put n, n, by rw [upd_same, erase_map, List.map_append]; rfl, SmL.app (fun z hz => sb z (List.mem_of_mem_eraseIdx hz)) (.one na), ?_, fun z => by omega⟩
      have := List.length_eraseIdx_le cs a
      rw [List.length_append, List.length_singleton]; omega
    -- 4
    rintro σ H7 R4
    refine ⟨SpR K H p bs c a b d3 d4 5, ?_, ?_⟩
    · obtain ⟨l, cs, rfl, s, n, e1, e2, e3, e4⟩ := R4
      refine ⟨_, rfl, rfl, _, rfl, ite2 (fun hw => ?_) (fun hw => ⟨l, cs, rfl, s, n, e1, e2, e3, fun z => e4 (by omega)⟩)⟩
      have hw : d4 = 4 := by simpa [eqV] using hw
      obtain rfl := e4 (by omega)
      refine ⟨_, rfl, _, rfl, l, _, _, _, rfl, rfl, SqL.of e1, atI_nat gb, _, rfl, _, rfl, l, _, _, _, rfl, rfl, SqL.of e1, atI_nat ga, by show 2 ≤ sizeLine; decide, fun q1 hq1 => ?_⟩
      have hne : l ≠ q1 := ne_of_none e1 hq1
      have sq := s.new (o := .tup [.int cs[b], .int cs[a]]) hq1
      refine ⟨q1, _, rfl, SqT.of upd_same, rfl, _, _, rfl, ?_⟩
      refine ⟨_, rfl, _, rfl, l, _, _, a, rfl, rfl, by rw [upd_ne hne]; exact e1, xa, ?_⟩
      refine ⟨_, _, rfl, _, rfl, _, rfl, l, _, _, b, rfl, rfl, upd_same, by rw [List.length_set]; exact xb, rfl, ?_⟩
      refine ⟨l, (cs.set a cs[b]).set b cs[a], rfl, (sq.put n).put n, n, by rw [upd_same, List.map_set, List.map_set], (sb.set nb').set na, by rw [List.length_set, List.length_set]; omega, fun z => by omega⟩
    -- 5
    rintro σ H7 R5
    refine ⟨SpR K H p bs c a b d3 d4 6, ?_, ?_⟩
    · obtain ⟨l, cs, rfl, s, n, e1, e2, e3, e4⟩ := R5
      refine ⟨_, rfl, rfl, _, rfl, ite2 (fun hw => ?_) (fun hw => ⟨l, cs, rfl, s, n, e1, e2, e3, fun z => e4 (by omega)⟩)⟩
      have hw : d4 = 5 := by simpa [eqV] using hw
      obtain rfl := e4 (by omega)
      obtain ⟨v, av, hv⟩ := three_at k3.1
      refine ⟨_, rfl, _, _, rfl, rfl, ⟨by decide, by decide, by decide⟩, by show 3 ≤ sizeLine; decide, fun q1 hq1 => ?_⟩
      have hne : l ≠ q1 := ne_of_none e1 hq1
      have sq := s.new (o := .lst [.int 97, .int (-1), .int (10 ^ (30 : Int).toNat)]) hq1
      refine ⟨_, rfl, _, _, rfl, rfl, (by show (0 : Int) < 3; decide), q1, _, _, _, rfl, rfl, SqL.of upd_same, av, ?_⟩
      refine ⟨_, rfl, _, rfl, l, _, _, a, rfl, rfl, by rw [upd_ne hne]; exact e1, xa, ?_⟩
      refine ⟨l, cs.set a v, rfl, sq.put n, n, by rw [upd_same, List.map_set], sb.set hv, by rw [List.length_set]; omega, fun z => by omega⟩
    -- 6
    rintro σ H7 R6
    refine ⟨SpR K H p bs c a b d3 d4 7, ?_, ?_⟩
    · obtain ⟨l, cs, rfl, s, n, e1, e2, e3, e4⟩ := R6
      refine ⟨_, rfl, rfl, _, rfl, ite2 (fun hw => ?_) (fun hw => ⟨l, cs, rfl, s, n, e1, e2, e3, fun z => e4 (by omega)⟩)⟩
      have hw : d4 = 6 := by simpa [eqV] using hw
      obtain rfl := e4 (by omega)
      refine ⟨_, rfl, _, rfl, _, rfl, l, _, rfl, SqL.of e1, fun q1 hq1 => ?_⟩
      rw [cut_0n (by omega)]
      refine ⟨q1, cs.take a, rfl, s.new hq1, s.free hq1, upd_same, fun z hz => sb z (List.mem_of_mem_take hz), by rw [List.length_take]; omega, fun z => by omega⟩
    -- 7
    rintro σ H7 R7
    refine ⟨SpR K H p bs c a b d3 d4 8, ?_, ?_⟩
    · obtain ⟨l, cs, rfl, s, n, e1, e2, e3, e4⟩ := R7
      refine ⟨_, rfl, rfl, _, rfl, ite2 (fun hw => ?_) (fun hw => ⟨l, cs, rfl, s, n, e1, e2, e3, fun z => e4 (by omega)⟩)⟩
      have hw : d4 = 7 := by simpa [eqV] using hw
      obtain rfl := e4 (by omega)
      refine ⟨_, rfl, .inl ⟨rfl, _, SqL.of e1⟩, _, rfl, l, _, _, rfl, rfl, e1, by rw [List.length_map]; omega, ?_⟩
      refine ⟨l, cs ++ [d3], rfl, s.put n, n, by rw [upd_same, List.map_append]; rfl, e2.app (.one hg), by rw [List.length_append, List.length_singleton]; omega, fun z => by omega⟩
    -- 8
    rintro σ H7 R8
    refine ⟨SpR K H p bs c a b d3 d4 9, ?_, ?_⟩
    · obtain ⟨l, cs, rfl, s, n, e1, e2, e3, e4⟩ := R8
      refine ⟨_, rfl, rfl, _, rfl, ite2 (fun hw => ?_) (fun hw => ⟨l, cs, rfl, s, n, e1, e2, e3, fun z => e4 (by omega)⟩)⟩
      have hw : d4 = 8 := by simpa [eqV] using hw
      obtain rfl := e4 (by omega)
      refine ⟨_, rfl, _, rfl, l, _, _, _, rfl, rfl, SqL.of e1, atI_nat ga, by show 2 ≤ sizeLine; decide, fun q1 hq1 => ?_⟩
      obtain ⟨v, av, hv⟩ := two_at 1 96 d3
      have hne : l ≠ q1 := ne_of_none e1 hq1
      have sq := s.new (o := .lst [.int 1, .int 96]) hq1
      refine ⟨_, rfl, _, _, rfl, rfl, (by show (0 : Int) < 2; decide), q1, _, _, _, rfl, rfl, SqL.of upd_same, av, _, _, rfl, rfl, _, _, rfl, rfl, (by show (0 : Int) < 97; decide), ?_⟩
      refine ⟨_, rfl, _, rfl, l, _, _, a, rfl, rfl, by rw [upd_ne hne]; exact e1, xa, ?_⟩
      refine ⟨l, cs.set a ((cs[a] + v) % 97), rfl, sq.put n, n, by rw [upd_same, List.map_set], sb.set (sgnS (by omega) (by omega)), by rw [List.length_set]; omega, fun z => by omega⟩
    rintro σ H7 ⟨l, cs, rfl, s, n, e1, e2, e3, _⟩
    refine ⟨_, rfl, l, _, rfl, .inl ⟨SqL.of e1, fun r hr1 => ?_⟩⟩
    exact q r _ cs (s.new hr1) (SqT.of upd_same) e2 (by omega)
end
end K46
namespace K46
open PySem L2 PyProof.Rows
section
variable {P : Program} {w : World} {K : PySem.W.Frag} {mg : Str → Option Value} {base : Heap} {t : Ad}
/-! _law_stretches -/
theorem cut_ii {bs : List Int} {x y : Int} {a b : Nat} (ex : x = a) (ey : y = b) (h : a ≤ b) (hb : b ≤ bs.length) : cutV (bs.map V.int) (some x) (some y) = ((bs.drop a).take (b - a)).map V.int := by
  subst ex ey
  unfold cutV
  rw [HT.sIx_nat, HT.sIx_nat, List.length_map, Nat.min_eq_left hb, Nat.min_eq_left (by omega), List.map_take, List.map_drop]
theorem cut_0i {bs : List Int} {y : Int} {b : Nat} (ey : y = b) (h : b ≤ bs.length) : cutV (bs.map V.int) none (some y) = (bs.take b).map V.int := by rw [ey]; exact cut_0n h
theorem cut_i0 {bs : List Int} {x : Int} {a : Nat} (ex : x = a) (h : a ≤ bs.length) : cutV (bs.map V.int) (some x) none = (bs.drop a).map V.int := by
  subst ex
  unfold cutV
  rw [HT.sIx_nat, HT.sIx_none, List.length_map, Nat.min_eq_left h, List.map_drop, List.take_of_length_le (by rw [List.length_drop, List.length_map]; exact Nat.le_refl _)]
theorem SmL.sub {bs cs : List Int} (h : SmL bs) (hs : ∀ c ∈ cs, c ∈ bs) : SmL cs := fun c hc => h c (hs c hc)
structure StO (K : PySem.W.Frag) (H : Hp) (y : Addr × List Int) : Prop where
  t : SqT K H y.1 (y.2.map V.int)
  s : SmL y.2
  l : y.2.length ≤ 58
def refA (y : Addr × List Int) : V := .ref y.1
theorem StO.kept {K : PySem.W.Frag} {H H' : Hp} {y : Addr × List Int} (h : StO K H y) (k : Kept H H') : StO K H' y := ⟨k.tup h.t, h.s, h.l⟩
def sp__law_stretches (K : PySem.W.Frag) : Sp := fun vs H Q _ => ∃ (p : Addr) (bs : List Int) (M : Nat), vs = [.ref p, .int (M : Nat)] ∧ SqT K H p (bs.map V.int) ∧ (∀ n ∈ bs, Sgn1 n) ∧ bs.length ≤ 56 ∧ 1 ≤ M ∧ M ≤ 9 ∧ ∀ (r : Addr) (H' : Hp) (ys : List (Addr × List Int)), Same H H' → H r = none → H' r = some (.lst (ys.map refA)) → (∀ y ∈ ys, StO K H' y) → ys.length ≤ 200 → Q (.ref r) H'
theorem sc__law_stretches : FnScope ["body", "many", "found", "at", "one", "other"] ["body", "many"] (defScope s__law_stretches) := ⟨rfl, rfl, rfl, by decide +kernel, rfl, by decide +kernel, by decide +kernel⟩
set_option maxHeartbeats 4000000 in
theorem ok__law_stretches (F : Site K mg "_law_stretches" s__law_stretches) (T : Txt K mg t) : Def P w K mg base 1 "_law_stretches" ["body", "many"] (sp__law_stretches K) := by
  refine F.def sc__law_stretches (fun _ _ _ _ _ _ us hl => match us, hl with | [_, _], _ => rfl) (fun vs H Q E h => ?_) (fun f cdv A outer s H vs Q E hr h => ?_)
  · obtain ⟨p, bs, M, rfl, _⟩ := h
    rfl
  · obtain ⟨p, bs, M, rfl, hp, sg, l2, m1, m2, q⟩ := h
    refine ⟨_, pss_cons (ps_set (i := 2) sc__law_stretches.nd rfl (Or.inl rfl) (pe_lst pa_nil))
      (pss_cons (PS.nox (ps_for PassesOwn.never rfl (pi_range1 (by rfl) T.n_range (pa_cons (pe_op op_add (pe_op op_sub (pe_callB (call_lenK K) (by rfl) T.n_len boot_len (pa_cons (pv 0) pa_nil)) (pe_op op_mul pe_int (pv 1))) pe_int) pa_nil)) (pg_name (i := 3) sc__law_stretches.nd rfl (Or.inl rfl))
        (pss_cons (ps_set (i := 4) sc__law_stretches.nd rfl (Or.inl rfl) (pe_slice (sl_tupA K) (pv 0) (po_some (pv 3)) (po_some (pe_op op_add (pv 3) (pv 1)))))
        (pss_cons (ps_set (i := 5) sc__law_stretches.nd rfl (Or.inl rfl) (pe_slice (sl_tupA K) (pv 0) (po_some (pe_op op_add (pv 3) (pv 1))) (po_some (pe_op op_add (pv 3) (pe_op op_mul pe_int (pv 1))))))
        (pss_cons (ps_expr (pe_bmK K PySem.F.plainAttrs_list PySem.F.slot_list_append PySem.F.type_list_append mt_append (pv 2) (pa_cons (pe_op (op_catA K) (pe_op (op_catA K) (pe_op (op_catA K) (pe_slice (sl_tupA K) (pv 0) po_none (po_some (pv 3))) (pv 5)) (pv 4)) (pe_slice (sl_tupA K) (pv 0) (po_some (pe_op op_add (pv 3) (pe_op op_mul pe_int (pv 1)))) po_none)) pa_nil)))
        (pss_one (ps_expr (pe_bmK K PySem.F.plainAttrs_list PySem.F.slot_list_append PySem.F.type_list_append mt_append (pv 2) (pa_cons (pe_op (op_catA K) (pe_op (op_catA K) (pe_op (op_catA K) (pe_slice (sl_tupA K) (pv 0) po_none (po_some (pv 3))) (pv 4)) (pv 4)) (pe_slice (sl_tupA K) (pv 0) (po_some (pe_op op_add (pv 3) (pe_op op_mul pe_int (pv 1)))) po_none)) pa_nil)))))))))
      (pss_one (ps_ret (pv 2)))), ?_⟩
    have hsz : (20000 : Nat) ≤ sizeLine := by decide
    have sb : SmL bs := fun n hn => by have := sg n hn; exact sgnS this.1 (by have := this.2; omega)
    refine ⟨by show 0 ≤ sizeLine; decide, fun fl hfl => ?_⟩
    have s0 := (Same.refl H).new (o := .lst []) hfl
    have e0 : (upd H fl (.lst [])) fl = some (.lst []) := upd_same
    generalize upd H fl (.lst []) = H0 at s0 e0 ⊢
    refine ⟨_, rfl, p, _, rfl, .inr (s0.tup hp), _, rfl, _, _, rfl, rfl, .inl ⟨by decide, by decide⟩, _, _, rfl, rfl, _, _, rfl, rfl, ?_⟩
    rw [List.length_map]
    refine ⟨_, rfl, by omega, by omega, ?_⟩
    let I : Nat → _ → Hp → Prop := fun i σ H2 => ∃ (ys : List (Addr × List Int)) (v3 v4 v5 : Option V), σ = [some (.ref p), some (.int (M : Nat)), some (.ref fl), v3, v4, v5] ∧ Same H H2 ∧ H2 fl = some (.lst (ys.map refA)) ∧ ys.length = 2 * i ∧ ∀ y ∈ ys, StO K H2 y
    refine for_range (lo := 0) (n := ((bs.length : Int) - 2 * (M : Nat) + 1).toNat) I ⟨[], none, none, none, rfl, s0, e0, rfl, fun z hz => absurd hz List.not_mem_nil⟩ ?_ ?_
    · rintro i σ H2 hi ⟨ys, v3, v4, v5, rfl, s2, e2, yl, hy⟩
      have hi2 : i + 2 * M ≤ bs.length := by omega
      refine ⟨_, rfl, _, rfl, _, rfl, _, rfl, _, rfl, _, _, rfl, rfl, _, rfl, p, _, rfl, s2.tup hp, fun r1 H3 s3 t1 => ?_⟩
      rw [cut_ii (a := i) (b := i + M) (by omega) (by omega) (by omega) (by omega)] at t1
      have S3 := s2.trans s3
      refine ⟨_, rfl, _, rfl, _, rfl, _, _, rfl, rfl, _, rfl, _, rfl, _, rfl, _, _, rfl, rfl, .inl ⟨by decide, by decide⟩, _, _, rfl, rfl, _, rfl, p, _, rfl, S3.tup hp, fun r2 H4 s4 t2 => ?_⟩
      rw [cut_ii (a := i + M) (b := i + 2 * M) (by omega) (by omega) (by omega) (by omega)] at t2
      have S4 := S3.trans s4
      have t1 := s4.tup t1
      obtain ⟨o1, ho1⟩ : ∃ o1, o1 = (bs.drop i).take (i + M - i) := ⟨_, rfl⟩
      have lo1 : o1.length = M := by rw [ho1, List.length_take, List.length_drop]; omega
      have so1 : SmL o1 := sb.sub fun z hz => by rw [ho1] at hz; exact List.mem_of_mem_drop (List.mem_of_mem_take hz)
      rw [← ho1] at t1
      obtain ⟨o2, ho2⟩ : ∃ o2, o2 = (bs.drop (i + M)).take (i + 2 * M - (i + M)) := ⟨_, rfl⟩
      have lo2 : o2.length = M := by rw [ho2, List.length_take, List.length_drop]; omega
      have so2 : SmL o2 := sb.sub fun z hz => by rw [ho2] at hz; exact List.mem_of_mem_drop (List.mem_of_mem_take hz)
      rw [← ho2] at t2
      have la : (bs.take i).length = i := by rw [List.length_take]; omega
      have lz : (bs.drop (i + 2 * M)).length = bs.length - (i + 2 * M) := List.length_drop
      have sa : SmL (bs.take i) := sb.sub fun z hz => List.mem_of_mem_take hz
      have sz : SmL (bs.drop (i + 2 * M)) := sb.sub fun z hz => List.mem_of_mem_drop hz
      have e4 := s4 _ _ (s3 _ _ e2)
      refine ⟨_, rfl, .inl ⟨rfl, _, SqL.of e4⟩, _, rfl, _, rfl, _, rfl, p, _, rfl, S4.tup hp, fun r3 H5 s5 t3 => ?_⟩
      rw [cut_0i (b := i) (by omega) (by omega)] at t3
      refine ⟨_, rfl, r3, r2, _, _, rfl, rfl, t3, s5.tup t2, by rw [List.length_map, List.length_map]; omega, fun r4 H6 s6 t4 => ?_⟩
      rw [← List.map_append] at t4
      refine ⟨_, rfl, r4, r1, _, _, rfl, rfl, t4, s6.tup (s5.tup t1), by rw [List.length_map, List.length_map, List.length_append]; omega, fun r5 H7 s7 t5 => ?_⟩
      rw [← List.map_append] at t5
      have S7 := S4.trans (s5.trans (s6.trans s7))
      refine ⟨_, rfl, _, rfl, _, rfl, _, _, rfl, rfl, .inl ⟨by decide, by decide⟩, _, _, rfl, rfl, _, rfl, p, _, rfl, S7.tup hp, fun r6 H8 s8 t6 => ?_⟩
      rw [cut_i0 (a := i + 2 * M) (by omega) (by omega)] at t6
      refine ⟨r5, r6, _, _, rfl, rfl, s8.tup t5, t6, by rw [List.length_map, List.length_map, List.length_append, List.length_append]; omega, fun r7 H9 s9 t7 => ?_⟩
      rw [← List.map_append] at t7
      have S49 := s5.trans (s6.trans (s7.trans (s8.trans s9)))
      have S9 := S4.trans S49
      have e9 := S49 _ _ e4
      refine ⟨fl, _, _, rfl, rfl, e9, by rw [List.length_map]; omega, ?_⟩
      have kp := kept_of2 (o := .lst (ys.map refA ++ [V.ref r7])) (ntu_lst e9)
      have h10 : Same H (upd H9 fl (.lst (ys.map refA ++ [V.ref r7]))) := S9.put hfl
      have e10 : (upd H9 fl (.lst (ys.map refA ++ [V.ref r7]))) fl = some (.lst ((ys ++ [(r7, bs.take i ++ o2 ++ o1 ++ bs.drop (i + 2 * M))]).map refA)) := by rw [upd_same, List.map_append]; rfl
      have y10 : ∀ y ∈ ys ++ [(r7, bs.take i ++ o2 ++ o1 ++ bs.drop (i + 2 * M))], StO K (upd H9 fl (.lst (ys.map refA ++ [V.ref r7]))) y := fun y hy2 => by
        rcases List.mem_append.mp hy2 with h | h
        · exact (hy y h).kept ((Kept.same (s3.trans (s4.trans S49))).trans kp)
        · rw [List.mem_singleton.mp h]
          exact ⟨kp.tup t7, ((sa.app so2).app so1).app sz, by simp only [List.length_append]; omega⟩
      have t1 := kp.tup (S49.tup t1)
      generalize upd H9 fl (.lst (ys.map refA ++ [V.ref r7])) = HA at h10 e10 y10 t1 ⊢
      have yl2 : (ys ++ [(r7, bs.take i ++ o2 ++ o1 ++ bs.drop (i + 2 * M))]).length = 2 * i + 1 := by rw [List.length_append, yl]; rfl
      generalize ys ++ [(r7, bs.take i ++ o2 ++ o1 ++ bs.drop (i + 2 * M))] = ys2 at e10 y10 yl2 ⊢
      clear t2 t3 t4 t5 t6 t7 e9 e4 kp
      refine ⟨_, rfl, .inl ⟨rfl, _, SqL.of e10⟩, _, rfl, _, rfl, _, rfl, p, _, rfl, h10.tup hp, fun r3 H5 s5 t3 => ?_⟩
      rw [cut_0i (b := i) (by omega) (by omega)] at t3
      refine ⟨_, rfl, r3, r1, _, _, rfl, rfl, t3, s5.tup t1, by rw [List.length_map, List.length_map]; omega, fun r4 H6 s6 t4 => ?_⟩
      rw [← List.map_append] at t4
      refine ⟨_, rfl, r4, r1, _, _, rfl, rfl, t4, s6.tup (s5.tup t1), by rw [List.length_map, List.length_map, List.length_append]; omega, fun r5 H7 s7 t5 => ?_⟩
      rw [← List.map_append] at t5
      have S7 := h10.trans (s5.trans (s6.trans s7))
      refine ⟨_, rfl, _, rfl, _, rfl, _, _, rfl, rfl, .inl ⟨by decide, by decide⟩, _, _, rfl, rfl, _, rfl, p, _, rfl, S7.tup hp, fun r6 H8 s8 t6 => ?_⟩
      rw [cut_i0 (a := i + 2 * M) (by omega) (by omega)] at t6
      refine ⟨r5, r6, _, _, rfl, rfl, s8.tup t5, t6, by rw [List.length_map, List.length_map, List.length_append, List.length_append]; omega, fun r7 H9 s9 t7 => ?_⟩
      rw [← List.map_append] at t7
      have S49 := s5.trans (s6.trans (s7.trans (s8.trans s9)))
      have S9 := h10.trans S49
      have e9 := S49 _ _ e10
      refine ⟨fl, _, _, rfl, rfl, e9, by rw [List.length_map]; omega, ?_⟩
      have kp := kept_of2 (o := .lst (ys2.map refA ++ [V.ref r7])) (ntu_lst e9)
      refine ⟨ys2 ++ [(r7, bs.take i ++ o1 ++ o1 ++ bs.drop (i + 2 * M))], _, _, _, rfl, S9.put hfl, by rw [upd_same, List.map_append]; rfl, by rw [List.length_append, yl2]; show 2 * i + 1 + 1 = _; omega, fun y hy2 => ?_⟩
      rcases List.mem_append.mp hy2 with h | h
      · exact (y10 y h).kept ((Kept.same S49).trans kp)
      · rw [List.mem_singleton.mp h]
        exact ⟨kp.tup t7, ((sa.app so1).app so1).app sz, by simp only [List.length_append]; omega⟩
    · rintro σ H2 ⟨ys, v3, v4, v5, rfl, s2, e2, yl, hy⟩
      exact ⟨_, rfl, q fl H2 ys s2 hfl e2 hy (by omega)⟩
end
end K46
namespace K46
open PySem L2 PyProof.Rows
section
variable {P : Program} {w : World} {K : PySem.W.Frag} {mg : Str → Option Value} {base : Heap} {t : Ad}
/-! law -/
theorem pls_map {α : Type} {f : α → PyData} (hf : ∀ x, plainD (f x) = true) : ∀ l : List α, plainDs (l.map f) = true
  | [] => rfl
  | x :: xs => by show (plainD (f x) && plainDs (xs.map f)) = true; rw [hf x, pls_map hf xs]; rfl
theorem pl_nw (N : Nw) : plainD (nwR N) = true := by
  show (true && (true && (plainDs (N.near.map wrD) && (plainDs (N.names.map nmD) && true)))) = true
  rw [pls_map (fun _ => rfl), pls_map (fun _ => rfl)]
  rfl
theorem nw_eqv {K : PySem.W.Frag} {H : Hp} {n : Nat} {v : V} {N M : Nw} (h : IsDat K H n v (nwR N)) (c : Can N) (d : Can M) : PyData.eqv (nwR N) (nwR M) = decide (nb N = nb M) := by
  rw [Bool.eq_iff_iff, decide_eq_true_iff]
  constructor
  · intro e
    have := eqv_eq _ _ (pl_nw N) (pl_nw M) e
    have e2 : K46.nwD N = K46.nwD M := by rw [c.nwD, d.nwD]; exact this
    rw [c.inj d e2]
  · intro e
    have := nb_inj c.ok d.ok e
    subst this
    exact h.eqv
theorem ints_eqv (xs ys : List Int) : PyData.eqv (.tuple (xs.map .int)) (.tuple (ys.map .int)) = decide (xs = ys) := by
  rw [← eqvAll_ints]
  rfl
theorem ok0 : NwOk ⟨0, 0, [], []⟩ := by
  refine ⟨⟨by decide, by decide⟩, ⟨by decide, by decide⟩, ?_, ?_⟩
  · exact ⟨fun z hz => absurd hz List.not_mem_nil, by decide, .nil, List.not_mem_nil⟩
  · exact ⟨by decide, .nil, fun z hz => absurd hz List.not_mem_nil⟩
theorem nb_pos (N : Nw) : 1 ≤ (nb N).length := by rw [nb_eq]; simp
theorem sc_law : FnScope ["script", "last", "cell", "news", "body", "k", "some"] ["script"] (defScope s_law) := ⟨rfl, rfl, rfl, by decide +kernel, rfl, by decide +kernel, by decide +kernel⟩
set_option maxHeartbeats 4000000 in
theorem law_fn {f : Addr} {fd : FuncData} (T : Txt K mg t) (F : Fun K "law" "law" s_law f fd) (D_made_news : Def P w K mg base 5 "made_news" ["house", "number", "near", "names"] (sp_made_news K t.BadNews)) (D_news_body : Def P w K mg base 3 "news_body" ["news"] (sp_news_body K)) (D_news_of : Def P w K mg base 6 "news_of" ["body"] (sp_news_of K t.BadNews)) (D__law_news : Def P w K mg base 6 "_law_news" ["cell"] (sp__law_news K)) (D__law_is_body : Def P w K mg base 2 "_law_is_body" ["body"] (sp__law_is_body K)) (D__law_spoilt : Def P w K mg base 3 "_law_spoilt" ["body", "cell"] (sp__law_spoilt K)) (D__law_stretches : Def P w K mg base 1 "_law_stretches" ["body", "many"] (sp__law_stretches K)) (D__law_read_right : Def P w K mg base 7 "_law_read_right" ["body"] (sp__law_read_right K)) : FnOk P w K mg base (CX1 P w) 8 f fd ["script"] (spLaw K) := by
  refine F.ok1 sc_law (fun vs H Q E h => ?_) (fun f cdv A outer s H vs Q E hr h => ?_)
  · obtain ⟨a, ns, rfl, _⟩ := h
    rfl
  · obtain ⟨sc, cs, rfl, hS, hlen, q⟩ := h
    refine ⟨_, pss_cons (ps_set (i := 1) sc_law.nd rfl (Or.inl rfl) (pe_def (D_made_news.mono (by decide)) hr passN (pa_cons pe_int (pa_cons pe_int (pa_cons (pe_lst pa_nil) (pa_cons (pe_lst pa_nil) pa_nil))))))
      (pss_cons (PS.nox (ps_for PassesOwn.never rfl (pi_listK K (pe_op (op_catK K) (pe_lst (pa_cons pe_int pa_nil)) (pe_slice (sl_listK K) (pv 0) po_none (po_some pe_int)))) (pg_name (i := 2) sc_law.nd rfl (Or.inl rfl))
        (pss_cons (ps_set (i := 3) sc_law.nd rfl (Or.inl rfl) (pe_def (D__law_news.mono (by decide)) hr passN (pa_cons (pv 2) pa_nil)))
        (pss_cons (ps_set (i := 4) sc_law.nd rfl (Or.inl rfl) (pe_def (D_news_body.mono (by decide)) hr passN (pa_cons (pv 3) pa_nil)))
        (pss_cons (ps_if (PW.pt (pw_or (pt_not (pt_val (pe_def (D__law_is_body.mono (by decide)) hr passN (pa_cons (pv 4) pa_nil)))) (pw_or (pt_cmpR (op_neD K (hu16 hr)) (pe_def (D_news_of.mono (by decide)) hr passN (pa_cons (pv 4) pa_nil)) (pv 3) (nomark _)) (pw_or1 (pt_cmpR op_ne (pe_cmpR (op_eqD K (hu16 hr)) (pe_def (D_news_body.mono (by decide)) hr passN (pa_cons (pv 1) pa_nil)) (pv 4) (nomark _)) (pe_cmpR (op_eqD K (hu16 hr)) (pv 1) (pv 3) (nomark _)) (nomark _))))))
          (pss_one (ps_ret pe_bl))
          (pss_nil))
        (pss_cons (ps_for PassesOwn.never rfl (pi_range1 (by rfl) T.n_range (pa_cons (pe_op op_mul pe_int (pe_callTy call_int1 (by rfl) T.n_int boot_int (pa_cons (pe_cmpR op_gt (pe_callB (call_lenK K) (by rfl) T.n_len boot_len (pa_cons (pv 4) pa_nil)) pe_int (nomark _)) pa_nil))) pa_nil)) (pg_name (i := 5) sc_law.nd rfl (Or.inl rfl))
          (pss_one (ps_if (pt_not (pt_val (pe_def (D__law_read_right.mono (by decide)) hr passN (pa_cons (pe_def (D__law_spoilt.mono (by decide)) hr passN (pa_cons (pv 4) (pa_cons (pe_op op_add (pe_callB call_abs (by rfl) T.n_abs boot_abs (pa_cons (pv 2) pa_nil)) (pe_op op_mul pe_int (pv 5))) pa_nil))) pa_nil))))
            (pss_one (ps_ret pe_bl))
            (pss_nil))))
        (pss_one (ps_set (i := 1) sc_law.nd rfl (Or.inl rfl) (pv 3)))))))))
      (pss_cons (PS.nox (ps_for PassesOwn.never rfl (pi_listK K (pe_op (op_catK K) (pe_lst (pa_cons pe_int pa_nil)) (pe_slice (sl_listK K) (pv 0) po_none (po_some pe_int)))) (pg_name (i := 2) sc_law.nd rfl (Or.inl rfl))
        (pss_cons (ps_set (i := 4) sc_law.nd rfl (Or.inl rfl) (pe_def (D_news_body.mono (by decide)) hr passN (pa_cons (pe_def (D__law_news.mono (by decide)) hr passN (pa_cons (pv 2) pa_nil)) pa_nil)))
        (pss_one (ps_for PassesOwn.never rfl (pi_listK K (pe_op (op_catK K) (pe_def (D__law_stretches.mono (by decide)) hr passN (pa_cons (pv 4) (pa_cons (pe_op op_add pe_int (pe_op op_mod (pe_op op_fdiv (pe_callB call_abs (by rfl) T.n_abs boot_abs (pa_cons (pv 2) pa_nil)) pe_int) pe_int)) pa_nil))) (pe_def (D__law_stretches.mono (by decide)) hr passN (pa_cons (pv 4) (pa_cons (pe_ix (ix_listK K) (pe_lst (pa_cons pe_int (pa_cons pe_int pa_nil))) (pe_op op_mod (pv 2) pe_int) (fun _ _ => rfl)) pa_nil))))) (pg_name (i := 6) sc_law.nd rfl (Or.inl rfl))
          (pss_one (ps_if (pt_not (pt_val (pe_def (D__law_read_right.mono (by decide)) hr passN (pa_cons (pv 6) pa_nil))))
            (pss_one (ps_ret pe_bl))
            (pss_nil))))))))
      (pss_one (ps_ret (pe_def (D__law_read_right.mono (by decide)) hr passN (pa_cons (pe_tup pa_nil) pa_nil)))))), ?_⟩
    have hsz : (20000 : Nat) ≤ sizeLine := by decide
    refine ⟨by show 0 ≤ sizeLine; decide, fun p1 hp1 => ⟨by show 0 ≤ sizeLine; decide, fun p2 hp2 => ?_⟩⟩
    have s2 := ((Same.refl H).new (o := .lst []) hp1).new (o := .lst []) hp2
    have e1 : (upd (upd H p1 (.lst [])) p2 (.lst [])) p1 = some (.lst []) := by rw [upd_ne (ne_of_none upd_same hp2)]; exact upd_same
    have e2 : (upd (upd H p1 (.lst [])) p2 (.lst [])) p2 = some (.lst []) := upd_same
    generalize upd (upd H p1 (.lst [])) p2 (.lst []) = H2 at s2 e1 e2 ⊢
    unfold tNil
    show sp_made_news K t.BadNews [.int 0, .int 0, .ref p1, .ref p2] H2 _ _
    refine mk_can (b := true) (c := true) (zs := []) (N := ⟨0, 0, [], []⟩) (SqL.of e1) (fun z hz => absurd hz List.not_mem_nil) rfl (SqL.of e2) ok0 fun r0 H3 N0 s3 c0 _ n0 => ?_
    have S3 := s2.trans s3
    -- first loop
    obtain ⟨as, eas, _, asl⟩ := cut_ints cs none (some 20)
    refine ⟨by show 1 ≤ sizeLine; decide, fun q1 hq1 => ⟨_, rfl, _, rfl, sc, _, rfl, (S3.new hq1).seq hS, fun q2 hq2 => ?_⟩⟩
    rw [eas]
    have g1 : (upd (upd H3 q1 (.lst [.int 0])) q2 (.lst (as.map V.int))) q1 = some (.lst [.int 0]) := by rw [upd_ne (ne_of_none upd_same hq2)]; exact upd_same
    refine ⟨q1, q2, _, _, rfl, rfl, SqL.of g1, SqL.of upd_same, by rw [List.length_map]; show 1 + as.length ≤ _; omega, fun q3 hq3 => ?_⟩
    have s4 : Same H3 _ := (((Same.refl H3).new (o := .lst [.int 0]) hq1).new (o := .lst (as.map V.int)) hq2).new (o := .lst ([V.int 0] ++ as.map V.int)) hq3
    have e4 : (upd (upd (upd H3 q1 (.lst [.int 0])) q2 (.lst (as.map V.int))) q3 (.lst ([V.int 0] ++ as.map V.int))) q3 = some (.lst ((0 :: as).map V.int)) := upd_same
    generalize upd (upd (upd H3 q1 (.lst [.int 0])) q2 (.lst (as.map V.int))) q3 (.lst ([V.int 0] ++ as.map V.int)) = H4 at s4 e4 ⊢
    have S4 := S3.trans s4
    let I : Nat → _ → Hp → Prop := fun i σ H5 => ∃ (l : V) (N : Nw) (v2 v3 v4 v5 : Option V), σ = [some (.ref sc), some l, v2, v3, v4, v5, none] ∧ Same H4 H5 ∧ Can N ∧ NAt K H5 l N
    refine ⟨q3, rfl, ⟨_, SqL.of e4⟩, for_list (K := K) (a := q3) (xs := (0 :: as).map V.int) I ⟨.ref r0, N0, none, none, none, none, rfl, .refl _, c0, n0.same s4⟩ (fun i σ H' _ ⟨_, _, _, _, _, _, _, s, _⟩ => SqL.of (s _ _ e4)) ?_ ?_⟩
    · rintro i y σ H5 hi ⟨l, N, v2, v3, v4, v5, rfl, s5, cN, nN⟩
      obtain ⟨c, _, rfl⟩ := item_of hi
      refine ⟨_, rfl, c, rfl, fun r H6 M s6 cM nM => ?_⟩
      refine ⟨_, rfl, .ref r, M, rfl, nM, cM, fun rb H7 s7 tb => ?_⟩
      have bl := nb_len cM.ok
      have bsg := nb_sg cM.ok
      have bsm : ∀ b ∈ nb M, b.natAbs < 2 ^ 1000 := fun b hb => by have := bsg b hb; exact sgnS this.1 (by have := this.2; omega)
      refine ⟨_, rfl, rb, nb M, rfl, tb, bl.2, bsg, fun H8 s8 => ⟨_, rfl, ?_⟩⟩
      refine (show if (!true) = true then _ else _ from iteF ?_)
      refine ⟨_, rfl, rb, nb M, rfl, s8.tup tb, bsm, by omega, fun N2 cN2 e2 r2 H9 s9 n2 => ?_, fun no => absurd rfl (no M cM)⟩
      have eM : N2 = M := nb_inj cN2.ok cM.ok e2
      rw [eM] at n2
      have nM9 : NAt K H9 (.ref r) M := nM.same (s7.trans (s8.trans s9))
      refine ⟨_, rfl, nwR M, nwR M, IsDat.up n2 (by decide), IsDat.up nM9 (by decide), ?_⟩
      rw [if_pos rfl, n2.eqv]
      refine ⟨_, rfl, (show if (!true) = true then _ else _ from iteF ?_)⟩
      have S9 := s7.trans (s8.trans s9)
      refine ⟨_, rfl, l, N, rfl, nN.same (s6.trans S9), cN, fun rc HA sA tc => ?_⟩
      have tbA := sA.tup (s9.tup (s8.tup tb))
      have nMA := nM9.same sA
      have nNA := nN.same (s6.trans (S9.trans sA))
      refine ⟨_, rfl, .tuple ((nb N).map .int), .tuple ((nb M).map .int), tup_dat tc, tup_dat tbA, ?_⟩
      rw [if_neg (by decide), ints_eqv]
      refine ⟨_, rfl, _, rfl, nwR N, nwR M, IsDat.up nNA (by decide), IsDat.up nMA (by decide), ?_⟩
      rw [if_neg (by decide), nw_eqv nNA cN cM]
      refine ⟨rfl, _, rfl, ?_⟩
      refine iteNN rfl ?_
      refine ⟨_, rfl, rb, _, rfl, .inr tbA, _, _, rfl, rfl, ?_⟩
      refine .inr ⟨_, rfl, _, _, rfl, rfl, .inl ⟨by decide, by decide⟩, _, rfl, by split <;> decide, by split <;> decide, ?_⟩
      let J : Nat → _ → Hp → Prop := fun i σ HB => ∃ (v5 : Option V), σ = [some (.ref sc), some l, some (.int c), some (.ref r), some (.ref rb), v5, none] ∧ Same HA HB
      refine for_range (lo := 0) (n := _) J ⟨_, rfl, .refl _⟩ ?_ ?_
      · rintro j σ HB hj ⟨v5, rfl, sB⟩
        refine ⟨_, rfl, _, rfl, c, rfl, _, rfl, _, _, rfl, rfl, .inl ⟨by decide, by decide⟩, _, _, rfl, rfl, ?_⟩
        refine ⟨rb, nb M, _, rfl, sB.tup tbA, bsg, nb_pos M, bl.2, fun r3 HC zs sC tC sm zl => ?_⟩
        refine ⟨r3, zs, rfl, tC, sm, zl, fun HD sD => ⟨_, rfl, ?_⟩⟩
        refine (show if (!true) = true then _ else _ from iteF ?_)
        exact ⟨_, rfl, sB.trans (sC.trans sD)⟩
      · rintro σ HB ⟨v5, rfl, sB⟩
        exact ⟨_, rfl, .ref r, M, _, _, _, _, rfl, s5.trans (s6.trans (S9.trans (sA.trans sB))), cM, nMA.same sB⟩
    rintro σ H5 ⟨l, N, v2, v3, v4, v5, rfl, s5, _, _⟩
    -- second loop
    have S5 := S4.trans s5
    clear s4 e4 s5 n0 g1 eas asl e1 e2 s2 s3 S3 S4
    clear I
    obtain ⟨as, eas, _, asl⟩ := cut_ints cs none (some 2)
    refine ⟨by show 1 ≤ sizeLine; decide, fun q1 hq1 => ⟨_, rfl, _, rfl, sc, _, rfl, (S5.new hq1).seq hS, fun q2 hq2 => ?_⟩⟩
    rw [eas]
    have g1 : (upd (upd H5 q1 (.lst [.int 0])) q2 (.lst (as.map V.int))) q1 = some (.lst [.int 0]) := by rw [upd_ne (ne_of_none upd_same hq2)]; exact upd_same
    refine ⟨q1, q2, _, _, rfl, rfl, SqL.of g1, SqL.of upd_same, by rw [List.length_map]; show 1 + as.length ≤ _; omega, fun q3 hq3 => ?_⟩
    have e4 : (upd (upd (upd H5 q1 (.lst [.int 0])) q2 (.lst (as.map V.int))) q3 (.lst ([V.int 0] ++ as.map V.int))) q3 = some (.lst ((0 :: as).map V.int)) := upd_same
    generalize upd (upd (upd H5 q1 (.lst [.int 0])) q2 (.lst (as.map V.int))) q3 (.lst ([V.int 0] ++ as.map V.int)) = H4 at e4 ⊢
    let I : Nat → _ → Hp → Prop := fun i σ H5 => ∃ (v1 v2 v3 v4 v5 v6 : Option V), σ = [some (.ref sc), v1, v2, v3, v4, v5, v6] ∧ Same H4 H5
    refine ⟨q3, rfl, ⟨_, SqL.of e4⟩, for_list (K := K) (a := q3) (xs := (0 :: as).map V.int) I ⟨_, _, _, _, _, _, rfl, .refl _⟩ (fun i σ H' _ ⟨_, _, _, _, _, _, _, s⟩ => SqL.of (s _ _ e4)) ?_ ?_⟩
    · rintro i y σ H5 hi ⟨v1, v2, v3, v4, v5, v6, rfl, s5⟩
      obtain ⟨c, _, rfl⟩ := item_of hi
      refine ⟨_, rfl, c, rfl, fun r H6 M s6 cM nM => ?_⟩
      refine ⟨.ref r, M, rfl, nM, cM, fun rb H7 s7 tb => ?_⟩
      have bl := nb_len cM.ok
      have bsg := nb_sg cM.ok
      have S7 := s5.trans (s6.trans s7)
      refine ⟨_, rfl, _, rfl, c, rfl, _, _, rfl, rfl, ⟨by decide, by decide⟩, _, _, rfl, rfl, (by show (0 : Int) < 9; decide), _, _, rfl, rfl, ?_⟩
      obtain ⟨m1, hm1, m11, m12⟩ : ∃ m1 : Nat, 1 + (if c < 0 then -c else c) / 7 % 9 = (m1 : Int) ∧ 1 ≤ m1 ∧ m1 ≤ 9 := by
        generalize (if c < 0 then -c else c) / 7 = z
        exact ⟨(1 + z % 9).toNat, by omega, by omega, by omega⟩
      refine ⟨rb, nb M, m1, by rw [← hm1]; rfl, tb, bsg, bl.2, m11, m12, fun f1 H8 ys1 s8 _ e8 h8 l8 => ?_⟩
      obtain ⟨v, av, hv⟩ := two_at 3 6 c
      refine ⟨_, rfl, by show 2 ≤ sizeLine; decide, fun ql hql => ?_⟩
      refine ⟨_, rfl, _, _, rfl, rfl, (by show (0 : Int) < 2; decide), ql, _, _, _, rfl, rfl, SqL.of upd_same, av, ?_⟩
      obtain ⟨m2, hm2, m21, m22⟩ : ∃ m2 : Nat, v = (m2 : Int) ∧ 1 ≤ m2 ∧ m2 ≤ 9 := ⟨v.toNat, by omega, by omega, by omega⟩
      have s9 := (Same.refl H8).new (o := .lst [.int 3, .int 6]) hql
      refine ⟨rb, nb M, m2, by rw [← hm2]; rfl, s9.tup (s8.tup tb), bsg, bl.2, m21, m22, fun f2 H9 ys2 s10 _ e9 h9 l9 => ?_⟩
      have s89 := s9.trans s10
      refine ⟨f1, f2, _, _, rfl, rfl, SqL.of (s89 _ _ e8), SqL.of e9, by rw [List.length_map, List.length_map]; omega, fun q hq => ?_⟩
      have sq := (Same.refl H9).new (o := .lst (ys1.map refA ++ ys2.map refA)) hq
      have eq : (upd H9 q (.lst (ys1.map refA ++ ys2.map refA))) q = some (.lst ((ys1 ++ ys2).map refA)) := by rw [upd_same, List.map_append]
      have SA := S7.trans (s8.trans (s89.trans sq))
      have hA : ∀ y ∈ ys1 ++ ys2, StO K (upd H9 q (.lst (ys1.map refA ++ ys2.map refA))) y := fun y hy => by
        rcases List.mem_append.mp hy with h | h
        · exact (h8 y h).kept (Kept.same (s89.trans sq))
        · exact (h9 y h).kept (Kept.same sq)
      generalize upd H9 q (.lst (ys1.map refA ++ ys2.map refA)) = HA at eq SA hA ⊢
      let J : Nat → _ → Hp → Prop := fun i σ HB => ∃ (v6 : Option V), σ = [some (.ref sc), v1, some (.int c), v3, some (.ref rb), v5, v6] ∧ Same HA HB
      refine ⟨q, rfl, ⟨_, SqL.of eq⟩, for_list (K := K) (a := q) (xs := (ys1 ++ ys2).map refA) J ⟨_, rfl, .refl _⟩ (fun i σ H' _ ⟨_, _, s⟩ => SqL.of (s _ _ eq)) ?_ ?_⟩
      · rintro j y σ HB hj ⟨v6, rfl, sB⟩
        rw [List.getElem?_map] at hj
        obtain ⟨z, ez, rfl⟩ := Option.map_eq_some_iff.mp hj
        have hz := hA z (List.mem_of_getElem? ez)
        refine ⟨_, rfl, z.1, z.2, rfl, sB.tup hz.t, hz.s, hz.l, fun HD sD => ⟨_, rfl, ?_⟩⟩
        refine (show if (!true) = true then _ else _ from iteF ?_)
        exact ⟨_, rfl, sB.trans sD⟩
      · rintro σ HB ⟨v6, rfl, sB⟩
        exact ⟨_, _, _, _, _, _, rfl, SA.trans sB⟩
    rintro σ H6 ⟨v1, v2, v3, v4, v5, v6, rfl, s6⟩
    refine ⟨by show 0 ≤ sizeLine; decide, fun p hp => ?_⟩
    exact ⟨p, [], rfl, SqT.of upd_same, fun b hb => absurd hb List.not_mem_nil, by decide, fun H' s => q H'⟩
end
end K46
namespace K46
open PySem L2 PyProof.Rows
section
variable {P : Program} {w : World} {K : PySem.W.Frag} {mg : Str → Option Value} {base : Heap} {t : Ad}
theorem law_all {f : Addr} {fd : FuncData} (T : Txt K mg t) (F : Fun K "law" "law" s_law f fd) (S_is_sign : Site K mg "is_sign" s_is_sign) (S_look_sign : Site K mg "look_sign" s_look_sign) (S_letter_sign : Site K mg "letter_sign" s_letter_sign) (S_sign_letter : Site K mg "sign_letter" s_sign_letter) (S_text_signs : Site K mg "text_signs" s_text_signs) (S_signs_text : Site K mg "signs_text" s_signs_text) (S_number_signs : Site K mg "number_signs" s_number_signs) (S_signs_number : Site K mg "signs_number" s_signs_number) (S_is_house : Site K mg "is_house" s_is_house) (S_look_house : Site K mg "look_house" s_look_house) (S_look_bounds : Site K mg "look_bounds" s_look_bounds) (S_look_unlike : Site K mg "look_unlike" s_look_unlike) (S_is_name : Site K mg "is_name" s_is_name) (S_look_names : Site K mg "look_names" s_look_names) (S_made_wire : Site K mg "made_wire" s_made_wire) (S_made_near : Site K mg "made_near" s_made_near) (S_made_news : Site K mg "made_news" s_made_news) (S_wire_signs : Site K mg "wire_signs" s_wire_signs) (S_wire_of : Site K mg "wire_of" s_wire_of) (S_news_body : Site K mg "news_body" s_news_body) (S_names_of : Site K mg "names_of" s_names_of) (S_news_of : Site K mg "news_of" s_news_of) (S__law_mixed : Site K mg "_law_mixed" s__law_mixed) (S__law_drawn : Site K mg "_law_drawn" s__law_drawn) (S__law_name : Site K mg "_law_name" s__law_name) (S__law_near : Site K mg "_law_near" s__law_near) (S__law_names : Site K mg "_law_names" s__law_names) (S__law_head : Site K mg "_law_head" s__law_head) (S__law_news : Site K mg "_law_news" s__law_news) (S__law_whole : Site K mg "_law_whole" s__law_whole) (S__law_is_body : Site K mg "_law_is_body" s__law_is_body) (S__law_spoilt : Site K mg "_law_spoilt" s__law_spoilt) (S__law_stretches : Site K mg "_law_stretches" s__law_stretches) (S__law_read_right : Site K mg "_law_read_right" s__law_read_right) : FnOk P w K mg base (CX1 P w) 8 f fd ["script"] (spLaw K) := by
  have D_is_sign := ok_is_sign (P := P) (w := w) (base := base) S_is_sign T
  have D_look_sign := ok_look_sign S_look_sign T D_is_sign
  have D_is_house := ok_is_house (P := P) (w := w) (base := base) S_is_house T
  have D_look_house := ok_look_house S_look_house T D_is_house
  have D_look_bounds := ok_look_bounds (P := P) (w := w) (base := base) S_look_bounds T
  have D_look_unlike := ok_look_unlike (P := P) (w := w) (base := base) S_look_unlike T
  have D_is_name := ok_is_name (P := P) (w := w) (base := base) S_is_name T
  have D_look_names := ok_look_names S_look_names T D_look_unlike D_is_name
  have D_number_signs := ok_number_signs (P := P) (w := w) (base := base) S_number_signs T
  have D_signs_number := ok_signs_number S_signs_number T D_look_sign
  have D_letter_sign := ok_letter_sign (P := P) (w := w) (base := base) S_letter_sign T
  have D_sign_letter := ok_sign_letter (P := P) (w := w) (base := base) S_sign_letter T
  have D_text_signs := ok_text_signs S_text_signs T D_letter_sign
  have D_signs_text := ok_signs_text S_signs_text T D_sign_letter
  have D__law_mixed := ok__law_mixed (P := P) (w := w) (base := base) S__law_mixed T
  have D__law_drawn := ok__law_drawn S__law_drawn T D__law_mixed
  have D_made_wire := ok_made_wire S_made_wire T D_look_house D_look_bounds
  have D_made_near := ok_made_near S_made_near T D_made_wire D_look_unlike
  have D_made_news := ok_made_news S_made_news T D_look_house D_look_bounds D_look_names D_made_near
  have D__law_name := ok__law_name (P := P) (w := w) (base := base) S__law_name T
  have D__law_near := ok__law_near S__law_near T D__law_drawn
  have D__law_names := ok__law_names S__law_names T D__law_drawn D__law_name
  have D__law_head := ok__law_head S__law_head T D__law_drawn
  have D_wire_signs := ok_wire_signs S_wire_signs T D_number_signs
  have D_wire_of := ok_wire_of S_wire_of T D_signs_number
  have D_news_body := ok_news_body S_news_body T D_number_signs D_wire_signs D_text_signs
  have D_names_of := ok_names_of S_names_of T D_signs_text
  have D_news_of := ok_news_of S_news_of T D_is_sign D_wire_of D_signs_number D_names_of D_made_news D_news_body
  have D__law_news := ok__law_news S__law_news T D__law_head D__law_near D__law_names D_made_news
  have D__law_whole := ok__law_whole (P := P) (w := w) (base := base) S__law_whole T
  have D__law_is_body := ok__law_is_body S__law_is_body T D__law_whole
  have D__law_read_right := ok__law_read_right S__law_read_right T D_made_news D_news_body D_news_of
  have D__law_spoilt := ok__law_spoilt S__law_spoilt T D__law_drawn
  have D__law_stretches := ok__law_stretches (P := P) (w := w) (base := base) S__law_stretches T
  exact law_fn T F D_made_news D_news_body D_news_of D__law_news D__law_is_body D__law_spoilt D__law_stretches D__law_read_right
end
end K46
namespace K46
open PySem L2 PyProof.Rows
theorem txt_mk {K : PySem.W.Frag} {h : Heap} {mg : Str → Option Value} {a_BadNews a_BadSign a_PostError : Addr} {tk_cBIRTH_SIGNS tk_cHOUSES tk_cLETTERS tk_cLONGEST_NAME tk_cMANY_AT tk_cMOST_BIRTH tk_cMOST_NAMES tk_cMOST_NEAR tk_cMOST_NUMBER tk_cMOST_QUIET tk_cNEAR_AT tk_cNUMBER_AT tk_cNUMBER_SIGNS tk_cSIGNS tk_cUNTOLD tk_cWIRE_SIGNS : Tok} (KX : K.In h) (G : h.Ns mainGlobals mg)
    (h_mBadNews : PySem.W.nsIn K mainGlobals "BadNews" = some (some (.ref a_BadNews)))
    (h_mBadSign : PySem.W.nsIn K mainGlobals "BadSign" = some (some (.ref a_BadSign)))
    (h_mPostError : PySem.W.nsIn K mainGlobals "PostError" = some (some (.ref a_PostError)))
    (h_cBIRTH_SIGNS : PySem.W.nsIn K mainGlobals "BIRTH_SIGNS" = some (some (.int 2 tk_cBIRTH_SIGNS)))
    (h_cHOUSES : PySem.W.nsIn K mainGlobals "HOUSES" = some (some (.int 32 tk_cHOUSES)))
    (h_cLETTERS : PySem.W.nsIn K mainGlobals "LETTERS" = some (some (.str " !\"#$ &'()*+,-./0123456789:;<=>?@ABCDEFGHIJKLMNOPQRSTUVWXYZ[\\]^_`abcdefghijklmnopqrstuvwxyz{|}~\n" tk_cLETTERS)))
    (h_cLONGEST_NAME : PySem.W.nsIn K mainGlobals "LONGEST_NAME" = some (some (.int 4 tk_cLONGEST_NAME)))
    (h_cMANY_AT : PySem.W.nsIn K mainGlobals "MANY_AT" = some (some (.int 4 tk_cMANY_AT)))
    (h_cMOST_BIRTH : PySem.W.nsIn K mainGlobals "MOST_BIRTH" = some (some (.int 9000 tk_cMOST_BIRTH)))
    (h_cMOST_NAMES : PySem.W.nsIn K mainGlobals "MOST_NAMES" = some (some (.int 4 tk_cMOST_NAMES)))
    (h_cMOST_NEAR : PySem.W.nsIn K mainGlobals "MOST_NEAR" = some (some (.int 5 tk_cMOST_NEAR)))
    (h_cMOST_NUMBER : PySem.W.nsIn K mainGlobals "MOST_NUMBER" = some (some (.int 900000 tk_cMOST_NUMBER)))
    (h_cMOST_QUIET : PySem.W.nsIn K mainGlobals "MOST_QUIET" = some (some (.int 10 tk_cMOST_QUIET)))
    (h_cNEAR_AT : PySem.W.nsIn K mainGlobals "NEAR_AT" = some (some (.int 5 tk_cNEAR_AT)))
    (h_cNUMBER_AT : PySem.W.nsIn K mainGlobals "NUMBER_AT" = some (some (.int 1 tk_cNUMBER_AT)))
    (h_cNUMBER_SIGNS : PySem.W.nsIn K mainGlobals "NUMBER_SIGNS" = some (some (.int 3 tk_cNUMBER_SIGNS)))
    (h_cSIGNS : PySem.W.nsIn K mainGlobals "SIGNS" = some (some (.int 97 tk_cSIGNS)))
    (h_cUNTOLD : PySem.W.nsIn K mainGlobals "UNTOLD" = some (some (.int 5 tk_cUNTOLD)))
    (h_cWIRE_SIGNS : PySem.W.nsIn K mainGlobals "WIRE_SIGNS" = some (some (.int 6 tk_cWIRE_SIGNS)))
    (h_n_ValueError : PySem.W.nsIn K mainGlobals "ValueError" = some none)
    (h_n_abs : PySem.W.nsIn K mainGlobals "abs" = some none)
    (h_n_all : PySem.W.nsIn K mainGlobals "all" = some none)
    (h_n_bool : PySem.W.nsIn K mainGlobals "bool" = some none)
    (h_n_enumerate : PySem.W.nsIn K mainGlobals "enumerate" = some none)
    (h_n_int : PySem.W.nsIn K mainGlobals "int" = some none)
    (h_n_isinstance : PySem.W.nsIn K mainGlobals "isinstance" = some none)
    (h_n_len : PySem.W.nsIn K mainGlobals "len" = some none)
    (h_n_list : PySem.W.nsIn K mainGlobals "list" = some none)
    (h_n_range : PySem.W.nsIn K mainGlobals "range" = some none)
    (h_n_reversed : PySem.W.nsIn K mainGlobals "reversed" = some none)
    (h_n_set : PySem.W.nsIn K mainGlobals "set" = some none)
    (h_n_sorted : PySem.W.nsIn K mainGlobals "sorted" = some none)
    (h_n_tuple : PySem.W.nsIn K mainGlobals "tuple" = some none)
    (h_xBadNews : PySem.W.excIn K a_BadNews [.type "ValueError", .type "Exception", .type "BaseException", .type "object"] "ValueError.__new__" = true)
    (h_eBadNews_ga : PySem.W.findIn K (.ref a_BadNews) "__getattribute__" = some (some (.builtin "BaseException.__getattribute__")))
    (h_eBadNews_nga : PySem.W.findIn K (.ref a_BadNews) "__getattr__" = some none)
    (h_eBadNews_at_ : PySem.W.findIn K (.ref a_BadNews) "__class__" = some (some (.builtin "object.__class__")))
    (h_eBadNews_cls : PySem.W.isClsIn K a_BadNews = true)
    (h_eBadNews_obj : PySem.W.mroIn K a_BadNews (.type "object") = some true)
    (h_eBadNews_base : PySem.W.subIn K (.ref a_BadNews) (.type "BaseException") = some true)
    (h_kpBadNews : PySem.W.keepIn K (.ref a_BadNews) = true)
    (h_subBadNews_PostError : PySem.W.subIn K (.ref a_BadNews) (.ref a_PostError) = some true)
    (h_oneBadNews_BadNews : PySem.W.kitOne K (.ref a_BadNews) (.ref a_BadNews) = some true)
    (h_oneBadNews_BadSign : PySem.W.kitOne K (.ref a_BadNews) (.ref a_BadSign) = some false)
    (h_oneBadNews_ValueError : PySem.W.kitOne K (.ref a_BadNews) (.type "ValueError") = some true)
    (h_xBadSign : PySem.W.excIn K a_BadSign [.type "ValueError", .type "Exception", .type "BaseException", .type "object"] "ValueError.__new__" = true)
    (h_eBadSign_ga : PySem.W.findIn K (.ref a_BadSign) "__getattribute__" = some (some (.builtin "BaseException.__getattribute__")))
    (h_eBadSign_nga : PySem.W.findIn K (.ref a_BadSign) "__getattr__" = some none)
    (h_eBadSign_at_ : PySem.W.findIn K (.ref a_BadSign) "__class__" = some (some (.builtin "object.__class__")))
    (h_eBadSign_cls : PySem.W.isClsIn K a_BadSign = true)
    (h_eBadSign_obj : PySem.W.mroIn K a_BadSign (.type "object") = some true)
    (h_eBadSign_base : PySem.W.subIn K (.ref a_BadSign) (.type "BaseException") = some true)
    (h_subBadSign_BadSign : PySem.W.subIn K (.ref a_BadSign) (.ref a_BadSign) = some true)
    (h_subBadSign_PostError : PySem.W.subIn K (.ref a_BadSign) (.ref a_PostError) = some true)
    (h_oneBadSign_BadNews : PySem.W.kitOne K (.ref a_BadSign) (.ref a_BadNews) = some false)
    (h_oneBadSign_BadSign : PySem.W.kitOne K (.ref a_BadSign) (.ref a_BadSign) = some true)
    (h_oneBadSign_ValueError : PySem.W.kitOne K (.ref a_BadSign) (.type "ValueError") = some true)
    (h_catchBadSign_ty : PySem.W.typeIn K (.ref a_BadSign) = some (.type "type"))
    (h_catchBadSign_cls : PySem.W.isClsIn K a_BadSign = true)
    (h_catchBadSign_base : PySem.W.subIn K (.ref a_BadSign) (.type "BaseException") = some true)
    (h_catchPostError_ty : PySem.W.typeIn K (.ref a_PostError) = some (.type "type"))
    (h_catchPostError_cls : PySem.W.isClsIn K a_PostError = true)
    (h_catchPostError_base : PySem.W.subIn K (.ref a_PostError) (.type "BaseException") = some true)
    (h_isi_int_bool : PySem.W.kitOne K (.type "int") (.type "bool") = some false)
    (h_isi_int_int : PySem.W.kitOne K (.type "int") (.type "int") = some true)
    (h_isi_tuple_tuple : PySem.W.kitOne K (.type "tuple") (.type "tuple") = some true)
    : ∃ t, Txt K mg t := ⟨⟨a_BadNews, a_BadSign, a_PostError⟩, ⟨⟨_, PySem.W.mg_of KX G h_cBIRTH_SIGNS⟩, ⟨_, PySem.W.mg_of KX G h_cHOUSES⟩, ⟨_, PySem.W.mg_of KX G h_cLETTERS⟩, ⟨_, PySem.W.mg_of KX G h_cLONGEST_NAME⟩, ⟨_, PySem.W.mg_of KX G h_cMANY_AT⟩, ⟨_, PySem.W.mg_of KX G h_cMOST_BIRTH⟩, ⟨_, PySem.W.mg_of KX G h_cMOST_NAMES⟩, ⟨_, PySem.W.mg_of KX G h_cMOST_NEAR⟩, ⟨_, PySem.W.mg_of KX G h_cMOST_NUMBER⟩, ⟨_, PySem.W.mg_of KX G h_cMOST_QUIET⟩, ⟨_, PySem.W.mg_of KX G h_cNEAR_AT⟩, ⟨_, PySem.W.mg_of KX G h_cNUMBER_AT⟩, ⟨_, PySem.W.mg_of KX G h_cNUMBER_SIGNS⟩, ⟨_, PySem.W.mg_of KX G h_cSIGNS⟩, ⟨_, PySem.W.mg_of KX G h_cUNTOLD⟩, ⟨_, PySem.W.mg_of KX G h_cWIRE_SIGNS⟩, PySem.W.mg_none_of KX G h_n_ValueError, PySem.W.mg_none_of KX G h_n_abs, PySem.W.mg_none_of KX G h_n_all, PySem.W.mg_none_of KX G h_n_bool, PySem.W.mg_none_of KX G h_n_enumerate, PySem.W.mg_none_of KX G h_n_int, PySem.W.mg_none_of KX G h_n_isinstance, PySem.W.mg_none_of KX G h_n_len, PySem.W.mg_none_of KX G h_n_list, PySem.W.mg_none_of KX G h_n_range, PySem.W.mg_none_of KX G h_n_reversed, PySem.W.mg_none_of KX G h_n_set, PySem.W.mg_none_of KX G h_n_sorted, PySem.W.mg_none_of KX G h_n_tuple, PySem.W.mg_of KX G h_mBadNews, PySem.W.mg_of KX G h_mBadSign, PySem.W.mg_of KX G h_mPostError, h_xBadNews, ⟨h_eBadNews_ga, h_eBadNews_nga, h_eBadNews_at_, h_eBadNews_cls, h_eBadNews_obj, h_eBadNews_base⟩, h_kpBadNews, h_subBadNews_PostError, h_oneBadNews_BadNews, h_oneBadNews_BadSign, h_oneBadNews_ValueError, h_xBadSign, ⟨h_eBadSign_ga, h_eBadSign_nga, h_eBadSign_at_, h_eBadSign_cls, h_eBadSign_obj, h_eBadSign_base⟩, h_subBadSign_BadSign, h_subBadSign_PostError, h_oneBadSign_BadNews, h_oneBadSign_BadSign, h_oneBadSign_ValueError, ⟨h_catchBadSign_ty, h_catchBadSign_cls, h_catchBadSign_base⟩, ⟨h_catchPostError_ty, h_catchPostError_cls, h_catchPostError_base⟩, h_isi_int_bool, h_isi_int_int, h_isi_tuple_tuple⟩⟩
end K46
open PySem PySem.W PyProof.Rows
/-! names of quick twins that are not to be laid beside the largest states of the top: with them the built file is too large -/
def PySem.W.Fast.tw8762876899339731059 : Nat := 0
def PySem.W.Fast.tw17734919143099749293 : Nat := 0
def PySem.W.Fast.tw14765958586359974542 : Nat := 0
def PySem.W.Fast.tw9855484642289794599 : Nat := 0
def PySem.W.Fast.tw12926086314999140679 : Nat := 0
def PySem.W.Fast.tw8918559192387528780 : Nat := 0
def PySem.W.Fast.tw5105033430937789585 : Nat := 0
def PySem.W.Fast.tw17648897868808307683 : Nat := 0
def PySem.W.Fast.tw1118355113237284701 : Nat := 0
def PySem.W.Fast.tw4422590667119645001 : Nat := 0
def PySem.W.Fast.tw9796680697315980073 : Nat := 0
def PySem.W.Fast.tw415789305441943901 : Nat := 0
def PySem.W.Fast.tw2918867961452919158 : Nat := 0
def PySem.W.Fast.tw1343334193961745143 : Nat := 0
def PySem.W.Fast.tw2312039326937581310 : Nat := 0
def PySem.W.Fast.tw4934510158037289410 : Nat := 0
def PySem.W.Fast.tw12490074029821835696 : Nat := 0
def PySem.W.Fast.tw7098591377351941708 : Nat := 0
def PySem.W.Fast.tw4241205248188884559 : Nat := 0
def PySem.W.Fast.tw14196249588831113084 : Nat := 0
def PySem.W.Fast.tw11942905599707515464 : Nat := 0
def PySem.W.Fast.tw3748939754885347231 : Nat := 0
def PySem.W.Fast.tw18234268205707980524 : Nat := 0
def PySem.W.Fast.tw2445780019408494306 : Nat := 0
def PySem.W.Fast.tw8932642805111308144 : Nat := 0
def PySem.W.Fast.tw17095327665738622538 : Nat := 0
def PySem.W.Fast.tw14297718914948661123 : Nat := 0
def PySem.W.Fast.tw14439710958068748502 : Nat := 0
def PySem.W.Fast.tw11267366028257865510 : Nat := 0
def PySem.W.Fast.tw11753527291047800451 : Nat := 0
def PySem.W.Fast.tw8745999740248021563 : Nat := 0
def PySem.W.Fast.tw12182826430555905078 : Nat := 0
def PySem.W.Fast.tw11337138513235091233 : Nat := 0
def PySem.W.Fast.tw16965190598452311620 : Nat := 0
def PySem.W.Fast.tw18329725453411789325 : Nat := 0
def PySem.W.Fast.tw3432634723976284328 : Nat := 0
def PySem.W.Fast.tw9904975613520078773 : Nat := 0
def PySem.W.Fast.tw4262835685429620957 : Nat := 0
def PySem.W.Fast.tw7852754551529940912 : Nat := 0
def PySem.W.Fast.tw16194932339395920 : Nat := 0
def PySem.W.Fast.tw13906612948576264488 : Nat := 0
def PySem.W.Fast.tw5218693058158631747 : Nat := 0
def PySem.W.Fast.tw17607038620866475200 : Nat := 0
def PySem.W.Fast.tw11690727407067863777 : Nat := 0
def PySem.W.Fast.tw2982285945417467736 : Nat := 0
def PySem.W.Fast.tw13026721361925156094 : Nat := 0
def PySem.W.Fast.tw1639394064605017418 : Nat := 0
def PySem.W.Fast.tw12486550527888198274 : Nat := 0
def PySem.W.Fast.tw6448215790840511315 : Nat := 0
def PySem.W.Fast.tw10866186162283985533 : Nat := 0
def PySem.W.Fast.tw17019382437419859681 : Nat := 0
def PySem.W.Fast.tw1258763569536942136 : Nat := 0
def PySem.W.Fast.tw7562973757664662773 : Nat := 0
def PySem.W.Fast.tw7934687981761287232 : Nat := 0
def PySem.W.Fast.tw5735097514934855379 : Nat := 0
def PySem.W.Fast.tw849083935942605374 : Nat := 0
def PySem.W.Fast.tw16853010836988516926 : Nat := 0
def PySem.W.Fast.tw15137231619554101285 : Nat := 0
def PySem.W.Fast.tw5231107944121537998 : Nat := 0
def PySem.W.Fast.tw10059526410661722967 : Nat := 0
def PySem.W.Fast.tw15405408108383562804 : Nat := 0
def PySem.W.Fast.tw14853135382955860417 : Nat := 0
def PySem.W.Fast.tw10975393742474960483 : Nat := 0
def PySem.W.Fast.tw13823562031484852720 : Nat := 0
set_option maxRecDepth 100000 in
set_option maxHeartbeats 0 in
theorem PySem.Challenge.cw_stormpost_k46_news_as_bodies_holds : PySem.Challenge.rw_stormpost_k46_news_as_bodies.Holds := by
  w_on; o_law; k_head; (case hw => w_witness2)
  k_fill
  refine L2.walk_ofS (l := PySem.Challenge.rw_stormpost_k46_news_as_bodies) (k := 8) ⟨rfl, by decide, by decide⟩ rfl rfl (fun w h Y => PySem.W.kIn_of Y) ?F
  case F =>
    intro w mg fa h KX G hmg
    have S_is_sign : L2.Site (L2.KOf KX) mg "is_sign" K46.s_is_sign := by
      dsimp only [L2.KOf]
      refine' L2.Site.mk' KX G ?a ?l ?c ?k
      (case a => k_is); (case l => k_is); (case c => k_is); (case k => k_is)
    have S_look_sign : L2.Site (L2.KOf KX) mg "look_sign" K46.s_look_sign := by
      dsimp only [L2.KOf]
      refine' L2.Site.mk' KX G ?a ?l ?c ?k
      (case a => k_is); (case l => k_is); (case c => k_is); (case k => k_is)
    have S_letter_sign : L2.Site (L2.KOf KX) mg "letter_sign" K46.s_letter_sign := by
      dsimp only [L2.KOf]
      refine' L2.Site.mk' KX G ?a ?l ?c ?k
      (case a => k_is); (case l => k_is); (case c => k_is); (case k => k_is)
    have S_sign_letter : L2.Site (L2.KOf KX) mg "sign_letter" K46.s_sign_letter := by
      dsimp only [L2.KOf]
      refine' L2.Site.mk' KX G ?a ?l ?c ?k
      (case a => k_is); (case l => k_is); (case c => k_is); (case k => k_is)
    have S_text_signs : L2.Site (L2.KOf KX) mg "text_signs" K46.s_text_signs := by
      dsimp only [L2.KOf]
      refine' L2.Site.mk' KX G ?a ?l ?c ?k
      (case a => k_is); (case l => k_is); (case c => k_is); (case k => k_is)
    have S_signs_text : L2.Site (L2.KOf KX) mg "signs_text" K46.s_signs_text := by
      dsimp only [L2.KOf]
      refine' L2.Site.mk' KX G ?a ?l ?c ?k
      (case a => k_is); (case l => k_is); (case c => k_is); (case k => k_is)
    have S_number_signs : L2.Site (L2.KOf KX) mg "number_signs" K46.s_number_signs := by
      dsimp only [L2.KOf]
      refine' L2.Site.mk' KX G ?a ?l ?c ?k
      (case a => k_is); (case l => k_is); (case c => k_is); (case k => k_is)
    have S_signs_number : L2.Site (L2.KOf KX) mg "signs_number" K46.s_signs_number := by
      dsimp only [L2.KOf]
      refine' L2.Site.mk' KX G ?a ?l ?c ?k
      (case a => k_is); (case l => k_is); (case c => k_is); (case k => k_is)
    have S_is_house : L2.Site (L2.KOf KX) mg "is_house" K46.s_is_house := by
      dsimp only [L2.KOf]
      refine' L2.Site.mk' KX G ?a ?l ?c ?k
      (case a => k_is); (case l => k_is); (case c => k_is); (case k => k_is)
    have S_look_house : L2.Site (L2.KOf KX) mg "look_house" K46.s_look_house := by
      dsimp only [L2.KOf]
      refine' L2.Site.mk' KX G ?a ?l ?c ?k
      (case a => k_is); (case l => k_is); (case c => k_is); (case k => k_is)
    have S_look_bounds : L2.Site (L2.KOf KX) mg "look_bounds" K46.s_look_bounds := by
      dsimp only [L2.KOf]
      refine' L2.Site.mk' KX G ?a ?l ?c ?k
      (case a => k_is); (case l => k_is); (case c => k_is); (case k => k_is)
    have S_look_unlike : L2.Site (L2.KOf KX) mg "look_unlike" K46.s_look_unlike := by
      dsimp only [L2.KOf]
      refine' L2.Site.mk' KX G ?a ?l ?c ?k
      (case a => k_is); (case l => k_is); (case c => k_is); (case k => k_is)
    have S_is_name : L2.Site (L2.KOf KX) mg "is_name" K46.s_is_name := by
      dsimp only [L2.KOf]
      refine' L2.Site.mk' KX G ?a ?l ?c ?k
      (case a => k_is); (case l => k_is); (case c => k_is); (case k => k_is)
    have S_look_names : L2.Site (L2.KOf KX) mg "look_names" K46.s_look_names := by
      dsimp only [L2.KOf]
      refine' L2.Site.mk' KX G ?a ?l ?c ?k
      (case a => k_is); (case l => k_is); (case c => k_is); (case k => k_is)
    have S_made_wire : L2.Site (L2.KOf KX) mg "made_wire" K46.s_made_wire := by
      dsimp only [L2.KOf]
      refine' L2.Site.mk' KX G ?a ?l ?c ?k
      (case a => k_is); (case l => k_is); (case c => k_is); (case k => k_is)
    have S_made_near : L2.Site (L2.KOf KX) mg "made_near" K46.s_made_near := by
      dsimp only [L2.KOf]
      refine' L2.Site.mk' KX G ?a ?l ?c ?k
      (case a => k_is); (case l => k_is); (case c => k_is); (case k => k_is)
    have S_made_news : L2.Site (L2.KOf KX) mg "made_news" K46.s_made_news := by
      dsimp only [L2.KOf]
      refine' L2.Site.mk' KX G ?a ?l ?c ?k
      (case a => k_is); (case l => k_is); (case c => k_is); (case k => k_is)
    have S_wire_signs : L2.Site (L2.KOf KX) mg "wire_signs" K46.s_wire_signs := by
      dsimp only [L2.KOf]
      refine' L2.Site.mk' KX G ?a ?l ?c ?k
      (case a => k_is); (case l => k_is); (case c => k_is); (case k => k_is)
    have S_wire_of : L2.Site (L2.KOf KX) mg "wire_of" K46.s_wire_of := by
      dsimp only [L2.KOf]
      refine' L2.Site.mk' KX G ?a ?l ?c ?k
      (case a => k_is); (case l => k_is); (case c => k_is); (case k => k_is)
    have S_news_body : L2.Site (L2.KOf KX) mg "news_body" K46.s_news_body := by
      dsimp only [L2.KOf]
      refine' L2.Site.mk' KX G ?a ?l ?c ?k
      (case a => k_is); (case l => k_is); (case c => k_is); (case k => k_is)
    have S_names_of : L2.Site (L2.KOf KX) mg "names_of" K46.s_names_of := by
      dsimp only [L2.KOf]
      refine' L2.Site.mk' KX G ?a ?l ?c ?k
      (case a => k_is); (case l => k_is); (case c => k_is); (case k => k_is)
    have S_news_of : L2.Site (L2.KOf KX) mg "news_of" K46.s_news_of := by
      dsimp only [L2.KOf]
      refine' L2.Site.mk' KX G ?a ?l ?c ?k
      (case a => k_is); (case l => k_is); (case c => k_is); (case k => k_is)
    have S__law_mixed : L2.Site (L2.KOf KX) mg "_law_mixed" K46.s__law_mixed := by
      dsimp only [L2.KOf]
      refine' L2.Site.mk' KX G ?a ?l ?c ?k
      (case a => k_is); (case l => k_is); (case c => k_is); (case k => k_is)
    have S__law_drawn : L2.Site (L2.KOf KX) mg "_law_drawn" K46.s__law_drawn := by
      dsimp only [L2.KOf]
      refine' L2.Site.mk' KX G ?a ?l ?c ?k
      (case a => k_is); (case l => k_is); (case c => k_is); (case k => k_is)
    have S__law_name : L2.Site (L2.KOf KX) mg "_law_name" K46.s__law_name := by
      dsimp only [L2.KOf]
      refine' L2.Site.mk' KX G ?a ?l ?c ?k
      (case a => k_is); (case l => k_is); (case c => k_is); (case k => k_is)
    have S__law_near : L2.Site (L2.KOf KX) mg "_law_near" K46.s__law_near := by
      dsimp only [L2.KOf]
      refine' L2.Site.mk' KX G ?a ?l ?c ?k
      (case a => k_is); (case l => k_is); (case c => k_is); (case k => k_is)
    have S__law_names : L2.Site (L2.KOf KX) mg "_law_names" K46.s__law_names := by
      dsimp only [L2.KOf]
      refine' L2.Site.mk' KX G ?a ?l ?c ?k
      (case a => k_is); (case l => k_is); (case c => k_is); (case k => k_is)
    have S__law_head : L2.Site (L2.KOf KX) mg "_law_head" K46.s__law_head := by
      dsimp only [L2.KOf]
      refine' L2.Site.mk' KX G ?a ?l ?c ?k
      (case a => k_is); (case l => k_is); (case c => k_is); (case k => k_is)
    have S__law_news : L2.Site (L2.KOf KX) mg "_law_news" K46.s__law_news := by
      dsimp only [L2.KOf]
      refine' L2.Site.mk' KX G ?a ?l ?c ?k
      (case a => k_is); (case l => k_is); (case c => k_is); (case k => k_is)
    have S__law_whole : L2.Site (L2.KOf KX) mg "_law_whole" K46.s__law_whole := by
      dsimp only [L2.KOf]
      refine' L2.Site.mk' KX G ?a ?l ?c ?k
      (case a => k_is); (case l => k_is); (case c => k_is); (case k => k_is)
    have S__law_is_body : L2.Site (L2.KOf KX) mg "_law_is_body" K46.s__law_is_body := by
      dsimp only [L2.KOf]
      refine' L2.Site.mk' KX G ?a ?l ?c ?k
      (case a => k_is); (case l => k_is); (case c => k_is); (case k => k_is)
    have S__law_spoilt : L2.Site (L2.KOf KX) mg "_law_spoilt" K46.s__law_spoilt := by
      dsimp only [L2.KOf]
      refine' L2.Site.mk' KX G ?a ?l ?c ?k
      (case a => k_is); (case l => k_is); (case c => k_is); (case k => k_is)
    have S__law_stretches : L2.Site (L2.KOf KX) mg "_law_stretches" K46.s__law_stretches := by
      dsimp only [L2.KOf]
      refine' L2.Site.mk' KX G ?a ?l ?c ?k
      (case a => k_is); (case l => k_is); (case c => k_is); (case k => k_is)
    have S__law_read_right : L2.Site (L2.KOf KX) mg "_law_read_right" K46.s__law_read_right := by
      dsimp only [L2.KOf]
      refine' L2.Site.mk' KX G ?a ?l ?c ?k
      (case a => k_is); (case l => k_is); (case c => k_is); (case k => k_is)
    have S_law : L2.Site (L2.KOf KX) mg "law" K46.s_law := by
      dsimp only [L2.KOf]
      refine' L2.Site.mk' KX G ?a ?l ?c ?k
      (case a => k_is); (case l => k_is); (case c => k_is); (case k => k_is)
    have T : ∃ t, K46.Txt (L2.KOf KX) mg t := by
      dsimp only [L2.KOf]
      refine' K46.txt_mk KX G ?h_mBadNews ?h_mBadSign ?h_mPostError ?h_cBIRTH_SIGNS ?h_cHOUSES ?h_cLETTERS ?h_cLONGEST_NAME ?h_cMANY_AT ?h_cMOST_BIRTH ?h_cMOST_NAMES ?h_cMOST_NEAR ?h_cMOST_NUMBER ?h_cMOST_QUIET ?h_cNEAR_AT ?h_cNUMBER_AT ?h_cNUMBER_SIGNS ?h_cSIGNS ?h_cUNTOLD ?h_cWIRE_SIGNS ?h_n_ValueError ?h_n_abs ?h_n_all ?h_n_bool ?h_n_enumerate ?h_n_int ?h_n_isinstance ?h_n_len ?h_n_list ?h_n_range ?h_n_reversed ?h_n_set ?h_n_sorted ?h_n_tuple ?h_xBadNews ?h_eBadNews_ga ?h_eBadNews_nga ?h_eBadNews_at_ ?h_eBadNews_cls ?h_eBadNews_obj ?h_eBadNews_base ?h_kpBadNews ?h_subBadNews_PostError ?h_oneBadNews_BadNews ?h_oneBadNews_BadSign ?h_oneBadNews_ValueError ?h_xBadSign ?h_eBadSign_ga ?h_eBadSign_nga ?h_eBadSign_at_ ?h_eBadSign_cls ?h_eBadSign_obj ?h_eBadSign_base ?h_subBadSign_BadSign ?h_subBadSign_PostError ?h_oneBadSign_BadNews ?h_oneBadSign_BadSign ?h_oneBadSign_ValueError ?h_catchBadSign_ty ?h_catchBadSign_cls ?h_catchBadSign_base ?h_catchPostError_ty ?h_catchPostError_cls ?h_catchPostError_base ?h_isi_int_bool ?h_isi_int_int ?h_isi_tuple_tuple
      (case h_mBadNews => k_is)
      (case h_mBadSign => k_is)
      (case h_mPostError => k_is)
      (case h_cBIRTH_SIGNS => k_is)
      (case h_cHOUSES => k_is)
      (case h_cLETTERS => k_is)
      (case h_cLONGEST_NAME => k_is)
      (case h_cMANY_AT => k_is)
      (case h_cMOST_BIRTH => k_is)
      (case h_cMOST_NAMES => k_is)
      (case h_cMOST_NEAR => k_is)
      (case h_cMOST_NUMBER => k_is)
      (case h_cMOST_QUIET => k_is)
      (case h_cNEAR_AT => k_is)
      (case h_cNUMBER_AT => k_is)
      (case h_cNUMBER_SIGNS => k_is)
      (case h_cSIGNS => k_is)
      (case h_cUNTOLD => k_is)
      (case h_cWIRE_SIGNS => k_is)
      (case h_n_ValueError => k_is)
      (case h_n_abs => k_is)
      (case h_n_all => k_is)
      (case h_n_bool => k_is)
      (case h_n_enumerate => k_is)
      (case h_n_int => k_is)
      (case h_n_isinstance => k_is)
      (case h_n_len => k_is)
      (case h_n_list => k_is)
      (case h_n_range => k_is)
      (case h_n_reversed => k_is)
      (case h_n_set => k_is)
      (case h_n_sorted => k_is)
      (case h_n_tuple => k_is)
      (case h_xBadNews => k_exc)
      (case h_eBadNews_ga => k_is)
      (case h_eBadNews_nga => k_is)
      (case h_eBadNews_at_ => k_is)
      (case h_eBadNews_cls => k_is)
      (case h_eBadNews_obj => k_is)
      (case h_eBadNews_base => k_is)
      (case h_kpBadNews => k_is)
      (case h_subBadNews_PostError => k_is)
      (case h_oneBadNews_BadNews => kit_is)
      (case h_oneBadNews_BadSign => kit_is)
      (case h_oneBadNews_ValueError => kit_is)
      (case h_xBadSign => k_exc)
      (case h_eBadSign_ga => k_is)
      (case h_eBadSign_nga => k_is)
      (case h_eBadSign_at_ => k_is)
      (case h_eBadSign_cls => k_is)
      (case h_eBadSign_obj => k_is)
      (case h_eBadSign_base => k_is)
      (case h_subBadSign_BadSign => k_is)
      (case h_subBadSign_PostError => k_is)
      (case h_oneBadSign_BadNews => kit_is)
      (case h_oneBadSign_BadSign => kit_is)
      (case h_oneBadSign_ValueError => kit_is)
      (case h_catchBadSign_ty => k_is)
      (case h_catchBadSign_cls => k_is)
      (case h_catchBadSign_base => k_is)
      (case h_catchPostError_ty => k_is)
      (case h_catchPostError_cls => k_is)
      (case h_catchPostError_base => k_is)
      (case h_isi_int_bool => kit_is)
      (case h_isi_int_int => kit_is)
      (case h_isi_tuple_tuple => kit_is)
    obtain ⟨t, T⟩ := T
    exact L2.law_site S_law (fun _ _ _ _ _ _ us hl => match us, hl with | [_], _ => rfl) hmg fun f fd base F => K46.law_all T F S_is_sign S_look_sign S_letter_sign S_sign_letter S_text_signs S_signs_text S_number_signs S_signs_number S_is_house S_look_house S_look_bounds S_look_unlike S_is_name S_look_names S_made_wire S_made_near S_made_news S_wire_signs S_wire_of S_news_body S_names_of S_news_of S__law_mixed S__law_drawn S__law_name S__law_near S__law_names S__law_head S__law_news S__law_whole S__law_is_body S__law_spoilt S__law_stretches S__law_read_right
#print axioms PySem.Challenge.cw_stormpost_k46_news_as_bodies_holds
