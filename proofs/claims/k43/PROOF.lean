import PyProof.Rows.All
import Wide.All
import OpenK.AllK
import Wide.FinOn
import Lean
import PyProof.EqAt
import PyProof.EqKinds
import PyProof.TupleCall
import PySem.Challenge.RW_stormpost_k43_whole_letters_come_whole
set_option Elab.async false
set_option linter.all false
set_option maxRecDepth 100000
/-! THE HAND LAYER, for ints, bools, texts, own classes, LISTS and tuples (index, slices, in, append, pop ..), calls, loops. Paste it whole ahead of your own text; what your proof does not reach may be deleted. -/
namespace L2
open PySem PySem.Spec PyProof.Rows

/-- a key: an int or a str -/
abbrev Key := Sum Int Str
def keyIs : Key → Value → Bool
  | .inl k, v => Value.isInt k v
  | .inr x, v => Value.isStrOf x v
def keyH (w : World) : Key → Int
  | .inl k => hashInt k
  | .inr x => hashStr w x
theorem keyIs_shape : ∀ {k : Key} {v : Value}, keyIs k v = true → (∃ i t, k = Sum.inl i ∧ v = Value.int i t) ∨ (∃ x t, k = Sum.inr x ∧ v = Value.str x t)
  | .inl i, v, h => by
    obtain ⟨t, e⟩ := Value.isInt_shape (k := i) (v := v) h
    exact .inl ⟨i, t, rfl, e⟩
  | .inr x, v, h => by
    obtain ⟨t, e⟩ := Value.isStrOf_shape (x := x) (v := v) h
    exact .inr ⟨x, t, rfl, e⟩
theorem keyIs_int (i : Int) (t : Tok) : keyIs (.inl i) (.int i t) = true := by simp [keyIs, Value.isInt]
theorem keyIs_str (x : Str) (t : Tok) : keyIs (.inr x) (.str x t) = true := by simp [keyIs, Value.isStrOf]
theorem key_ll (a b : Int) : decide ((Sum.inl a : Key) = Sum.inl b) = (a == b) := by
  by_cases e : a = b
  · subst e; simp
  · have h : ¬ (Sum.inl a : Key) = Sum.inl b := fun q => e (Sum.inl.inj q)
    rw [decide_eq_false h]
    exact (beq_eq_false_iff_ne.mpr e).symm
theorem key_rr (a b : Str) : decide ((Sum.inr a : Key) = Sum.inr b) = decide (a = b) := by
  by_cases e : a = b
  · subst e; simp
  · have h : ¬ (Sum.inr a : Key) = Sum.inr b := fun q => e (Sum.inr.inj q)
    rw [decide_eq_false h, decide_eq_false e]
theorem key_lr (a : Int) (b : Str) : decide ((Sum.inl a : Key) = Sum.inr b) = false := decide_eq_false (fun q => nomatch q)
theorem key_rl (a : Str) (b : Int) : decide ((Sum.inr a : Key) = Sum.inl b) = false := decide_eq_false (fun q => nomatch q)

def mixKind (prog : Program) (w : World) : PySem.KeyKind prog w Key where
  is := keyIs
  hash := keyH w
  inj := fun v a b ha hb => by
    rcases keyIs_shape ha with ⟨i, t, rfl, rfl⟩ | ⟨x, t, rfl, rfl⟩
    · rcases keyIs_shape hb with ⟨j, u, rfl, e⟩ | ⟨y, u, rfl, e⟩
      · injection e with e1 _; rw [e1]
      · exact nomatch e
    · rcases keyIs_shape hb with ⟨j, u, rfl, e⟩ | ⟨y, u, rfl, e⟩
      · exact nomatch e
      · injection e with e1 _; rw [e1]
  byValue := fun k v h => by
    rcases keyIs_shape h with ⟨i, t, rfl, rfl⟩ | ⟨x, t, rfl, rfl⟩ <;> rfl
  pyHash := fun hv h => by
    rcases keyIs_shape hv with ⟨i, t, rfl, rfl⟩ | ⟨x, t, rfl, rfl⟩
    · exact wpAny_pyHash_int h
    · exact wpAny_pyHash_str h
  eqBool := fun hu hv h => by
    rcases keyIs_shape hu with ⟨i, t, rfl, rfl⟩ | ⟨x, t, rfl, rfl⟩
    · rcases keyIs_shape hv with ⟨j, u, rfl, rfl⟩ | ⟨y, u, rfl, rfl⟩
      · rw [key_ll] at h; exact wpAny_eqBool_int h
      · rw [key_lr] at h; exact SeqAt.EqAt.int_str i t y u _ _ _ _ h
    · rcases keyIs_shape hv with ⟨j, u, rfl, rfl⟩ | ⟨y, u, rfl, rfl⟩
      · rw [key_rl] at h; exact SeqAt.EqAt.str_int x t j u _ _ _ _ h
      · rw [key_rr] at h; exact wpAny_eqBool_str h
  «strs» := fun k x t v h => by
    rcases keyIs_shape h with ⟨i, u, rfl, e⟩ | ⟨y, u, rfl, e⟩
    · exact nomatch e
    · injection e with e1 _
      subst e1
      cases v <;> rfl

theorem mixKind_int (prog : Program) (w : World) (i : Int) (t : Tok) : (mixKind prog w).is (.inl i) (.int i t) = true := keyIs_int i t
theorem mixKind_str (prog : Program) (w : World) (x : Str) (t : Tok) : (mixKind prog w).is (.inr x) (.str x t) = true := keyIs_str x t
end L2

namespace L2
open PySem PySem.Spec PyProof.Rows

/-- a value, without the heap -/
inductive V where
  | non | bl (b : Bool) | int (i : Int) | str (x : Str) | byt (b : Array UInt8) | flt (b : UInt64) | ref (a : Addr) | ty (n : String)
  deriving DecidableEq

def RelV : V → Value → Prop
  | .non, u => u = Value.none
  | .bl b, u => u = Value.bool b
  | .int i, u => ∃ t, u = Value.int i t
  | .str x, u => ∃ t, u = Value.str x t
  | .byt b, u => ∃ t, u = Value.bytes b t
  | .flt b, u => ∃ t, u = Value.float b t
  | .ref a, u => u = Value.ref a
  | .ty n, u => u = Value.type n

abbrev Vals : List V → List Value → Prop := Paired RelV
theorem Vals.length {xs : List V} {us : List Value} (r : Vals xs us) : xs.length = us.length := Paired.length r
theorem Vals.get : ∀ {xs : List V} {us : List Value} {i : Nat} {x : V}, Vals xs us → xs[i]? = some x → ∃ u, us[i]? = some u ∧ RelV x u
  | _, _, _, _, .nil, e => by simp at e
  | _, _, 0, _, .cons r _, e => by simp at e; subst e; exact ⟨_, rfl, r⟩
  | _, _, i + 1, x, .cons _ t, e => by
    obtain ⟨u, h1, h2⟩ := Vals.get (i := i) (x := x) t (by simpa using e)
    exact ⟨u, by simpa using h1, h2⟩
theorem Vals.set {x : V} {u : Value} (r : RelV x u) : ∀ {xs : List V} {us : List Value} (i : Nat), Vals xs us → Vals (xs.set i x) (us.set i u)
  | _, _, _, .nil => .nil
  | _, _, 0, .cons _ t => .cons r t
  | _, _, i + 1, .cons q t => .cons q (Vals.set r i t)
theorem Vals.append : ∀ {xs ys : List V} {us ws : List Value}, Vals xs us → Vals ys ws → Vals (xs ++ ys) (us ++ ws)
  | _, _, _, _, .nil, s => s
  | _, _, _, _, .cons r t, s => .cons r (Vals.append t s)
theorem Vals.take : ∀ {xs : List V} {us : List Value} (n : Nat), Vals xs us → Vals (xs.take n) (us.take n)
  | _, _, 0, _ => .nil
  | _, _, _ + 1, .nil => .nil
  | _, _, n + 1, .cons r t => .cons r (Vals.take n t)
theorem Vals.drop : ∀ {xs : List V} {us : List Value} (n : Nat), Vals xs us → Vals (xs.drop n) (us.drop n)
  | _, _, 0, r => r
  | _, _, _ + 1, .nil => .nil
  | _, _, n + 1, .cons _ t => Vals.drop n t
theorem Vals.none_of : ∀ {xs : List V} {us : List Value} {i : Nat}, Vals xs us → xs[i]? = none → us[i]? = none := fun {xs us i} r e => by
  have h1 := r.length
  have h2 : xs.length ≤ i := List.getElem?_eq_none_iff.mp e
  exact List.getElem?_eq_none_iff.mpr (by omega)

def RelO : Option V → Option Value → Prop
  | some v, some u => RelV v u
  | none, none => True
  | _, _ => False
def KV {κ : Type} : List (κ × V) → List (κ × Value) → Prop := Paired fun (p : κ × V) (q : κ × Value) => p.1 = q.1 ∧ RelV p.2 q.2

/-- a key of a dict (00_mix): an int or a text -/
def kV : Key → V
  | .inl i => .int i
  | .inr x => .str x

/-- what stands at a tracked address -/
inductive HO where
  /-- a list -/
  | lst (xs : List V)
  /-- a tuple (never changes) -/
  | tup (xs : List V)
  /-- a dict whose keys are ints and texts; one whose keys are tuples of ints and texts (the empty one is both) -/
  | dK (kvs : List (Key × V)) | dT (kvs : List (List Key × V))
  /-- a set of ints: its members, its size -/
  | set (S : Int → Bool) (n : Nat)
  /-- an instance of the class at C, its dict at dx, its attributes -/
  | ins (C dx : Addr) (fs : List (Str × V))
  /-- the dict of the instance at x -/
  | own (x : Addr)
  /-- the dict of an exception -/
  | xd (fs : List (Str × V))
  /-- a bound method, f of x -/
  | met (f x : Addr)
  /-- a range object lo, lo + 1, .. below hi -/
  | rng (lo hi : Int)
  /-- a thing that is known to the object (the script; a dict while a loop walks it): read, never written while it is so -/
  | frz (o : Obj) (u : HO)
  /-- a code object's table -/
  | tbl (ps : Array Value)
  /-- any other thing, by what is true of its one object (a def of one's own: SetO a S n := HO.ext fun h => ..) -/
  | ext (φ : Heap → Prop)

abbrev Hp := Addr → Option HO
def upd (H : Hp) (a : Addr) (o : HO) : Hp := fun b => if b = a then some o else H b
theorem upd_same {H : Hp} {a : Addr} {o : HO} : upd H a o a = some o := by unfold upd; rw [if_pos rfl]
theorem upd_ne {H : Hp} {a b : Addr} {o : HO} (h : b ≠ a) : upd H a o b = H b := by unfold upd; rw [if_neg h]
/-- two objects of different content stand apart -/
theorem ne_of {H : Hp} {a b : Addr} {o u : HO} (h : H a = some o) (h' : H b = some u) (d : o ≠ u) : a ≠ b := by
  intro e; subst e; rw [h] at h'; exact d (Option.some.inj h')
theorem ne_of_none {H : Hp} {a b : Addr} {o : HO} (h : H a = some o) (h' : H b = none) : a ≠ b := by
  intro e; subst e; rw [h] at h'; cases h'

section
variable (P : Program) (w : World)
def ObjOk (H : Hp) (h : Heap) (a : Addr) : HO → Prop
  | .lst xs => xs.length ≤ sizeLine ∧ ∃ (its : List Value) (n : Nat), Vals xs its ∧ h.get? a = some { cls := .type "list", data := .seq its.toArray n }
  | .tup xs => xs.length ≤ sizeLine ∧ ∃ its : List Value, Vals xs its ∧ IsTup h a its.toArray
  | .dK kvs => kvs.length ≤ sizeLine ∧ (a == sysModules) = false ∧ ∃ vs, KV kvs vs ∧ h.DictOf (mixKind P w) a vs
  | .dT kvs => kvs.length ≤ sizeLine ∧ (a == sysModules) = false ∧ ∃ xs : List (List Key × Addr × Value),
      Paired (fun (p : List Key × V) (q : List Key × Addr × Value) => p.1 = q.1 ∧ H q.2.1 = some (.tup (p.1.map kV)) ∧ RelV p.2 q.2.2) kvs xs ∧
      ∃ o es ep, h.get? a = some o ∧ o.ExactDict ∧ o.data = .dict es ep ∧ es.toList = xs.map (entryOfKey (tupleKind (mixKind P w))) ∧ (xs.map (·.1)).Nodup
  | .set S n => h.SetOf (intKind P w) a S n
  | .ins C dx fs => H dx = some (.own a) ∧ fs.length ≤ 1000 ∧ dx ≠ a ∧ h.get? a = some (PySem.W.instObj C dx) ∧
      ∃ mA, h.Ns1 dx mA ∧ (∀ f, RelO (fs.lookup f) (mA f)) ∧ PySem.Within mA (fs.map (·.1))
  | .own _ => ∃ o, h.get? a = some o
  | .xd fs => ∃ mA, h.Ns1 a mA ∧ ∀ f, RelO (fs.lookup f) (mA f)
  | .rng lo hi => ∃ t u v, h.get? a = some { cls := .type "range", data := .fields #[.int lo t, .int hi u, .int 1 v] }
  | .frz o u => h.get? a = some o ∧ ObjOk H h a u
  | .tbl ps => h.get? a = some { cls := .none, data := .fields ps }
  | .met f x => h.get? a = some (PySem.W.methodObj (.ref f) (.ref x))
  | .ext φ => φ h ∧ (∃ o, h.get? a = some o) ∧ ∀ h1 h2 : Heap, φ h1 → (∀ o, h1.get? a = some o → h2.get? a = some o) → φ h2
/-- the abstract heap is held -/
def HOk (H : Hp) (h : Heap) : Prop := ∀ a o, H a = some o → ObjOk P w H h a o
end

section
variable {P : Program} {w : World} {H H' : Hp} {h h' : Heap} {a : Addr} {o : HO}
theorem ObjOk.lt (x : ObjOk P w H h a o) : a < h.objs.size := by
  cases o with
  | lst xs => obtain ⟨_, _, _, _, e⟩ := x; exact Heap.lt_size e
  | tup xs => obtain ⟨_, _, _, p⟩ := x; exact p.lt
  | dK kvs => obtain ⟨_, _, _, _, o, _, _, e, _⟩ := x; exact Heap.lt_size e
  | dT kvs => obtain ⟨_, _, _, _, o, _, _, e, _⟩ := x; exact Heap.lt_size e
  | set S n => obtain ⟨o, _, _, _, e, _⟩ := x; exact Heap.lt_size e
  | ins C dx fs => obtain ⟨_, _, _, e, _⟩ := x; exact Heap.lt_size e
  | own y => obtain ⟨_, e⟩ := x; exact Heap.lt_size e
  | xd fs => obtain ⟨_, ⟨_, _, _, e, _⟩, _⟩ := x; exact Heap.lt_size e
  | rng lo hi => obtain ⟨_, _, _, e⟩ := x; exact Heap.lt_size e
  | frz ob u => obtain ⟨e, _⟩ := x; exact Heap.lt_size e
  | tbl ps => exact Heap.lt_size (show h.get? a = some _ from x)
  | met f y => exact Heap.lt_size (show h.get? a = some _ from x)
  | ext φ => obtain ⟨_, ⟨_, e⟩, _⟩ := x; exact Heap.lt_size e
theorem Paired.mapP {α β : Type} {F G : α → β → Prop} : ∀ {l₁ : List α} {l₂ : List β}, Paired F l₁ l₂ → (∀ a b, F a b → G a b) → Paired G l₁ l₂
  | _, _, .nil, _ => .nil
  | _, _, .cons r t, f => .cons (f _ _ r) (Paired.mapP t f)
/-- what an object's description leans on: its own object, its own dict, the tuples -/
theorem ObjOk.stay (x : ObjOk P w H h a o) (k : ∀ b u, (b = a ∨ H b = some (.own a)) → h.get? b = some u → h'.get? b = some u)
    (ho : ∀ b, H b = some (.own a) → H' b = some (.own a)) (ht : ∀ b xs, H b = some (.tup xs) → H' b = some (.tup xs)) : ObjOk P w H' h' a o := by
  induction o with
  | lst xs => obtain ⟨z, its, n, r, e⟩ := x; exact ⟨z, its, n, r, k _ _ (.inl rfl) e⟩
  | tup xs => obtain ⟨z, its, r, ob, e, c⟩ := x; exact ⟨z, its, r, ob, k _ _ (.inl rfl) e, c⟩
  | dK kvs => obtain ⟨z, y, vs, r, ob, es, ep, e, c⟩ := x; exact ⟨z, y, vs, r, ob, es, ep, k _ _ (.inl rfl) e, c⟩
  | dT kvs =>
    obtain ⟨z, y, xs, r, ob, es, ep, e, c⟩ := x
    exact ⟨z, y, xs, Paired.mapP r fun p q z => ⟨z.1, ht _ _ z.2.1, z.2.2⟩, ob, es, ep, k _ _ (.inl rfl) e, c⟩
  | set S n => obtain ⟨ob, es, ep, t, e, c⟩ := x; exact ⟨ob, es, ep, t, k _ _ (.inl rfl) e, c⟩
  | ins C dx fs =>
    obtain ⟨d, z, ne, e, mA, ⟨od, es, ep, e2, c⟩, r⟩ := x
    exact ⟨ho _ d, z, ne, k _ _ (.inl rfl) e, mA, ⟨od, es, ep, k _ _ (.inr d) e2, c⟩, r⟩
  | own y => obtain ⟨ob, e⟩ := x; exact ⟨ob, k _ _ (.inl rfl) e⟩
  | xd fs => obtain ⟨mA, ⟨od, es, ep, e, c⟩, r⟩ := x; exact ⟨mA, ⟨od, es, ep, k _ _ (.inl rfl) e, c⟩, r⟩
  | rng lo hi => obtain ⟨t, u, v, e⟩ := x; exact ⟨t, u, v, k _ _ (.inl rfl) e⟩
  | frz ob u ih => obtain ⟨e, q⟩ := x; exact ⟨k _ _ (.inl rfl) e, ih q⟩
  | tbl ps =>
    have e : h.get? a = some { cls := .none, data := .fields ps } := x
    show h'.get? a = some { cls := .none, data := .fields ps }
    exact k a _ (.inl rfl) e
  | met f y =>
    have e : h.get? a = some (PySem.W.methodObj (.ref f) (.ref y)) := x
    show h'.get? a = some (PySem.W.methodObj (.ref f) (.ref y))
    exact k a _ (.inl rfl) e
  | ext φ => obtain ⟨p, ⟨o, e⟩, st⟩ := x; exact ⟨st _ _ p fun o q => k _ _ (.inl rfl) q, ⟨o, k _ _ (.inl rfl) e⟩, st⟩
theorem HOk.lt (x : HOk P w H h) (e : H a = some o) : a < h.objs.size := (x a o e).lt
theorem HOk.fresh (x : HOk P w H h) (e : h.objs.size ≤ a) : H a = none := by
  cases q : H a with
  | none => rfl
  | some u => exact absurd (Nat.lt_of_lt_of_le (x.lt q) e) (Nat.lt_irrefl _)
/-- every object of the heap is kept -/
theorem HOk.kept (x : HOk P w H h) (k : ∀ b u, h.get? b = some u → h'.get? b = some u) : HOk P w H h' := fun a o e =>
  (x a o e).stay (fun b u _ q => k b u q) (fun _ q => q) fun _ _ q => q
/-- a new object is laid and tracked -/
theorem HOk.laid (x : HOk P w H h) (k : ∀ b u, h.get? b = some u → h'.get? b = some u) (hp : h.objs.size ≤ a) (new : ObjOk P w (upd H a o) h' a o) : HOk P w (upd H a o) h' := fun b u e => by
  have hn := x.fresh hp
  by_cases hb : b = a
  · subst hb; rw [upd_same] at e; cases e; exact new
  · rw [upd_ne hb] at e
    exact (x b u e).stay (fun c v _ q => k c v q) (fun c q => by rw [upd_ne (ne_of_none q hn)]; exact q) fun c xs q => by rw [upd_ne (ne_of_none q hn)]; exact q
end

/-- what may be read as u: it is u, or a known u -/
def Rd (H : Hp) (a : Addr) (u : HO) : Prop := H a = some u ∨ ∃ o, H a = some (.frz o u)
theorem Rd.of {H : Hp} {a : Addr} {u : HO} (h : H a = some u) : Rd H a u := .inl h
theorem Rd.ok {P : Program} {w : World} {H : Hp} {h : Heap} {a : Addr} {u : HO} (r : Rd H a u) (x : HOk P w H h) : ObjOk P w H h a u := by
  rcases r with r | ⟨o, r⟩
  · exact x a u r
  · obtain ⟨_, q⟩ := x a _ r
    exact q
/-- what may be written -/
def Mut : Option HO → Prop
  | some (.lst _) => True
  | some (.dK _) => True
  | some (.dT _) => True
  | some (.set _ _) => True
  | some (.ins _ _ _) => True
  | some (.ext _) => True
  | _ => False
section
variable {P : Program} {w : World} {H : Hp} {h h' : Heap} {x e : Addr} {o' : HO}
/-- the object at e is changed: x itself, or the dict of the instance x -/
theorem HOk.write (ok : HOk P w H h) (mu : Mut (H x)) (he : e = x ∨ H e = some (.own x)) (k : ∀ b u, b ≠ e → h.get? b = some u → h'.get? b = some u) (heo : ∃ u, h'.get? e = some u)
    (new : ObjOk P w (upd H x o') h' x o') : HOk P w (upd H x o') h' := fun b u q => by
  have nown : ∀ c y, H c = some (.own y) → c ≠ x := fun c y r z => by subst z; rw [r] at mu; exact mu
  have ntup : ∀ c xs, H c = some (.tup xs) → c ≠ x := fun c xs r z => by subst z; rw [r] at mu; exact mu
  by_cases hb : b = x
  · subst hb; rw [upd_same] at q; cases q; exact new
  · rw [upd_ne hb] at q
    by_cases hbe : b = e
    · have q' : H b = some (.own x) := by
        rcases he with z | z
        · exact absurd (hbe.trans z) hb
        · rw [hbe]; exact z
      rw [q] at q'; cases q'
      obtain ⟨v, hv⟩ := heo
      exact ⟨v, by rw [hbe]; exact hv⟩
    · refine (ok b u q).stay (fun c v hc r => k c v ?_ r) (fun c r => by rw [upd_ne (nown c b r)]; exact r) fun c xs r => by rw [upd_ne (ntup c xs r)]; exact r
      rcases hc with rfl | hc
      · exact hbe
      · rintro rfl
        rcases he with z | z
        · exact nown c b hc z
        · rw [hc] at z; cases z; exact hb rfl
end

/-! ### kept unless tracked; of the frames at fs (the callers') the slots may change (an exception that passes writes there); of the records at ex (iterators) nothing is said -/
structure Un (fs ex : List Addr) (H H' : Hp) (h h' : Heap) : Prop where
  keep : ∀ b o, h.get? b = some o → H b = none → b ∉ fs → b ∉ ex → h'.get? b = some o
  slot : ∀ b o, h.get? b = some o → H b = none → b ∈ fs → b ∉ ex → ∃ sl, h'.get? b = some { o with slots := sl }
  free : ∀ b o, h.get? b = some o → H b = none → b ∉ ex → H' b = none
  there : ∀ b o, h.get? b = some o → b ∉ ex → ∃ o', h'.get? b = some o'
  tups : ∀ b xs, H b = some (.tup xs) → H' b = some (.tup xs)
  frzs : ∀ b o u, H b = some (.frz o u) → H' b = some (.frz o u)
  tbls : ∀ b ps, H b = some (.tbl ps) → ∃ more, H' b = some (.tbl (ps ++ more))
section
variable {fs fs' ex ex' : List Addr} {H H1 H2 : Hp} {h h1 h2 h' : Heap} {a x e : Addr} {o : HO}
theorem Un.any (u : Un fs ex H H1 h h1) {b : Addr} {ob : Obj} (q : h.get? b = some ob) (n : H b = none) (hx : b ∉ ex) : ∃ sl, h1.get? b = some { ob with slots := sl } := by
  by_cases hb : b ∈ fs
  · exact u.slot b ob q n hb hx
  · exact ⟨ob.slots, u.keep b ob q n hb hx⟩
theorem Un.trans (a : Un fs ex H H1 h h1) (b : Un fs ex H1 H2 h1 h2) : Un fs ex H H2 h h2 where
  keep := fun c ob q n hc hx => b.keep c ob (a.keep c ob q n hc hx) (a.free c ob q n hx) hc hx
  slot := fun c ob q n hc hx => by
    obtain ⟨sl, e1⟩ := a.slot c ob q n hc hx
    obtain ⟨sl', e2⟩ := b.slot c _ e1 (a.free c ob q n hx) hc hx
    exact ⟨sl', e2⟩
  free := fun c ob q n hx => by
    obtain ⟨o', e1⟩ := a.there c ob q hx
    exact b.free c o' e1 (a.free c ob q n hx) hx
  there := fun c ob q hx => by
    obtain ⟨o', e1⟩ := a.there c ob q hx
    exact b.there c o' e1 hx
  tups := fun c xs q => b.tups c xs (a.tups c xs q)
  frzs := fun c ob xs q => b.frzs c ob xs (a.frzs c ob xs q)
  tbls := fun c ps q => by
    obtain ⟨m1, e1⟩ := a.tbls c ps q
    obtain ⟨m2, e2⟩ := b.tbls c _ e1
    exact ⟨m1 ++ m2, by rw [e2, Array.append_assoc]⟩
theorem Un.kept (k : ∀ b u, h.get? b = some u → h'.get? b = some u) : Un fs ex H H h h' :=
  ⟨fun b ob q _ _ _ => k b ob q, fun b ob q _ _ _ => ⟨ob.slots, k b ob q⟩, fun _ _ _ n _ => n, fun b ob q _ => ⟨ob, k b ob q⟩, fun _ _ q => q, fun _ _ _ q => q, fun _ ps q => ⟨#[], by rw [q]; simp⟩⟩
theorem Un.refl : Un fs ex H H h h := Un.kept fun _ _ q => q
theorem Un.laid (k : ∀ b u, h.get? b = some u → h'.get? b = some u) (hp : h.objs.size ≤ a) (hn : H a = none) : Un fs ex H (upd H a o) h h' where
  keep := fun b u q _ _ _ => k b u q
  slot := fun b u q _ _ _ => ⟨u.slots, k b u q⟩
  free := fun b u q n _ => by rw [upd_ne (Nat.ne_of_lt (Nat.lt_of_lt_of_le (Heap.lt_size q) hp))]; exact n
  there := fun b u q _ => ⟨u, k b u q⟩
  tups := fun b xs q => by rw [upd_ne (ne_of_none q hn)]; exact q
  frzs := fun b u xs q => by rw [upd_ne (ne_of_none q hn)]; exact q
  tbls := fun b ps q => ⟨#[], by rw [upd_ne (ne_of_none q hn), q]; simp⟩
theorem Un.write (mu : Mut (H x)) (he : e = x ∨ H e = some (.own x)) (k : ∀ b u, b ≠ e → h.get? b = some u → h'.get? b = some u) (heo : ∃ u, h'.get? e = some u) : Un fs ex H (upd H x o) h h' := by
  have hx : ∀ b, H b = none → b ≠ x := fun b n z => by subst z; rw [n] at mu; exact mu
  have hb : ∀ b, H b = none → b ≠ e := fun b n z => by
    subst z
    rcases he with r | r
    · exact hx b n r
    · rw [n] at r; cases r
  have hm : ∀ b u, H b = some u → ¬ Mut (some u) → b ≠ x := fun b u q nm z => by subst z; rw [q] at mu; exact nm mu
  refine ⟨fun b u q n _ _ => k b u (hb b n) q, fun b u q n _ _ => ⟨u.slots, k b u (hb b n) q⟩, fun b u q n _ => by rw [upd_ne (hx b n)]; exact n, fun b u q _ => ?_,
    fun b xs q => by rw [upd_ne (hm b _ q fun z => z)]; exact q, fun b u xs q => by rw [upd_ne (hm b _ q fun z => z)]; exact q, fun b ps q => ⟨#[], by rw [upd_ne (hm b _ q fun z => z), q]; simp⟩⟩
  by_cases hbe : b = e
  · subst hbe; exact heo
  · exact ⟨u, k b u hbe q⟩
theorem Un.mono (u : Un fs ex H H1 h h1) (hs : ∀ b ∈ fs, b ∈ fs') (hx : ∀ b ∈ ex, b ∈ ex') : Un fs' ex' H H1 h h1 :=
  ⟨fun b ob q n hb he => u.keep b ob q n (fun z => hb (hs b z)) fun z => he (hx b z), fun _ _ q n _ he => u.any q n fun z => he (hx _ z), fun b ob q n he => u.free b ob q n fun z => he (hx b z), fun b ob q he => u.there b ob q fun z => he (hx b z), u.tups, u.frzs, u.tbls⟩
end

/-! ### the heap without what is tracked -/
def trk (h : Heap) (H : Hp) : List Addr := (List.range h.objs.size).filter fun a => (H a).isSome
def hidT (h : Heap) (H : Hp) : Heap := PySem.W.hideAll h (trk h H)
theorem hidT_size (h : Heap) (H : Hp) : (hidT h H).objs.size = h.objs.size := PySem.W.hideAll_size _ _
theorem hidT_get {h : Heap} {H : Hp} {b : Addr} {o : Obj} (e : h.get? b = some o) (n : H b = none) : (hidT h H).get? b = some o :=
  PySem.W.hideAll_get _ e fun hm => by
    have q : (H b).isSome = true := (List.mem_filter.mp hm).2
    rw [n] at q; simp at q
theorem of_hidT {h : Heap} {H : Hp} {b : Addr} {o : Obj} (e : (hidT h H).get? b = some o) : h.get? b = some o ∧ H b = none := by
  have e' : h.get? b = some o := PySem.W.of_hideAll (trk h H) e
  refine ⟨e', ?_⟩
  cases q : H b with
  | none => rfl
  | some x =>
    have hm : b ∈ trk h H := List.mem_filter.mpr ⟨List.mem_range.mpr (Heap.lt_size e'), by simp [q]⟩
    have z : (hidT h H).get? b = none := PySem.W.hideAll_none (trk h H) hm
    rw [z] at e; cases e

/-! ### OpenK's ledger, filled with every new object but one -/
def allNews (g h : Heap) (L : Addr) : List (Addr × Obj) := (List.range h.objs.size).filterMap fun a => if a = L ∨ (g.get? a).isSome = true then none else (h.get? a).map fun o => (a, o)
def rest (g h : Heap) (L d : Addr) : List (Addr × Obj) := (allNews g h L).filter fun p => decide (p.1 ≠ d)
end L2

namespace L2
open PySem PySem.Spec PyProof.Rows

/-- the module's facts, over the base: the heap at the law's entry without what is tracked there -/
structure Mod (K : PySem.W.Frag) (mg : Str → Option Value) (base : Heap) : Prop where
  kin : K.In base
  glob : base.Ns mainGlobals mg
  blt : ∃ mb, base.Ns builtinsNs mb ∧ ∀ x : Str, x ≠ "__name__" → mb x = bootBuiltins x
  nolimit : base.NoLimit

/-- the context: a def's body (or a comprehension's block) running. base: fixed through the whole law; s₀, H₀: the entry; outer: the frames whose slots others may change (a def's callers); stack: all frames that run;
   ex: iterators that were made ahead of the entry and are walked here (a comprehension's); fn: the names whose cells were made at the entry (a def: all; a comprehension's block: its own); calm: not within an except suite; pn: pins that every state bears; xe: what is wanted of an exception that leaves the code -/
structure Cx where
  prog : Program
  w : World
  K : PySem.W.Frag
  mg : Str → Option Value
  base : Heap
  A : Around
  N : List Str
  s₀ : Shared
  H₀ : Hp
  env : Env
  outer : List Env
  stack : List Env
  ex : List Addr
  fn : Str → Bool
  calm : Bool
  pn : List (Addr × Obj)
  xe : Value → Shared → Prop
/-- the callers' frames -/
def frs (l : List Env) : List Addr := l.filterMap (·.frame)
abbrev Cx.fs (X : Cx) : List Addr := frs X.outer

def Vis (sc : Scope) (x : Str) : Prop := sc.names.lookup x = some .local ∨ sc.names.lookup x = some .cell ∨ sc.names.lookup x = some .free
def Loc (sc : Scope) (x : Str) : Prop := sc.names.lookup x = some .local ∨ sc.names.lookup x = some .cell
def Look (env : Env) (h : Heap) (m : Str → Option Value) (x : Str) (u : Value) : Prop :=
  (env.kindOf x = some .local ∧ m x = some u) ∨ ((env.kindOf x = some .cell ∨ env.kindOf x = some .free) ∧ ∃ c, env.cells.lookup x = some c ∧ h.IsCell c (some u))

structure Cx.Ok (X : Cx) : Prop where
  mod : Mod X.K X.mg X.base
  kind : X.env.scope.kind = .function
  glob : X.env.globals = mainGlobals
  blt : X.env.builtins = builtinsNs
  above : X.s₀.heap.objs.size ≤ X.env.locals
  inj : ∀ x y c, X.env.cells.lookup x = some c → X.env.cells.lookup y = some c → x = y
  has : ∀ x, (X.env.kindOf x = some .cell ∨ X.env.kindOf x = some .free) → ∃ c, X.env.cells.lookup x = some c
  cab : ∀ x c, X.fn x = true → X.env.cells.lookup x = some c → X.s₀.heap.objs.size ≤ c
  hd : X.calm = true → X.A.handled = none
  frames : X.A.frames = some X.stack
  stk : X.stack = X.outer ∨ (X.stack = X.env :: X.outer ∧ X.env.frame = some X.env.locals)
  exf : ∀ b ∈ X.ex, b ≠ X.env.locals ∧ ∀ x c, X.env.cells.lookup x = some c → c ≠ b
  bs : ∀ b o, X.base.get? b = some o → X.s₀.heap.get? b = some o ∧ X.H₀ b = none
  bsz : X.base.objs.size ≤ X.s₀.heap.objs.size
  noex : ∀ b o, X.base.get? b = some o → b ∉ X.ex
  exfs : ∀ b ∈ X.ex, b ∉ X.fs
  funs : X.s₀.heap.FunFrames X.base X.outer
  frf : ∀ b ∈ X.fs, X.H₀ b = none

structure Inv (X : Cx) (pins : List (Addr × Obj)) (σ : List (Option V)) (H : Hp) (s : Shared) : Prop where
  ok : X.Ok
  os : s.os = X.s₀.os
  bare : AllBare s.gens
  base : Un X.fs X.ex X.H₀ H X.s₀.heap s.heap
  loc : ∃ m, s.heap.Ns X.env.locals m ∧ ∀ (i : Nat) (x : Str) (v : V), X.N[i]? = some x → σ[i]? = some (some v) → Vis X.env.scope x → ∃ u, RelV v u ∧ Look X.env s.heap m x u
  cell : ∀ x c, X.env.cells.lookup x = some c → ∃ v, s.heap.IsCell c v
  free : H X.env.locals = none
  freeC : ∀ x c, X.env.cells.lookup x = some c → H c = none
  pin : ∀ p ∈ X.pn ++ pins, s.heap.get? p.1 = some p.2 ∧ H p.1 = none ∧ p.1 ≠ X.env.locals ∧ p.1 ∉ X.fs ∧ ∀ v, p.2.data ≠ .cell v
  hok : HOk X.prog X.w H s.heap
  len : σ.length = X.N.length

section
variable {X : Cx} {pins : List (Addr × Obj)} {σ : List (Option V)} {H H' : Hp} {s : Shared} {h' : Heap}

theorem Cx.Ok.nofr (ok : X.Ok) {b : Addr} {o : Obj} (e : X.base.get? b = some o) : b ∉ X.fs := fun hb => by
  have := (ok.funs.mem hb).1
  rw [e] at this; cases this
theorem Inv.bs (I : Inv X pins σ H s) : ∀ b o, X.base.get? b = some o → s.heap.get? b = some o ∧ H b = none := fun b o e =>
  ⟨I.base.keep b o (I.ok.bs b o e).1 (I.ok.bs b o e).2 (I.ok.nofr e) (I.ok.noex b o e), I.base.free b o (I.ok.bs b o e).1 (I.ok.bs b o e).2 (I.ok.noex b o e)⟩
theorem Inv.bk (I : Inv X pins σ H s) : ∀ b o, X.base.get? b = some o → s.heap.get? b = some o := fun b o e => (I.bs b o e).1
theorem Inv.mod (I : Inv X pins σ H s) : Mod X.K X.mg X.base := I.ok.mod
theorem Inv.kIn (I : Inv X pins σ H s) : X.K.In s.heap := I.ok.mod.kin.keeps I.bk
theorem Inv.nolimit (I : Inv X pins σ H s) : s.heap.NoLimit := I.ok.mod.nolimit.keeps I.bk
/-- the frame over the base: for OpenK's rules (K.In X.base is I.mod.kin) -/
theorem Inv.fr (I : Inv X pins σ H s) : ∃ m, Fr X.base X.env.locals s.heap m :=
  let ⟨m, hn, _⟩ := I.loc
  ⟨m, hn, I.bk, Nat.le_trans I.ok.bsz I.ok.above⟩
theorem Inv.lt (I : Inv X pins σ H s) : X.env.locals < s.heap.objs.size := let ⟨_, hn, _⟩ := I.loc; hn.lt
theorem Inv.sz (I : Inv X pins σ H s) : X.s₀.heap.objs.size ≤ s.heap.objs.size := Nat.le_trans I.ok.above (Nat.le_of_lt I.lt)
theorem Inv.nofs (I : Inv X pins σ H s) {a : Addr} (h : s.heap.objs.size ≤ a) : a ∉ X.fs := fun hb => by
  obtain ⟨_, o, ho, _⟩ := I.ok.funs.mem hb
  exact absurd (Nat.lt_of_lt_of_le (Heap.lt_size ho) (Nat.le_trans I.sz h)) (Nat.lt_irrefl _)
theorem Inv.cne (I : Inv X pins σ H s) : ∀ x c, X.env.cells.lookup x = some c → c ≠ X.env.locals := fun x c e z => by
  obtain ⟨v, o, ho, hd⟩ := I.cell x c e
  obtain ⟨m, ⟨o', es, ep, ho', hd', _⟩, _⟩ := I.loc
  rw [z, ho'] at ho; cases ho; rw [hd'] at hd; cases hd
theorem Inv.funs (I : Inv X pins σ H s) : s.heap.FunFrames X.base X.outer := by
  have all : ∀ (l : List Env), (∀ b ∈ frs l, b ∈ X.fs) → X.s₀.heap.FunFrames X.base l → s.heap.FunFrames X.base l := by
    intro l
    induction l with
    | nil => intro _ _; trivial
    | cons env r ih =>
      intro hs hl
      obtain ⟨hk, ⟨L, o, hf, hn, ho, hd⟩, hr⟩ := hl
      have hL : L ∈ X.fs := hs L (by unfold frs; rw [List.filterMap_cons, hf]; exact List.mem_cons_self)
      obtain ⟨sl, e⟩ := I.base.slot L o ho (I.ok.frf L hL) hL fun z => I.ok.exfs L z hL
      exact ⟨hk, ⟨L, _, hf, hn, e, hd⟩, ih (fun b hb => hs b (by unfold frs; rw [List.filterMap_cons, hf]; exact List.mem_cons_of_mem _ hb)) hr⟩
  exact all X.outer (fun _ hb => hb) I.ok.funs

/-- the frames that run, for a call -/
theorem Inv.stack (I : Inv X pins σ H s) : s.heap.FunFrames X.base X.stack := by
  rcases I.ok.stk with e | ⟨e, hf⟩
  · rw [e]; exact I.funs
  · rw [e]
    obtain ⟨m, hn, _⟩ := I.loc
    refine .cons (by rw [I.ok.kind]; decide) hf hn ?_ I.funs
    exact Heap.get?_none_of_le (Nat.le_trans I.ok.bsz I.ok.above)
theorem Inv.stkSub (I : Inv X pins σ H s) : ∀ b ∈ frs X.stack, b ∈ X.env.locals :: X.fs := fun b hb => by
  rcases I.ok.stk with e | ⟨e, hf⟩
  · rw [e] at hb; exact List.mem_cons_of_mem _ hb
  · rw [e] at hb
    unfold frs at hb
    rw [List.filterMap_cons, hf] at hb
    exact hb
theorem Inv.stkFree (I : Inv X pins σ H s) : ∀ b ∈ frs X.stack, H b = none := fun b hb => by
  rcases List.mem_cons.mp (I.stkSub b hb) with e | hb
  · rw [e]; exact I.free
  · obtain ⟨_, o, ho, _⟩ := I.ok.funs.mem hb
    exact I.base.free b o ho (I.ok.frf b hb) fun z => I.ok.exfs b z hb

/-- THE STEP: the untracked objects but the frame and the records at ch are kept (the callers' frames up to slots), the frame's map is kept, the new abstract heap is held -/
theorem Inv.step {g' : Array GenState} {t' : Nat} {d' : Drawn} {ch : List Addr} (I : Inv X pins σ H s)
    (hch : ∀ b ∈ ch, (b ∈ X.ex ∨ X.s₀.heap.objs.size ≤ b) ∧ b ≠ X.env.locals ∧ (∀ x c, X.env.cells.lookup x = some c → c ≠ b) ∧ ∀ p ∈ X.pn ++ pins, p.1 ≠ b)
    (keep : ∀ b o, b ≠ X.env.locals → b ∉ X.fs → b ∉ ch → s.heap.get? b = some o → H b = none → h'.get? b = some o)
    (slot : ∀ b o, b ≠ X.env.locals → b ∈ X.fs → b ∉ ch → s.heap.get? b = some o → H b = none → ∃ sl, h'.get? b = some { o with slots := sl }) (free : ∀ b o, b ∉ ch → s.heap.get? b = some o → H b = none → H' b = none)
    (there : ∀ b o, b ∉ ch → s.heap.get? b = some o → ∃ o', h'.get? b = some o')
    (tups : ∀ b xs, H b = some (.tup xs) → H' b = some (.tup xs)) (frzs : ∀ b o u, H b = some (.frz o u) → H' b = some (.frz o u)) (tbls : ∀ b ps, H b = some (.tbl ps) → ∃ more, H' b = some (.tbl (ps ++ more)))
    (ns : ∀ m, s.heap.Ns X.env.locals m → h'.Ns X.env.locals m) (hok : HOk X.prog X.w H' h') (hg : AllBare g') :
    Inv X pins σ H' { s with heap := h', gens := g', drawn := d', toks := t' } := by
  have neL : ∀ b o, X.s₀.heap.get? b = some o → b ≠ X.env.locals := fun b o e => Nat.ne_of_lt (Nat.lt_of_lt_of_le (Heap.lt_size e) I.ok.above)
  have neC : ∀ b o, X.s₀.heap.get? b = some o → b ∉ X.ex → b ∉ ch := fun b o e hx hb => by
    rcases (hch b hb).1 with z | z
    · exact hx z
    · exact absurd (Nat.lt_of_lt_of_le (Heap.lt_size e) z) (Nat.lt_irrefl _)
  have cellK : ∀ x c, X.env.cells.lookup x = some c → ∀ v, s.heap.IsCell c v → h'.IsCell c v := fun x c e v ⟨o, ho, hd⟩ => by
    have nch : c ∉ ch := fun z => (hch c z).2.2.1 x c e rfl
    by_cases hc : c ∈ X.fs
    · obtain ⟨sl, q⟩ := slot c o (I.cne x c e) hc nch ho (I.freeC x c e)
      exact ⟨_, q, hd⟩
    · exact ⟨o, keep c o (I.cne x c e) hc nch ho (I.freeC x c e), hd⟩
  refine ⟨I.ok, I.os, hg, ⟨fun b o e n hb hx => ?_, fun b o e n hb hx => ?_, fun b o e n hx => ?_, fun b o e hx => ?_, fun b xs e => tups b xs (I.base.tups b xs e), fun b o xs e => frzs b o xs (I.base.frzs b o xs e), fun b ps e => ?_⟩, ?_, fun x c e => ?_, ?_, fun x c e => ?_, fun p hp => ?_, hok, I.len⟩
  · exact keep b o (neL b o e) hb (neC b o e hx) (I.base.keep b o e n hb hx) (I.base.free b o e n hx)
  · obtain ⟨sl, e1⟩ := I.base.slot b o e n hb hx
    obtain ⟨sl', e2⟩ := slot b _ (neL b o e) hb (neC b o e hx) e1 (I.base.free b o e n hx)
    exact ⟨sl', e2⟩
  · obtain ⟨o', e1⟩ := I.base.there b o e hx
    exact free b o' (neC b o e hx) e1 (I.base.free b o e n hx)
  · obtain ⟨o', e1⟩ := I.base.there b o e hx
    exact there b o' (neC b o e hx) e1
  · obtain ⟨m1, e1⟩ := I.base.tbls b ps e
    obtain ⟨m2, e2⟩ := tbls b _ e1
    exact ⟨m1 ++ m2, by rw [e2, Array.append_assoc]⟩
  · obtain ⟨m, hn, hl⟩ := I.loc
    refine ⟨m, ns m hn, fun i x v e1 e2 e3 => ?_⟩
    obtain ⟨u, r, l⟩ := hl i x v e1 e2 e3
    refine ⟨u, r, ?_⟩
    rcases l with l | ⟨k, c, e, z⟩
    · exact .inl l
    · exact .inr ⟨k, c, e, cellK x c e _ z⟩
  · obtain ⟨v, z⟩ := I.cell x c e
    exact ⟨v, cellK x c e v z⟩
  · obtain ⟨m, ⟨o, _, _, ho, _⟩, _⟩ := I.loc
    exact free _ o (fun z => (hch _ z).2.1 rfl) ho I.free
  · obtain ⟨v, o, ho, hd⟩ := I.cell x c e
    exact free c o (fun z => (hch c z).2.2.1 x c e rfl) ho (I.freeC x c e)
  · obtain ⟨e, n, ne, nf, d⟩ := I.pin p hp
    have nch : p.1 ∉ ch := fun z => (hch p.1 z).2.2.2 p hp rfl
    exact ⟨keep p.1 p.2 ne nf nch e n, free p.1 p.2 nch e n, ne, nf, d⟩
/-- .. where the frame's own object is kept too -/
theorem Inv.un {t' : Nat} (I : Inv X pins σ H s) (u : Un X.fs [] H H' s.heap h') (hok : HOk X.prog X.w H' h') : Inv X pins σ H' { s with heap := h', toks := t' } := by
  obtain ⟨m, ⟨o, es, ep, ho, r⟩, _⟩ := id I.loc
  obtain ⟨sl, hL⟩ := u.any ho I.free (by simp)
  exact I.step (g' := s.gens) (d' := s.drawn) (ch := []) (fun _ z => nomatch z) (fun b o _ hb _ e n => u.keep b o e n hb (by simp)) (fun b o _ hb _ e n => u.slot b o e n hb (by simp)) (fun b o _ e n => u.free b o e n (by simp)) (fun b o _ e => u.there b o e (by simp)) u.tups u.frzs u.tbls (fun m' hm => by
    obtain ⟨o', es', ep', ho', r'⟩ := hm
    rw [ho] at ho'; cases ho'
    exact ⟨_, es', ep', hL, r'⟩) hok I.bare
/-- behind a call (or a comprehension's block): the slots of this frame may have changed too, the records at ch may have turned -/
theorem Inv.call {g' : Array GenState} {t' : Nat} {d' : Drawn} {ch : List Addr} (I : Inv X pins σ H s) (u : Un (frs X.stack) ch H H' s.heap h') (hok : HOk X.prog X.w H' h') (hg : AllBare g')
    (hch : ∀ b ∈ ch, (b ∈ X.ex ∨ X.s₀.heap.objs.size ≤ b) ∧ b ≠ X.env.locals ∧ (∀ x c, X.env.cells.lookup x = some c → c ≠ b) ∧ ∀ p ∈ X.pn ++ pins, p.1 ≠ b) :
    Inv X pins σ H' { s with heap := h', gens := g', drawn := d', toks := t' } := by
  obtain ⟨m, ⟨o, es, ep, ho, r⟩, _⟩ := id I.loc
  obtain ⟨sl, hL⟩ := u.any ho I.free fun z => (hch _ z).2.1 rfl
  exact I.step (ch := ch) hch (fun b o hL hb hc e n => u.keep b o e n (fun z => (List.mem_cons.mp (I.stkSub b z)).elim hL hb) hc) (fun b o _ _ hc e n => u.any e n hc) (fun b o hc e n => u.free b o e n hc) (fun b o hc e => u.there b o e hc) u.tups u.frzs u.tbls (fun m' hm => by
    obtain ⟨o', es', ep', ho', r'⟩ := hm
    rw [ho] at ho'; cases ho'
    exact ⟨_, es', ep', hL, r'⟩) hok hg
/-- an untracked record of ours (an iterator) has turned -/
theorem Inv.turned {t' : Nat} {it : Addr} (I : Inv X pins σ H s) (k : ∀ b o, b ≠ it → s.heap.get? b = some o → h'.get? b = some o) (hn : H it = none) (hL : it ≠ X.env.locals)
    (h1 : it ∈ X.ex ∨ X.s₀.heap.objs.size ≤ it) (h2 : ∀ x c, X.env.cells.lookup x = some c → c ≠ it) (h3 : ∀ p ∈ X.pn ++ pins, p.1 ≠ it) : Inv X pins σ H { s with heap := h', toks := t' } := by
  have nit : ∀ b u, H b = some u → b ≠ it := fun b u e z => by rw [z, hn] at e; cases e
  refine I.step (g' := s.gens) (d' := s.drawn) (ch := [it]) (fun b hb => ?_) (fun b o _ _ hc e _ => k b o (fun z => hc (by simp [z])) e) (fun b o _ _ hc e _ => ⟨o.slots, k b o (fun z => hc (by simp [z])) e⟩) (fun _ _ _ _ n => n)
    (fun b o hc e => ⟨o, k b o (fun z => hc (by simp [z])) e⟩) (fun _ _ e => e) (fun _ _ _ e => e) (fun b ps e => ⟨#[], by rw [e]; simp⟩) (fun m hm => ?_) (fun b u e => ?_) I.bare
  · have e : b = it := by simpa using hb
    subst e
    exact ⟨h1, hL, h2, h3⟩
  · obtain ⟨o, es, ep, ho, r⟩ := hm
    exact ⟨o, es, ep, k _ o (Ne.symm hL) ho, r⟩
  · refine (I.hok b u e).stay (fun c v hc q => k c v ?_ q) (fun _ q => q) fun _ _ q => q
    rcases hc with z | z
    · rw [z]; exact nit b u e
    · exact nit c _ z
theorem Inv.tok (I : Inv X pins σ H s) (t : Nat) : Inv X pins σ H { s with toks := t } := I.un (h' := s.heap) (t' := t) Un.refl I.hok
/-- all objects kept -/
theorem Inv.kept {t' : Nat} (I : Inv X pins σ H s) (k : ∀ b u, s.heap.get? b = some u → h'.get? b = some u) : Inv X pins σ H { s with heap := h', toks := t' } := I.un (Un.kept k) (I.hok.kept k)
/-- a new object laid and tracked -/
theorem Inv.laid {a : Addr} {o : HO} {t' : Nat} (I : Inv X pins σ H s) (k : ∀ b u, s.heap.get? b = some u → h'.get? b = some u) (hp : s.heap.objs.size ≤ a) (new : ObjOk X.prog X.w (upd H a o) h' a o) :
    Inv X pins σ (upd H a o) { s with heap := h', toks := t' } := I.un (Un.laid k hp (I.hok.fresh hp)) (I.hok.laid k hp new)
/-- an object written -/
theorem Inv.write {x e : Addr} {o : HO} {t' : Nat} (I : Inv X pins σ H s) (mu : Mut (H x)) (he : e = x ∨ H e = some (.own x)) (k : ∀ b u, b ≠ e → s.heap.get? b = some u → h'.get? b = some u) (heo : ∃ u, h'.get? e = some u)
    (new : ObjOk X.prog X.w (upd H x o) h' x o) : Inv X pins σ (upd H x o) { s with heap := h', toks := t' } := I.un (Un.write mu he k heo) (I.hok.write mu he k heo new)
/-- forgetting slots, pins -/
theorem Inv.weak {σ' : List (Option V)} (I : Inv X pins σ H s) (hl : σ'.length = σ.length) (w : ∀ (i : Nat) v, σ'[i]? = some (some v) → σ[i]? = some (some v)) : Inv X pins σ' H s :=
  ⟨I.ok, I.os, I.bare, I.base, let ⟨m, hn, hl'⟩ := I.loc; ⟨m, hn, fun i x v e1 e2 e3 => hl' i x v e1 (w i v e2) e3⟩, I.cell, I.free, I.freeC, I.pin, I.hok, hl.trans I.len⟩
theorem Inv.pins_of {pins' : List (Addr × Obj)} (I : Inv X pins σ H s) (h : ∀ p ∈ pins', s.heap.get? p.1 = some p.2 ∧ H p.1 = none ∧ p.1 ≠ X.env.locals ∧ p.1 ∉ X.fs ∧ ∀ v, p.2.data ≠ .cell v) : Inv X pins' σ H s :=
  ⟨I.ok, I.os, I.bare, I.base, I.loc, I.cell, I.free, I.freeC, fun p hp => (List.mem_append.mp hp).elim (fun z => I.pin p (List.mem_append_left _ z)) (h p), I.hok, I.len⟩

theorem nodup_ix {N : List Str} (hN : N.Nodup) {i j : Nat} {x : Str} (a : N[i]? = some x) (b : N[j]? = some x) : i = j := by
  obtain ⟨h1, e1⟩ := List.getElem?_eq_some_iff.mp a
  obtain ⟨h2, e2⟩ := List.getElem?_eq_some_iff.mp b
  exact (List.getElem_inj hN).mp (e1.trans e2.symm)

/-- a name is stored; what changed -/
theorem store_ok2 {M : Model} {A : Around} {E : Value → Shared → Prop} {i : Nat} {x : Str} {v : V} {u : Value} {Q : Unit → Shared → Prop} (I : Inv X pins σ H s) (hN : X.N.Nodup) (hi : X.N[i]? = some x) (hx : Loc X.env.scope x) (r : RelV v u)
    (h : ∀ s', Inv X pins (σ.set i (some v)) H s' → (∃ a, Heap.SameBut a s.heap s'.heap ∧ (a = X.env.locals ∨ X.env.cells.lookup x = some a)) → Q () s') (hf : X.fn x = true ∨ X.env.scope.names.lookup x = some .local := by first | exact .inl rfl | exact .inr rfl | assumption) : wpAny M A (storeName X.env x u) Q E s := by
  obtain ⟨m, hn, hl⟩ := id I.loc
  have hcls : (X.env.scope.kind == .class || (X.env.scope.kind == .module && X.env.locals != X.env.globals)) = false := by rw [I.ok.kind]; rfl
  have hiσ : i < σ.length := by rw [I.len]; exact (List.getElem?_eq_some_iff.mp hi).1
  have cne := I.cne
  have tracked : ∀ {a : Addr} {h' : Heap}, (∃ o, s.heap.get? a = some o ∧ H a = none) → Heap.SameBut a s.heap h' → HOk X.prog X.w H h' := fun {a h'} ha hs b ob e => by
    obtain ⟨_, _, hfree⟩ := ha
    refine (I.hok b ob e).stay (fun c w' hc q => (hs.2 c ?_).trans q) (fun _ q => q) fun _ _ q => q
    rintro rfl
    rcases hc with rfl | hc
    · rw [hfree] at e; cases e
    · rw [hfree] at hc; cases hc
  rcases hx with hk | hk
  · refine wpAny_storeName_local hk hn (fun h' hn' hs => ?_) hcls
    obtain ⟨oL, _, _, hoL, _⟩ := id hn
    refine h _ ⟨I.ok, I.os, I.bare, ⟨fun b o e n hb hx => ?_, fun b o e n hb hx => ?_, I.base.free, fun b o e hx => ?_, I.base.tups, I.base.frzs, I.base.tbls⟩, ⟨_, hn', fun j y v' e1 e2 e3 => ?_⟩, fun y c e => ?_, I.free, I.freeC, fun p hp => ?_, tracked ⟨oL, hoL, I.free⟩ hs, by simpa using I.len⟩ ⟨_, hs, .inl rfl⟩
    · exact (hs.2 b (Nat.ne_of_lt (Nat.lt_of_lt_of_le (Heap.lt_size e) I.ok.above))).trans (I.base.keep b o e n hb hx)
    · obtain ⟨sl, e1⟩ := I.base.slot b o e n hb hx
      exact ⟨sl, (hs.2 b (Nat.ne_of_lt (Nat.lt_of_lt_of_le (Heap.lt_size e) I.ok.above))).trans e1⟩
    · obtain ⟨o', e1⟩ := I.base.there b o e hx
      exact ⟨o', (hs.2 b (Nat.ne_of_lt (Nat.lt_of_lt_of_le (Heap.lt_size e) I.ok.above))).trans e1⟩
    · by_cases hj : j = i
      · subst hj
        rw [hi] at e1; cases e1
        rw [List.getElem?_set_self hiσ] at e2
        cases e2
        exact ⟨u, r, .inl ⟨hk, by simp⟩⟩
      · rw [List.getElem?_set_ne (Ne.symm hj)] at e2
        obtain ⟨u', r', q⟩ := hl j y v' e1 e2 e3
        refine ⟨u', r', ?_⟩
        rcases q with ⟨k, e⟩ | ⟨k, c, e, z⟩
        · refine .inl ⟨k, ?_⟩
          have : y ≠ x := fun e => hj (nodup_ix hN e1 (e ▸ hi))
          simp [this, e]
        · exact .inr ⟨k, c, e, z.sameBut hs (cne y c e)⟩
    · obtain ⟨w', z⟩ := I.cell y c e
      exact ⟨w', z.sameBut hs (cne y c e)⟩
    · obtain ⟨e, n, ne, nf, d⟩ := I.pin p hp
      exact ⟨(hs.2 p.1 ne).trans e, n, ne, nf, d⟩
  · have hfn : X.fn x = true := by
      rcases hf with z | z
      · exact z
      · rw [z] at hk; cases hk
    obtain ⟨c, hc⟩ := I.ok.has x (.inl hk)
    obtain ⟨w', z⟩ := I.cell x c hc
    refine wpAny_storeName_cell I.ok.kind hk hc z (fun h' hc' hs => ?_)
    obtain ⟨oc, hoc, hocd⟩ := id z
    refine h { s with heap := h' } ⟨I.ok, I.os, I.bare, ⟨fun b o e n hb hx => ?_, fun b o e n hb hx => ?_, I.base.free, fun b o e hx => ?_, I.base.tups, I.base.frzs, I.base.tbls⟩, ⟨m, hn.sameBut hs (Ne.symm (cne x c hc)), fun j y v' e1 e2 e3 => ?_⟩, fun y c' e => ?_, I.free, I.freeC, fun p hp => ?_, tracked ⟨oc, hoc, I.freeC x c hc⟩ hs, by simpa using I.len⟩ ⟨c, hs, .inr hc⟩
    · exact (hs.2 b (Nat.ne_of_lt (Nat.lt_of_lt_of_le (Heap.lt_size e) (I.ok.cab x c hfn hc)))).trans (I.base.keep b o e n hb hx)
    · obtain ⟨sl, e1⟩ := I.base.slot b o e n hb hx
      exact ⟨sl, (hs.2 b (Nat.ne_of_lt (Nat.lt_of_lt_of_le (Heap.lt_size e) (I.ok.cab x c hfn hc)))).trans e1⟩
    · obtain ⟨o', e1⟩ := I.base.there b o e hx
      exact ⟨o', (hs.2 b (Nat.ne_of_lt (Nat.lt_of_lt_of_le (Heap.lt_size e) (I.ok.cab x c hfn hc)))).trans e1⟩
    · by_cases hj : j = i
      · subst hj
        rw [hi] at e1; cases e1
        rw [List.getElem?_set_self hiσ] at e2
        cases e2
        exact ⟨u, r, .inr ⟨.inl hk, c, hc, hc'⟩⟩
      · rw [List.getElem?_set_ne (Ne.symm hj)] at e2
        obtain ⟨u', r', q⟩ := hl j y v' e1 e2 e3
        refine ⟨u', r', ?_⟩
        rcases q with q | ⟨k, c', e, z'⟩
        · exact .inl q
        · refine .inr ⟨k, c', e, z'.sameBut hs ?_⟩
          rintro rfl
          exact hj (nodup_ix hN e1 (I.ok.inj _ _ _ e hc ▸ hi))
    · by_cases hcc : c' = c
      · subst hcc; exact ⟨_, hc'⟩
      · obtain ⟨w2, z2⟩ := I.cell y c' e
        exact ⟨w2, z2.sameBut hs hcc⟩
    · obtain ⟨e, n, ne, nf, d⟩ := I.pin p hp
      refine ⟨(hs.2 p.1 ?_).trans e, n, ne, nf, d⟩
      intro q
      rw [q, hoc] at e
      have q' : oc = p.2 := Option.some.inj e
      exact d w' (by rw [← q']; exact hocd)
theorem store_ok {M : Model} {A : Around} {E : Value → Shared → Prop} {i : Nat} {x : Str} {v : V} {u : Value} {Q : Unit → Shared → Prop} (I : Inv X pins σ H s) (hN : X.N.Nodup) (hi : X.N[i]? = some x) (hx : Loc X.env.scope x) (r : RelV v u)
    (h : ∀ s', Inv X pins (σ.set i (some v)) H s' → Q () s') (hf : X.fn x = true ∨ X.env.scope.names.lookup x = some .local := by first | exact .inl rfl | exact .inr rfl | assumption) : wpAny M A (storeName X.env x u) Q E s :=
  store_ok2 I hN hi hx r (fun s' I' _ => h s' I') hf
/-- behind a call or a block, the state as it is -/
theorem Inv.call' {s' : Shared} {ch : List Addr} (I : Inv X pins σ H s) (ho : s'.os = s.os) (u : Un (frs X.stack) ch H H' s.heap s'.heap) (hok : HOk X.prog X.w H' s'.heap) (hg : AllBare s'.gens)
    (hch : ∀ b ∈ ch, (b ∈ X.ex ∨ X.s₀.heap.objs.size ≤ b) ∧ b ≠ X.env.locals ∧ (∀ x c, X.env.cells.lookup x = some c → c ≠ b) ∧ ∀ p ∈ X.pn ++ pins, p.1 ≠ b) : Inv X pins σ H' s' := by
  obtain ⟨h', g', d', t', o'⟩ := s'
  have e : o' = s.os := ho
  subst e
  exact I.call (g' := g') (t' := t') (d' := d') u hok hg hch
end

/-! ### the judgements -/
/-- an exception: its class, its own dict's address (where it has one), the abstract heap behind it -/
abbrev XK := Value → Option Addr → Hp → Prop
abbrev St := List (Option V)
abbrev VK := V → Hp → Prop
/-- an expression's reading; a test's; an argument list's -/
abbrev TE := St → Hp → VK → Prop
abbrev TT := St → Hp → (Bool → Hp → Prop) → Prop
abbrev TA := St → Hp → (List V → Hp → Prop) → Prop
/-- what is wanted behind a statement -/
structure Ends where
  nx : St → Hp → Prop
  rt : VK
  bk : St → Hp → Prop := fun _ _ => False
  ct : St → Hp → Prop := fun _ _ => False
abbrev TS := Ends → St → Hp → Prop

def EP (X : Cx) (pins : List (Addr × Obj)) (σ : St) (Q : VK) (u : Value) (s' : Shared) : Prop := ∃ v H', Inv X pins σ H' s' ∧ RelV v u ∧ Q v H'
def TP (X : Cx) (pins : List (Addr × Obj)) (σ : St) (Q : Bool → Hp → Prop) (b : Bool) (s' : Shared) : Prop := ∃ H', Inv X pins σ H' s' ∧ Q b H'
def AP (X : Cx) (pins : List (Addr × Obj)) (σ : St) (Q : List V → Hp → Prop) (us : List Value) (s' : Shared) : Prop := ∃ vs H', Inv X pins σ H' s' ∧ Vals vs us ∧ Q vs H'
def SP (X : Cx) (pins : List (Addr × Obj)) (D : Ends) (f : Flow) (s' : Shared) : Prop :=
  match f with
  | .next => ∃ σ' H', Inv X pins σ' H' s' ∧ D.nx σ' H'
  | .brk => ∃ σ' H', Inv X pins σ' H' s' ∧ D.bk σ' H'
  | .cont => ∃ σ' H', Inv X pins σ' H' s' ∧ D.ct σ' H'
  | .ret u => ∃ v σ' H', Inv X pins σ' H' s' ∧ RelV v u ∧ D.rt v H'

def PE (X : Cx) (e : Expr) (t : TE) : Prop :=
  ∀ (pins : List (Addr × Obj)) (s : Shared) (σ : St) (H : Hp) (Q : VK), Inv X pins σ H s → t σ H Q → wpAny (model X.prog X.w) X.A (eval e X.env) (EP X pins σ Q) X.xe s
def PT (X : Cx) (e : Expr) (t : TT) : Prop :=
  ∀ (pins : List (Addr × Obj)) (s : Shared) (σ : St) (H : Hp) (Q : Bool → Hp → Prop), Inv X pins σ H s → t σ H Q → wpAny (model X.prog X.w) X.A (isTrue e X.env (eval e X.env)) (TP X pins σ Q) X.xe s
/-- a test whatever its 'whole' is (and, or) -/
def PW (X : Cx) (e : Expr) (t : TT) : Prop :=
  ∀ (whole : Sem Value) (pins : List (Addr × Obj)) (s : Shared) (σ : St) (H : Hp) (Q : Bool → Hp → Prop), Inv X pins σ H s → t σ H Q → wpAny (model X.prog X.w) X.A (isTrue e X.env whole) (TP X pins σ Q) X.xe s
theorem PW.pt {X : Cx} {e : Expr} {t : TT} (h : PW X e t) : PT X e t := h _
/-- an argument list (no star), from the left -/
def PA (X : Cx) (es : List Expr) (t : TA) : Prop :=
  ∀ (pos : Pos) (pins : List (Addr × Obj)) (s : Shared) (σ : St) (H : Hp) (Q : List V → Hp → Prop), Inv X pins σ H s → t σ H Q → wpAny (model X.prog X.w) X.A (spliced (backTo pos (starEach es X.env))) (AP X pins σ Q) X.xe s
def PS (X : Cx) (st : Stmt) (t : TS) : Prop :=
  ∀ (pins : List (Addr × Obj)) (s : Shared) (σ : St) (H : Hp) (D : Ends), Inv X pins σ H s → t D σ H → wpAny (model X.prog X.w) X.A (exec st X.env) (SP X pins D) X.xe s
def PSs (X : Cx) (st : List Stmt) (t : TS) : Prop :=
  ∀ (pins : List (Addr × Obj)) (s : Shared) (σ : St) (H : Hp) (D : Ends), Inv X pins σ H s → t D σ H → wpAny (model X.prog X.w) X.A (execs st X.env) (SP X pins D) X.xe s
/-- weaken the end -/
theorem thn {α : Type} {t : Sem α} {Q Q' : α → Shared → Prop} {M : Model} {A : Around} {E : Value → Shared → Prop} {s : Shared} (h : wpAny M A t Q E s) (hQ : ∀ a s, Q a s → Q' a s) : wpAny M A t Q' E s := wpAny_mono h hQ fun _ _ x => x
end L2

namespace L2
open PySem PySem.Spec PyProof.Rows
section
variable {X : Cx}

/-! ### names and constants -/
def tVar (i : Nat) : TE := fun σ H Q => ∃ v, σ[i]? = some (some v) ∧ Q v H
def tC (v : V) : TE := fun _ H Q => Q v H
theorem pe_var {i : Nat} {x : Str} {pos : Pos} (hN : X.N[i]? = some x) (hv : Vis X.env.scope x) (hd : (x == ("__debug__" : Str)) = false := by decide) (hcd : (x == ("__classdict__" : Str)) = false := by decide) : PE X (.Name x pos) (tVar i) := by
  intro pins s σ H Q I h
  obtain ⟨v, e, h⟩ := h
  obtain ⟨m, hn, hl⟩ := I.loc
  obtain ⟨u, r, l⟩ := hl i x v hN e hv
  have fin : EP X pins σ Q u s := ⟨v, H, I, r, h⟩
  rcases l with ⟨hk, hm⟩ | ⟨hk, c, hc, hcell⟩
  · exact wpAny_Name (wpAny_loadName_local I.ok.kind hk hn hm fin) hd
  · rcases hk with hk | hk
    · exact wpAny_Name (wpAny_loadName_cell I.ok.kind hk hc hcell fin) hd
    · exact wpAny_Name (wpAny_loadName_free I.ok.kind hk hc hcell fin hcd) hd
theorem pe_int {i j pos} : PE X (.Constant (.int i) j pos) (tC (.int i)) := fun _ _ _ H _ I h => wpAny_Constant_int ⟨.int i, H, I.tok _, ⟨_, rfl⟩, h⟩
theorem pe_bl {b j pos} : PE X (.Constant (.bool b) j pos) (tC (.bl b)) := fun _ _ _ H _ I h => Constant_bool ⟨.bl b, H, I, rfl, h⟩
theorem pe_non {j pos} : PE X (.Constant .none j pos) (tC .non) := fun _ _ _ H _ I h => Constant_none ⟨.non, H, I, rfl, h⟩
theorem pe_str {x j pos} : PE X (.Constant (.str x) j pos) (tC (.str x)) := fun _ _ _ H _ I h => Calls.Constant_str ⟨.str x, H, I.tok _, ⟨_, rfl⟩, h⟩

/-- a global name of the def -/
def Gl (X : Cx) (x : Str) : Prop := X.env.kindOf x = some .globalImplicit
theorem ld_glob {E : Value → Shared → Prop} {pins : List (Addr × Obj)} {s : Shared} {σ : St} {H : Hp} {x : Str} {u : Value} {pos : Pos} {Q : Value → Shared → Prop} (I : Inv X pins σ H s) (hg : Gl X x) (hm : X.mg x = some u) (h : Q u s)
    (hd : (x == ("__debug__" : Str)) = false := by decide) : wpAny (model X.prog X.w) X.A (eval (.Name x pos) X.env) Q E s :=
  Calls.Name_function_global I.ok.kind hg (Calls.loadGlobal_global (by rw [I.ok.glob]; exact I.mod.glob.keeps I.bk) hm h) hd
theorem ld_blt {E : Value → Shared → Prop} {pins : List (Addr × Obj)} {s : Shared} {σ : St} {H : Hp} {x : Str} {u : Value} {pos : Pos} {Q : Value → Shared → Prop} (I : Inv X pins σ H s) (hg : Gl X x) (hm : X.mg x = none) (hv : bootBuiltins x = some u) (h : Q u s)
    (hn : x ≠ "__name__" := by decide) (hd : (x == ("__debug__" : Str)) = false := by decide) : wpAny (model X.prog X.w) X.A (eval (.Name x pos) X.env) Q E s := by
  obtain ⟨mb, h1, h2⟩ := I.mod.blt
  exact Calls.Name_function_global I.ok.kind hg (Calls.loadGlobal_builtin (by rw [I.ok.glob]; exact I.mod.glob.keeps I.bk) hm (by rw [I.ok.blt]; exact h1.keeps I.bk) ((h2 x hn).trans hv) h) hd
/-- a module's constant, a class, a function, as a value -/
theorem pe_glob {x : Str} {v : V} {u : Value} {pos : Pos} (hg : Gl X x) (hm : X.mg x = some u) (r : RelV v u) (hd : (x == ("__debug__" : Str)) = false := by decide) : PE X (.Name x pos) (tC v) :=
  fun _ _ _ H _ I h => ld_glob I hg hm ⟨v, H, I, r, h⟩ hd
/-! ### arithmetic -/
variable {a b : Expr} {ta tb : TE} {pos : Pos}
/-! ### comparisons -/
/-- a comparison as a value, as a test -/
def tB (t : TE) : TT := fun σ H Q => t σ H fun x H1 => ∃ c, x = .bl c ∧ Q c H1
/-- an expression whose value is a bool, as a test -/
theorem pt_val {e : Expr} {t : TE} (h : PE X e t) (he : ∀ whole, isTrue e X.env whole = (do let v ← whole; standAt e.pos; holding [v] (truthy v)) := by intro _; rfl) : PT X e (tB t) := by
  intro pins s σ H Q I hw
  refine isTrue_plain (thn (h pins s σ H _ I hw) fun v s1 ⟨x, H1, I1, r1, q1⟩ => ?_) (he _)
  obtain ⟨d, rfl, q⟩ := q1
  cases r1
  exact wpAny_truthy_bool ⟨H1, I1, q⟩

/-! ### and, or, not -/
variable {tA tB' : TT} {rest : List Expr}
def tAnd (t u : TT) : TT := fun σ H Q => t σ H fun c H1 => if c = true then u σ H1 Q else Q false H1
def tOr (t u : TT) : TT := fun σ H Q => t σ H fun c H1 => if c = true then Q true H1 else u σ H1 Q
def tNot (t : TT) : TT := fun σ H Q => t σ H fun c H1 => Q (!c) H1
theorem pw_and1 (ha : PT X a tA) : PW X (.BoolOp .And [a] pos) tA := by
  intro wh pins s σ H Q I h
  refine isTrue_and (thn (ha pins s σ H Q I h) fun c s1 e => ?_)
  cases c with
  | true => exact isTrue_and_nil e
  | false => exact e
theorem pw_or1 (ha : PT X a tA) : PW X (.BoolOp .Or [a] pos) tA := by
  intro wh pins s σ H Q I h
  refine isTrue_or (thn (ha pins s σ H Q I h) fun c s1 e => ?_)
  cases c with
  | false => exact isTrue_or_nil e
  | true => exact e
theorem pw_and (ha : PT X a tA) (hb : PW X (.BoolOp .And (b :: rest) pos) tB') : PW X (.BoolOp .And (a :: b :: rest) pos) (tAnd tA tB') := by
  intro wh pins s σ H Q I h
  refine isTrue_and (thn (ha pins s σ H _ I h) fun c s1 ⟨H1, I1, q1⟩ => ?_)
  cases c with
  | true => exact hb wh pins s1 σ H1 Q I1 q1
  | false => exact ⟨H1, I1, q1⟩
theorem pw_or (ha : PT X a tA) (hb : PW X (.BoolOp .Or (b :: rest) pos) tB') : PW X (.BoolOp .Or (a :: b :: rest) pos) (tOr tA tB') := by
  intro wh pins s σ H Q I h
  refine isTrue_or (thn (ha pins s σ H _ I h) fun c s1 ⟨H1, I1, q1⟩ => ?_)
  cases c with
  | true => exact ⟨H1, I1, q1⟩
  | false => exact hb wh pins s1 σ H1 Q I1 q1
theorem pt_not (ha : PT X a tA) : PT X (.UnaryOp .Not a pos) (tNot tA) := by
  intro pins s σ H Q I h
  exact isTrue_not (ha pins s σ H (fun c H1 => Q (!c) H1) I h)
/-- .. as values (bools) -/
def tAndV (ta tb : TE) : TE := fun σ H Q => ta σ H fun x H1 => ∃ c, x = .bl c ∧ if c = true then tb σ H1 Q else Q (.bl false) H1
theorem pe_one {op} {t : TE} (h : PE X a t) : PE X (.BoolOp op [a] pos) t := fun pins s σ H Q I hw => BoolOp_one (h pins s σ H Q I hw)
theorem pe_and (ha : PE X a ta) (hb : PE X (.BoolOp .And (b :: rest) pos) tb) : PE X (.BoolOp .And (a :: b :: rest) pos) (tAndV ta tb) := by
  intro pins s σ H Q I h
  refine BoolOp_and (thn (ha pins s σ H _ I h) fun v s1 ⟨x, H1, I1, r1, q1⟩ => ?_)
  obtain ⟨c, rfl, q1⟩ := q1
  cases r1
  refine wpAny_truthy_bool ?_
  cases c with
  | true => exact hb pins s1 σ H1 Q I1 q1
  | false => exact ⟨.bl false, H1, I1, rfl, q1⟩
/-- a if t else b -/
def tIf (t : TT) (ta tb : TE) : TE := fun σ H Q => t σ H fun c H1 => if c = true then ta σ H1 Q else tb σ H1 Q
theorem pe_ifExp {c : Expr} (hc : PT X c tA) (ha : PE X a ta) (hb : PE X b tb) : PE X (.IfExp c a b pos) (tIf tA ta tb) := by
  intro pins s σ H Q I h
  refine wpAny_IfExp (thn (hc pins s σ H _ I h) fun d s1 ⟨H1, I1, q1⟩ => ?_)
  cases d with
  | true => exact ha pins s1 σ H1 Q I1 q1
  | false => exact hb pins s1 σ H1 Q I1 q1
end
end L2

namespace L2
open PySem PySem.Spec PyProof.Rows

/-! ### a list, a tuple that is read: tracked, frozen, or an object of the module -/
def SqL (K : PySem.W.Frag) (H : Hp) (a : Addr) (xs : List V) : Prop :=
  Rd H a (.lst xs) ∨
    ∃ (o : Obj) (its : Array Value) (n : Nat), K.lookup a = some o ∧ o.cls = .type "list" ∧ o.dict = none ∧ o.data = .seq its n ∧ its.size ≤ sizeLine ∧ Vals xs its.toList
def SqT (K : PySem.W.Frag) (H : Hp) (a : Addr) (xs : List V) : Prop :=
  Rd H a (.tup xs) ∨
    ∃ (o : Obj) (its : Array Value) (n : Nat), K.lookup a = some o ∧ o.cls = .type "tuple" ∧ o.data = .seq its n ∧ its.size ≤ sizeLine ∧ Vals xs its.toList
def absV : Value → Option V
  | .none => some .non
  | .bool b => some (.bl b)
  | .int i _ => some (.int i)
  | .str x _ => some (.str x)
  | .bytes b _ => some (.byt b)
  | .float b _ => some (.flt b)
  | .ref a => some (.ref a)
  | .type n => some (.ty n)
  | _ => none
theorem RelV.abs {x : V} {u : Value} (r : RelV x u) : absV u = some x := by
  cases x with
  | non => cases r; rfl
  | bl _ => cases r; rfl
  | int _ => obtain ⟨t, rfl⟩ := r; rfl
  | str _ => obtain ⟨t, rfl⟩ := r; rfl
  | byt _ => obtain ⟨t, rfl⟩ := r; rfl
  | flt _ => obtain ⟨t, rfl⟩ := r; rfl
  | ref _ => cases r; rfl
  | ty _ => cases r; rfl
theorem RelV.inj {x y : V} {u : Value} (r : RelV x u) (q : RelV y u) : x = y := Option.some.inj (r.abs.symm.trans q.abs)
theorem Vals.inj : ∀ {xs ys : List V} {us : List Value}, Vals xs us → Vals ys us → xs = ys
  | _, _, _, .nil, .nil => rfl
  | _, _, _, .cons r t, .cons r' t' => by rw [r.inj r', Vals.inj t t']
section
variable {X : Cx} {pins : List (Addr × Obj)} {σ : St} {H : Hp} {s : Shared} {a : Addr} {xs ys : List V}
theorem SqL.of {K : PySem.W.Frag} (h : H a = some (.lst xs)) : SqL K H a xs := .inl (.inl h)
theorem SqT.of {K : PySem.W.Frag} (h : H a = some (.tup xs)) : SqT K H a xs := .inl (.inl h)
theorem Inv.list (I : Inv X pins σ H s) (h : SqL X.K H a xs) : ∃ its : List Value, Vals xs its ∧ PlainL s.heap a its.toArray ∧ xs.length ≤ sizeLine := by
  rcases h with h | ⟨o, its, n, hk, hc, hd, hs, hz, r⟩
  · obtain ⟨z, its, n, r, e⟩ := h.ok I.hok
    exact ⟨its, r, ⟨_, n, e, rfl, rfl, rfl⟩, z⟩
  · refine ⟨its.toList, r, ⟨o, n, I.kIn a o hk, hc, hd, by simpa using hs⟩, ?_⟩
    have e := r.length
    simp only [Array.length_toList] at e
    omega
theorem Inv.tuple (I : Inv X pins σ H s) (h : SqT X.K H a xs) : ∃ its : List Value, Vals xs its ∧ IsTup s.heap a its.toArray ∧ xs.length ≤ sizeLine := by
  rcases h with h | ⟨o, its, n, hk, hc, hs, hz, r⟩
  · obtain ⟨z, its, r, p⟩ := h.ok I.hok
    exact ⟨its, r, p, z⟩
  · refine ⟨its.toList, r, ⟨o, I.kIn a o hk, hc, n, by simpa using hs⟩, ?_⟩
    have e := r.length
    simp only [Array.length_toList] at e
    omega
theorem Inv.list_inj (I : Inv X pins σ H s) (h : SqL X.K H a xs) (h' : SqL X.K H a ys) : xs = ys := by
  obtain ⟨its, r, ⟨o, n, e, _, _, d⟩, _⟩ := I.list h
  obtain ⟨its', r', ⟨o', n', e', _, _, d'⟩, _⟩ := I.list h'
  rw [e] at e'; cases e'
  rw [d] at d'
  injection d' with d1 _
  have : its = its' := by simpa using congrArg Array.toList d1
  subst this
  exact r.inj r'
theorem Inv.tuple_inj (I : Inv X pins σ H s) (h : SqT X.K H a xs) (h' : SqT X.K H a ys) : xs = ys := by
  obtain ⟨its, r, ⟨o, e, _, n, d⟩, _⟩ := I.tuple h
  obtain ⟨its', r', ⟨o', e', _, n', d'⟩, _⟩ := I.tuple h'
  rw [e] at e'; cases e'
  rw [d] at d'
  injection d' with d1 _
  have : its = its' := by simpa using congrArg Array.toList d1
  subst this
  exact r.inj r'
end

/-! ### another wish about exceptions -/
abbrev Cx.wish (X : Cx) (E : Value → Shared → Prop) : Cx := { X with xe := E }
/-- no exception leaves -/
abbrev Cx.nox (X : Cx) : Cx := X.wish fun _ _ => False
theorem Cx.Ok.wish {X : Cx} (ok : X.Ok) (E : Value → Shared → Prop) : (X.wish E).Ok :=
  ⟨ok.mod, ok.kind, ok.glob, ok.blt, ok.above, ok.inj, ok.has, ok.cab, ok.hd, ok.frames, ok.stk, ok.exf, ok.bs, ok.bsz, ok.noex, ok.exfs, ok.funs, ok.frf⟩
theorem Cx.Ok.unwish {X : Cx} {E : Value → Shared → Prop} (ok : (X.wish E).Ok) : X.Ok :=
  ⟨ok.mod, ok.kind, ok.glob, ok.blt, ok.above, ok.inj, ok.has, ok.cab, ok.hd, ok.frames, ok.stk, ok.exf, ok.bs, ok.bsz, ok.noex, ok.exfs, ok.funs, ok.frf⟩
section
variable {X : Cx} {pins : List (Addr × Obj)} {σ : St} {H : Hp} {s : Shared} {E : Value → Shared → Prop}
theorem Inv.wish (I : Inv X pins σ H s) (E : Value → Shared → Prop) : Inv (X.wish E) pins σ H s := ⟨I.ok.wish E, I.os, I.bare, I.base, I.loc, I.cell, I.free, I.freeC, I.pin, I.hok, I.len⟩
theorem Inv.unwish (I : Inv (X.wish E) pins σ H s) : Inv X pins σ H s := ⟨I.ok.unwish, I.os, I.bare, I.base, I.loc, I.cell, I.free, I.freeC, I.pin, I.hok, I.len⟩
theorem SP.unwish {D : Ends} {f : Flow} {s' : Shared} (h : SP (X.wish E) pins D f s') : SP X pins D f s' := by
  cases f with
  | next => obtain ⟨σ', H', I, q⟩ := h; exact ⟨σ', H', I.unwish, q⟩
  | brk => obtain ⟨σ', H', I, q⟩ := h; exact ⟨σ', H', I.unwish, q⟩
  | cont => obtain ⟨σ', H', I, q⟩ := h; exact ⟨σ', H', I.unwish, q⟩
  | ret u => obtain ⟨v, σ', H', I, r, q⟩ := h; exact ⟨v, σ', H', I.unwish, r, q⟩
theorem PE.nox {e : Expr} {t : TE} (h : PE X.nox e t) : PE X e t := fun pins s σ H Q I hw =>
  wpAny_mono (h pins s σ H Q (I.wish _) hw) (fun _ _ ⟨v, H', I', r, q⟩ => ⟨v, H', I'.unwish, r, q⟩) fun _ _ z => False.elim z
theorem PT.nox {e : Expr} {t : TT} (h : PT X.nox e t) : PT X e t := fun pins s σ H Q I hw =>
  wpAny_mono (h pins s σ H Q (I.wish _) hw) (fun _ _ ⟨H', I', q⟩ => ⟨H', I'.unwish, q⟩) fun _ _ z => False.elim z
theorem PSs.nox {st : List Stmt} {t : TS} (h : PSs X.nox st t) : PSs X st t := fun pins s σ H D I hw =>
  wpAny_mono (h pins s σ H D (I.wish _) hw) (fun _ _ q => q.unwish) fun _ _ z => False.elim z
end

/-! ### blocks and small statements -/
section
variable {X : Cx} {st : Stmt} {rest : List Stmt} {t u : TS} {e : Expr} {te : TE} {pos : Pos}
def tNext : TS := fun D σ H => D.nx σ H
def tSeq (t u : TS) : TS := fun D σ H => t { D with nx := u D } σ H
theorem pss_nil : PSs X [] tNext := fun _ _ σ H _ I h => wpAny_execs_nil ⟨σ, H, I, h⟩
theorem pss_cons (h1 : PS X st t) (h2 : PSs X rest u) : PSs X (st :: rest) (tSeq t u) := by
  intro pins s σ H D I h
  refine wpAny_execs_cons (thn (h1 pins s σ H { D with nx := u D } I h) fun f s1 q => ?_)
  cases f with
  | next =>
    obtain ⟨σ', H', I', q⟩ := q
    exact h2 pins s1 σ' H' D I' q
  | ret v => exact q
  | brk => exact q
  | cont => exact q
theorem pss_one (h1 : PS X st t) : PSs X [st] t := by
  intro pins s σ H D I h
  refine wpAny_execs_cons (thn (h1 pins s σ H D I h) fun f s1 q => ?_)
  cases f with
  | next => exact wpAny_execs_nil q
  | ret v => exact q
  | brk => exact q
  | cont => exact q
/-- in a def's body nothing is shown -/
theorem Inv.quiet {pins : List (Addr × Obj)} {σ : St} {H : Hp} {s : Shared} (I : Inv X pins σ H s) : interactive X.env = false := by simp [interactive, I.ok.kind]
/-- an expression whose value is dropped -/
def tDrop (te : TE) : TS := fun D σ H => te σ H fun _ H1 => D.nx σ H1
theorem ps_expr (he : PE X e te) (hs : swapsWith e none pos.line X.env = pure false := by rfl) : PS X (.Expr e pos) (tDrop te) := by
  intro pins s σ H D I h
  exact wpAny_Expr_any (thn (he pins s σ H _ I h) fun v s1 ⟨x, H1, I1, r1, q1⟩ => ⟨σ, H1, I1, q1⟩) I.quiet hs
def tRet (te : TE) : TS := fun D σ H => te σ H D.rt
theorem ps_ret (he : PE X e te) : PS X (.Return (some e) pos) (tRet te) := by
  intro pins s σ H D I h
  exact wpAny_Return_some (thn (he pins s σ H _ I h) fun v s1 ⟨x, H1, I1, r1, q1⟩ => ⟨x, σ, H1, I1, r1, q1⟩)
def tIfS (c : TT) (t u : TS) : TS := fun D σ H => c σ H fun b H1 => if b = true then t D σ H1 else u D σ H1
theorem ps_if {c : Expr} {a b : List Stmt} {tc : TT} (hc : PT X c tc) (ha : PSs X a t) (hb : PSs X b u) : PS X (.If c a b pos) (tIfS tc t u) := by
  intro pins s σ H D I h
  refine wpAny_If (thn (hc pins s σ H _ I h) fun d s1 ⟨H1, I1, q1⟩ => ?_)
  cases d with
  | true => exact ha pins s1 σ H1 D I1 q1
  | false => exact hb pins s1 σ H1 D I1 q1
end

/-! ### targets -/
abbrev TG := V → St → Hp → (St → Hp → Prop) → Prop
abbrev TGs := List V → St → Hp → (St → Hp → Prop) → Prop
def PG (X : Cx) (target : Expr) (t : TG) : Prop :=
  ∀ (pins : List (Addr × Obj)) (s : Shared) (σ : St) (H : Hp) (v : V) (u : Value) (Q : St → Hp → Prop), Inv X pins σ H s → RelV v u → t v σ H Q →
    wpAny (model X.prog X.w) X.A (assign target X.env u) (fun _ s' => ∃ σ' H', Inv X pins σ' H' s' ∧ Q σ' H') X.xe s
/-- several targets, one after another -/
def PGs (X : Cx) (ts : List Expr) (t : TGs) : Prop :=
  ∀ (pins : List (Addr × Obj)) (s : Shared) (σ : St) (H : Hp) (vs : List V) (us : List Value) (Q : St → Hp → Prop), Inv X pins σ H s → Vals vs us → t vs σ H Q →
    wpAny (model X.prog X.w) X.A (assignInOrder ((assignEach ts X.env).map (·.2)) us) (fun _ s' => ∃ σ' H', Inv X pins σ' H' s' ∧ Q σ' H') X.xe s
/-- o[i] = v, by values -/
abbrev TSet := V → V → V → Hp → (Hp → Prop) → Prop
def PSet (X : Cx) (t : TSet) : Prop :=
  ∀ (pins : List (Addr × Obj)) (s : Shared) (σ : St) (H : Hp) (o i v : V) (ov iv u : Value) (Q : Hp → Prop), Inv X pins σ H s → RelV o ov → RelV i iv → RelV v u → t o i v H Q →
    wpAny (model X.prog X.w) X.A (setItem ov iv u) (fun _ s' => ∃ H', Inv X pins σ H' s' ∧ Q H') X.xe s
section
variable {X : Cx} {pos : Pos}
def gName (i : Nat) : TG := fun v σ H Q => Q (σ.set i (some v)) H
theorem pg_name {i : Nat} {x : Str} (hN : X.N.Nodup) (hi : X.N[i]? = some x) (hx : Loc X.env.scope x) (hf : X.fn x = true ∨ X.env.scope.names.lookup x = some .local := by first | exact .inl rfl | exact .inr rfl | assumption) : PG X (.Name x pos) (gName i) := by
  intro pins s σ H v u Q I r h
  exact wpAny_assign_Name (store_ok I hN hi hx r (fun s' I' => ⟨_, H, I', h⟩) hf)
def gNil : TGs := fun vs σ H Q => vs = [] ∧ Q σ H
def gCons (t : TG) (u : TGs) : TGs := fun vs σ H Q => ∃ v r, vs = v :: r ∧ t v σ H fun σ' H' => u r σ' H' Q
theorem pgs_nil : PGs X [] gNil := by
  intro pins s σ H vs us Q I r h
  obtain ⟨e, h⟩ := h
  subst e
  cases r
  exact assignInOrder_nil ⟨σ, H, I, h⟩
theorem pgs_cons {e : Expr} {es : List Expr} {t : TG} {u : TGs} (h1 : PG X e t) (h2 : PGs X es u)
    (hs : (assignEach (e :: es) X.env).map (·.2) = assign e X.env :: (assignEach es X.env).map (·.2) := by rfl) : PGs X (e :: es) (gCons t u) := by
  intro pins s σ H vs us Q I r h
  obtain ⟨v, vr, e1, h⟩ := h
  subst e1
  cases r with
  | cons r rr =>
    rw [hs]
    refine assignInOrder_cons (thn (h1 pins s σ H _ _ _ I r h) fun _ s1 ⟨σ1, H1, I1, q1⟩ => ?_)
    exact h2 pins s1 σ1 H1 _ _ Q I1 rr q1
/-- (a, b, ..) = a tuple of that length -/
def gTup (K : PySem.W.Frag) (n : Nat) (t : TGs) : TG := fun v σ H Q => ∃ a xs, v = .ref a ∧ SqT K H a xs ∧ xs.length = n ∧ t xs σ H Q
theorem pg_tup {es : List Expr} {k : Nat} {t : TGs} {n : Nat} (hc : X.calm = true) (h : PGs X es t)
    (hn : (assignEach es X.env).length = n := by rfl) (hst : (assignEach es X.env).findIdx? (·.1) = none := by rfl) : PG X (.Tuple es k pos) (gTup X.K n t) := by
  intro pins s σ H v u Q I r hw
  obtain ⟨a, xs, e1, hq, hl, hw⟩ := hw
  subst e1
  cases r
  obtain ⟨its, rv, ht, hz⟩ := I.tuple hq
  refine assign_Tuple_tuple (I.ok.hd hc) ht (by simp [hn, ← hl, rv.length]) hst fun h' hx => ?_
  have I1 : Inv X pins σ H { s with heap := h' } := I.kept (t' := s.toks) fun b o e => hx b o (Nat.ne_of_lt (Heap.lt_size e)) e
  exact h pins _ σ H xs _ Q I1 (by simpa using rv) hw
/-- o[i] = .. -/
def gSub (to ti : TE) (t : TSet) : TG := fun v σ H Q => to σ H fun o H1 => ti σ H1 fun i H2 => t o i v H2 fun H3 => Q σ H3
theorem pg_sub {o i : Expr} {to ti : TE} {t : TSet} (ho : PE X o to) (hi : PE X i ti) (hs : PSet X t)
    (ha : ∀ v, assign (.Subscript o i pos) X.env v = (do
      let ov ← holding [v] (eval o X.env)
      let iv ← holding [v, ov] (eval i X.env)
      standAt pos
      holding [v, ov, iv] (setItem ov iv v)
      release [v, ov, iv] []) := by intro _; rfl) : PG X (.Subscript o i pos) (gSub to ti t) := by
  intro pins s σ H v u Q I r h
  rw [ha]
  refine wpAny_bind (wpAny_holding (thn (ho pins s σ H _ I h) fun ov s1 ⟨x, H1, I1, r1, q1⟩ => ?_))
  refine wpAny_bind (wpAny_holding (thn (hi pins s1 σ H1 _ I1 q1) fun iv s2 ⟨y, H2, I2, r2, q2⟩ => ?_))
  refine wpAny_bind (wpAny_standAt (wpAny_bind (wpAny_holding (thn (hs pins s2 σ H2 x y v ov iv u _ I2 r1 r2 r q2) fun _ s3 ⟨H3, I3, q3⟩ => ?_))))
  exact wpAny_release ⟨σ, H3, I3, q3⟩
/-- target = value -/
def tAsg (te : TE) (g : TG) : TS := fun D σ H => te σ H fun x H1 => g x σ H1 D.nx
theorem ps_asg {tg e : Expr} {te : TE} {g : TG} (he : PE X e te) (hg : PG X tg g) (hs : swapsWithSole [tg] e pos.line X.env = pure false := by rfl) (hw : swappedStores [tg] e X.env = pure none := by rfl)
    (h1 : (assignEach [tg] X.env).map (·.2) = [assign tg X.env] := by rfl) : PS X (.Assign [tg] e pos) (tAsg te g) := by
  intro pins s σ H D I h
  refine wpAny_Assign_stores (thn (he pins s σ H _ I h) fun v s1 ⟨x, H1, I1, r1, q1⟩ => ?_) hs hw
  rw [h1]
  exact thn (hg pins s1 σ H1 x v _ I1 r1 q1) fun _ s2 q => q
/-- name = value -/
theorem ps_set {i : Nat} {x : Str} {e : Expr} {te : TE} {pos' : Pos} (hN : X.N.Nodup) (hi : X.N[i]? = some x) (hx : Loc X.env.scope x) (he : PE X e te) (hs : swapsWith e (some (.Name x pos')) pos.line X.env = pure false := by rfl) (hf : X.fn x = true ∨ X.env.scope.names.lookup x = some .local := by first | exact .inl rfl | exact .inr rfl | assumption) :
    PS X (.Assign [.Name x pos'] e pos) (tAsg te (gName i)) := by
  intro pins s σ H D I h
  refine wpAny_Assign_Name (thn (he pins s σ H _ I h) fun v s1 ⟨y, H1, I1, r1, q1⟩ => ?_) hs
  exact store_ok I1 hN hi hx r1 (fun s2 I2 => ⟨_, H1, I2, q1⟩) hf
end

/-! ### while -/
section
variable {X : Cx} {pos : Pos}
/-- the invariant W with its measure -/
def tWhile (c : TT) (tb : TS) : TS := fun D σ H => ∃ W : Nat → St → Hp → Prop, (∃ m, W m σ H) ∧ ∀ m σ H, W m σ H →
  c σ H fun b H1 => if b = true then ∃ N : St → Hp → Prop, (∀ σ' H', N σ' H' → ∃ m', m' < m ∧ W m' σ' H') ∧ tb { D with nx := N, ct := N, bk := D.nx } σ H1 else D.nx σ H1
theorem ps_while {c : Expr} {body : List Stmt} {tc : TT} {tb : TS} (hp : PassesOwn (model X.prog X.w) X.A X.env X.xe) (hc : PT X c tc) (hb : PSs X body tb) : PS X (.While c body [] pos) (tWhile tc tb) := by
  intro pins s σ H D I h
  obtain ⟨W, ⟨m0, w0⟩, turn⟩ := h
  refine wpAny_While (codeAny_whileLoop (fun n s' => ∃ σ' H', Inv X pins σ' H' s' ∧ W n σ' H') ?_ m0 ⟨σ, H, I, w0⟩)
  rintro n s1 ⟨σ1, H1, I1, w1⟩
  refine wpAny_passesOwn hp (thn (hc pins s1 σ1 H1 _ I1 (turn n σ1 H1 w1)) fun b s2 ⟨H2, I2, q2⟩ => ?_)
  cases b with
  | true =>
    obtain ⟨N, hN, q2⟩ := q2
    rw [if_pos rfl]
    refine wpAny_passesOwn hp (thn (hb pins s2 σ1 H2 _ I2 q2) fun f s3 q3 => ?_)
    cases f with
    | next =>
      obtain ⟨σ3, H3, I3, n3⟩ := q3
      obtain ⟨m', hm, w3⟩ := hN σ3 H3 n3
      exact ⟨m', hm, σ3, H3, I3, w3⟩
    | cont =>
      obtain ⟨σ3, H3, I3, n3⟩ := q3
      obtain ⟨m', hm, w3⟩ := hN σ3 H3 n3
      exact ⟨m', hm, σ3, H3, I3, w3⟩
    | brk => exact q3
    | ret v => exact q3
  | false =>
    rw [if_neg Bool.false_ne_true]
    exact wpAny_execs_nil ⟨σ1, H2, I2, q2⟩
end

/-! ### what a loop or a comprehension walks -/
/-- at turn i: it yields x (the heap may grow), or it stops -/
structure It where
  go : Nat → Hp → Prop
  yld : Nat → Hp → V → Hp → Prop
  stop : Nat → Hp → Prop
/-- the iterator's own objects may turn: they are not the frame's, not pinned, younger than the entry (or a comprehension's own) -/
def FpOk (X : Cx) (pins : List (Addr × Obj)) (H : Hp) (b : Addr) : Prop :=
  H b = none ∧ b ≠ X.env.locals ∧ b ∉ X.fs ∧ (b ∈ X.ex ∨ X.s₀.heap.objs.size ≤ b) ∧ (∀ x c, X.env.cells.lookup x = some c → c ≠ b) ∧ ∀ p ∈ X.pn ++ pins, p.1 ≠ b
theorem Inv.fpOk {X : Cx} {pins : List (Addr × Obj)} {σ : St} {H H' : Hp} {s : Shared} {b : Addr} (I : Inv X pins σ H s) (hb : s.heap.objs.size ≤ b) (hn : H' b = none) : FpOk X pins H' b := by
  refine ⟨hn, Nat.ne_of_gt (Nat.lt_of_lt_of_le I.lt hb), I.nofs hb, .inr (Nat.le_trans I.sz hb), fun x c e z => ?_, fun p hp z => ?_⟩
  · obtain ⟨v, q⟩ := I.cell x c e
    exact absurd (Nat.lt_of_lt_of_le q.lt (by rw [z]; exact hb)) (Nat.lt_irrefl _)
  · exact absurd (Nat.lt_of_lt_of_le (Heap.lt_size (I.pin p hp).1) (by rw [z]; exact hb)) (Nat.lt_irrefl _)
structure Turn (P : Program) (w : World) (K : PySem.W.Frag) (tg : Expr) (J : It) (fp : List Addr) (it : Addr) (tn : Nat → Heap → Prop) : Prop where
  mem : it ∈ fp
  obj : ∀ i h, tn i h → ∀ b ∈ fp, ∃ o, h.get? b = some o ∧ ∀ v, o.data ≠ .cell v
  keep : ∀ i h h', tn i h → (∀ b ∈ fp, ∀ o, h.get? b = some o → h'.get? b = some o) → tn i h'
  item : ∀ (X : Cx), X.prog = P → X.w = w → X.K = K → X.calm = true → ∀ (i : Nat) (pins : List (Addr × Obj)) (s : Shared) (σ : St) (H : Hp) (E : Value → Shared → Prop), Inv X pins σ H s → (∀ b ∈ fp, FpOk X pins H b) → tn i s.heap → J.go i H →
    wpAny (model P w) X.A (pyNext (.ref it)) (fun r s1 => ∃ u, r = some u ∧
      wpAny (model P w) X.A (letOwnedTupleGo tg (.ref it) u) (fun _ s2 => ∃ x H', Inv X pins σ H' s2 ∧ RelV x u ∧ J.yld i H x H' ∧ tn (i + 1) s2.heap ∧ ∀ b ∈ fp, H' b = none) E s1) E s
  done : ∀ (X : Cx), X.prog = P → X.w = w → X.K = K → X.calm = true → ∀ (i : Nat) (pins : List (Addr × Obj)) (s : Shared) (σ : St) (H : Hp) (E : Value → Shared → Prop), Inv X pins σ H s → (∀ b ∈ fp, FpOk X pins H b) → tn i s.heap → J.stop i H →
    wpAny (model P w) X.A (pyNext (.ref it)) (fun r s1 => r = none ∧ Inv X pins σ H s1) E s
  self : ∀ (A : Around) (i : Nat) (s : Shared) (Q : Value → Shared → Prop) (E : Value → Shared → Prop), tn i s.heap → Q (.ref it) s → wpAny (model P w) A (pyIter (.ref it)) Q E s
abbrev TI := St → Hp → (It → Hp → Prop) → Prop
/-- an iterator has come -/
def PIE (X : Cx) (pins : List (Addr × Obj)) (σ : St) (tg : Expr) (R : It → Hp → Prop) (itv : Value) (s2 : Shared) : Prop :=
  ∃ (it : Addr) (fp : List Addr) (tn : Nat → Heap → Prop) (J : It) (H' : Hp), itv = .ref it ∧ Inv X pins σ H' s2 ∧ Turn X.prog X.w X.K tg J fp it tn ∧ tn 0 s2.heap ∧ (∀ b ∈ fp, FpOk X pins H' b) ∧ R J H'
def PI (X : Cx) (tg iter : Expr) (wi : TI) : Prop :=
  ∀ (pins : List (Addr × Obj)) (s : Shared) (σ : St) (H : Hp) (R : It → Hp → Prop), Inv X pins σ H s → wi σ H R →
    wpAny (model X.prog X.w) X.A (eval iter X.env) (fun v s1 => wpAny (model X.prog X.w) X.A (pyIter v) (PIE X pins σ tg R) X.xe s1) X.xe s

/-- the step ahead of the store is nothing for an iterator that keeps no tuple -/
theorem go_of {M : Model} {A : Around} {E : Value → Shared → Prop} {s : Shared} {tg : Expr} {it : Addr} {u : Value} {o : Obj} {n : String} {vs : Array Value} {Q : Unit → Shared → Prop} (ho : s.heap.get? it = some o) (hc : o.cls = .type n) (hd : o.data = .fields vs)
    (hn : ["enumerate", "zip", "dict_itemiterator", "dict_reverseitemiterator", "odict_iterator", "itertools.zip_longest", "itertools.pairwise"].contains n = false) (hQ : Q () s) : wpAny M A (letOwnedTupleGo tg (.ref it) u) Q E s := by
  unfold letOwnedTupleGo
  cases tg <;> first
    | exact wpAny_pure hQ
    | (cases u <;> first
        | exact wpAny_pure hQ
        | (refine wpAny_bind (wpAny_load ho ?_)
           rw [hc, hd]
           show wpAny M A (if (["enumerate", "zip", "dict_itemiterator", "dict_reverseitemiterator", "odict_iterator", "itertools.zip_longest", "itertools.pairwise"].contains n && vs[0]? == some (rawInt _)) = true then _ else _) Q E s
           rw [if_neg (by intro h; rw [hn, Bool.false_and] at h; cases h)]
           exact wpAny_pure hQ))

/-- the list at a, as it stands at each turn (a loop may append to it) -/
def Itl (K : PySem.W.Frag) (a : Addr) : It :=
  ⟨fun i H => ∃ xs x, SqL K H a xs ∧ xs[i]? = some x, fun i H x H' => H' = H ∧ ∀ xs, SqL K H a xs → xs[i]? = some x, fun i H => ∃ xs, SqL K H a xs ∧ xs.length ≤ i⟩
def Itt (K : PySem.W.Frag) (a : Addr) : It :=
  ⟨fun i H => ∃ xs x, SqT K H a xs ∧ xs[i]? = some x, fun i H x H' => H' = H ∧ ∀ xs, SqT K H a xs → xs[i]? = some x, fun i H => ∃ xs, SqT K H a xs ∧ xs.length ≤ i⟩
/-- lo, lo + 1, .. (n of them) -/
def Itr (lo : Int) (n : Nat) : It := ⟨fun i _ => i < n, fun i H x H' => H' = H ∧ x = .int (lo + i), fun i _ => n ≤ i⟩
theorem turn_list {P : Program} {w : World} {K : PySem.W.Frag} {tg : Expr} (a it : Addr) : Turn P w K tg (Itl K a) [it] it (fun i h => h.IsListIter it a i) where
  mem := by simp
  obj := fun i h st b hb => by
    have e : b = it := by simpa using hb
    subst e
    obtain ⟨o, e, c, d⟩ := st
    exact ⟨o, e, fun v z => by rw [d] at z; cases z⟩
  keep := fun i h h' st k => st.at fun o e => k it (by simp) o e
  item := by
    intro X hP hw hK hc i pins s σ H E I hf st hg
    subst hP hw hK
    obtain ⟨xs, x, hq, hx⟩ := hg
    obtain ⟨its, rv, p, hz⟩ := I.list hq
    obtain ⟨u, hu, ru⟩ := rv.get hx
    obtain ⟨f0, f1, f2, f3, f4, f5⟩ := hf it (by simp)
    refine wpAny_pyNext_list_item st p.isList (x := u) (by simpa using hu) fun h' st' sb => ?_
    have I1 : Inv X pins σ H { s with heap := h' } := I.turned (t' := s.toks) (fun b o hb e => (sb.2 b hb).trans e) f0 f1 f3 f4 f5
    obtain ⟨o, e, c, d⟩ := id st'
    exact ⟨u, rfl, go_of (s := { s with heap := h' }) e c d (by decide) ⟨x, H, I1, ru, ⟨rfl, fun ys hy => by rw [I.list_inj hy hq]; exact hx⟩, st', fun b hb => (hf b hb).1⟩⟩
  done := by
    intro X hP hw hK hc i pins s σ H E I hf st hg
    subst hP hw hK
    obtain ⟨xs, hq, hx⟩ := hg
    obtain ⟨its, rv, p, hz⟩ := I.list hq
    obtain ⟨f0, f1, f2, f3, f4, f5⟩ := hf it (by simp)
    have hl := rv.length
    exact wpAny_pyNext_list_end (I.ok.hd hc) st p.isList (by simp; omega) fun h' eb => ⟨rfl, I.turned (t' := s.toks) (fun b o hb e => eb b o hb e) f0 f1 f3 f4 f5⟩
  self := fun _ _ _ _ _ st h => wpAny_pyIter_listiter st h
theorem turn_tuple {P : Program} {w : World} {K : PySem.W.Frag} {tg : Expr} (a it : Addr) : Turn P w K tg (Itt K a) [it] it (fun i h => h.IsTupleIter it a i) where
  mem := by simp
  obj := fun i h st b hb => by
    have e : b = it := by simpa using hb
    subst e
    obtain ⟨o, e, c, d⟩ := st
    exact ⟨o, e, fun v z => by rw [d] at z; cases z⟩
  keep := fun i h h' st k => st.at fun o e => k it (by simp) o e
  item := by
    intro X hP hw hK hc i pins s σ H E I hf st hg
    subst hP hw hK
    obtain ⟨xs, x, hq, hx⟩ := hg
    obtain ⟨its, rv, p, hz⟩ := I.tuple hq
    obtain ⟨u, hu, ru⟩ := rv.get hx
    obtain ⟨f0, f1, f2, f3, f4, f5⟩ := hf it (by simp)
    refine wpAny_pyNext_tuple_item st (show s.heap.IsTuple a its.toArray from p) (x := u) (by simpa using hu) fun h' st' sb => ?_
    have I1 : Inv X pins σ H { s with heap := h' } := I.turned (t' := s.toks) (fun b o hb e => (sb.2 b hb).trans e) f0 f1 f3 f4 f5
    obtain ⟨o, e, c, d⟩ := id st'
    exact ⟨u, rfl, go_of (s := { s with heap := h' }) e c d (by decide) ⟨x, H, I1, ru, ⟨rfl, fun ys hy => by rw [I.tuple_inj hy hq]; exact hx⟩, st', fun b hb => (hf b hb).1⟩⟩
  done := by
    intro X hP hw hK hc i pins s σ H E I hf st hg
    subst hP hw hK
    obtain ⟨xs, hq, hx⟩ := hg
    obtain ⟨its, rv, p, hz⟩ := I.tuple hq
    obtain ⟨f0, f1, f2, f3, f4, f5⟩ := hf it (by simp)
    have hl := rv.length
    exact wpAny_pyNext_tuple_end (I.ok.hd hc) st (show s.heap.IsTuple a its.toArray from p) (by simp; omega) fun h' eb => ⟨rfl, I.turned (t' := s.toks) (fun b o hb e => eb b o hb e) f0 f1 f3 f4 f5⟩
  self := fun _ _ _ _ _ st h => wpAny_pyIter_tupleiter st h
theorem turn_range {P : Program} {w : World} {K : PySem.W.Frag} {tg : Expr} (it : Addr) (lo : Int) (n : Nat) : Turn P w K tg (Itr lo n) [it] it (fun i h => IsRangeIter h it (lo + (i : Nat) * 1) ((n : Int) - (i : Nat)) 1) where
  mem := by simp
  obj := fun i h st b hb => by
    have e : b = it := by simpa using hb
    subst e
    exact ⟨_, st, fun v z => by
      have z' : Data.fields _ = Data.cell v := z
      cases z'⟩
  keep := fun i h h' st k => k it (by simp) _ st
  item := by
    intro X hP hw hK hc i pins s σ H E I hf st hg
    subst hP hw hK
    obtain ⟨f0, f1, f2, f3, f4, f5⟩ := hf it (by simp)
    have W := Walks.range (prog := X.prog) (w := X.w) (I.ok.hd hc) it lo 1 n
    refine W.item i s _ _ hg st fun v h' tk hv st' kk => ?_
    obtain ⟨t, rfl⟩ := hv
    have I1 : Inv X pins σ H { s with heap := h', toks := tk } := I.turned (fun b o hb e => kk b o (by simpa using hb) e) f0 f1 f3 f4 f5
    refine ⟨_, rfl, go_of (s := { s with heap := h', toks := tk }) (n := "range_iterator") st' rfl rfl (by decide) ⟨.int (lo + i), H, I1, ⟨t, ?_⟩, ⟨rfl, rfl⟩, st', fun b hb => (hf b hb).1⟩⟩
    rw [Int.mul_one]
  done := by
    intro X hP hw hK hc i pins s σ H E I hf st hg
    subst hP hw hK
    obtain ⟨f0, f1, f2, f3, f4, f5⟩ := hf it (by simp)
    exact wpAny_pyNext_range_end (I.ok.hd hc) st (by have : n ≤ i := hg; omega) fun h' eb => ⟨rfl, I.turned (t' := s.toks) (fun b o hb e => eb b o hb e) f0 f1 f3 f4 f5⟩
  self := fun _ _ _ _ _ st h => wpAny_pyIter_rangeiter st h
end L2

namespace L2
open PySem PySem.Spec PyProof.Rows
section
variable {X : Cx} {tg : Expr}
def iList (K : PySem.W.Frag) (tl : TE) : TI := fun σ H R => tl σ H fun x H1 => ∃ a, x = .ref a ∧ (∃ xs, SqL K H1 a xs) ∧ R (Itl K a) H1
theorem pi_list {l : Expr} {tl : TE} (hl : PE X l tl) : PI X tg l (iList X.K tl) := by
  intro pins s σ H R I h
  refine thn (hl pins s σ H _ I h) fun v s1 ⟨x, H1, I1, r1, q1⟩ => ?_
  obtain ⟨a, e, ⟨xs, hq⟩, q⟩ := q1
  subst e
  cases r1
  obtain ⟨its, rv, p, hz⟩ := I1.list hq
  refine wpAny_pyIter_list p.isList ?_
  refine ⟨s1.heap.objs.size, [s1.heap.objs.size], _, _, H1, rfl, I1.kept (t' := s1.toks) fun b o e => Heap.get?_push_of_some _ e, turn_list a _, ⟨_, Heap.get?_push_size _ rfl, rfl, rfl⟩, fun b hb => ?_, q⟩
  have e : b = s1.heap.objs.size := by simpa using hb
  subst e
  exact I1.fpOk (Nat.le_refl _) (I1.hok.fresh (Nat.le_refl _))
/-- a range object just made, walked -/
theorem range_it {pins : List (Addr × Obj)} {σ : St} {H : Hp} {s : Shared} {R : It → Hp → Prop} {E : Value → Shared → Prop} {lo hi : Int} {t u v : Tok} {tk : Nat} (I : Inv X pins σ H s) (h1 : -(2 ^ 62) ≤ lo) (h2 : lo < 2 ^ 62) (h3 : -(2 ^ 62) ≤ hi) (h4 : hi < 2 ^ 62)
    (q : R (Itr lo (hi - lo).toNat) H) : wpAny (model X.prog X.w) X.A (pyIter (.ref s.heap.objs.size)) (PIE X pins σ tg R) E { s with heap := s.heap.push { cls := .type "range", data := .fields #[.int lo t, .int hi u, .int 1 v] }, toks := tk } := by
  refine wpAny_pyIter_range (IsRange.new ..) (small_one h1 h2 h3 h4) ?_
  have I1 : Inv X pins σ H { s with heap := s.heap.push { cls := .type "range", data := .fields #[.int lo t, .int hi u, .int 1 v] }, toks := tk } := I.kept fun b o e => Heap.get?_push_of_some _ e
  refine ⟨(s.heap.push { cls := .type "range", data := .fields #[.int lo t, .int hi u, .int 1 v] }).objs.size, [(s.heap.push { cls := .type "range", data := .fields #[.int lo t, .int hi u, .int 1 v] }).objs.size], _, _, H, rfl,
    I1.kept (t' := tk) fun b o e => Heap.get?_push_of_some _ e, turn_range _ lo (hi - lo).toNat, ?_, fun b hb => ?_, q⟩
  · have e1 : lo + ((0 : Nat) : Int) * 1 = lo := by simp
    have e2 : (((hi - lo).toNat : Nat) : Int) - ((0 : Nat) : Int) = Builtin.Range.rangeSize lo hi 1 := by rw [rangeSize_one]; split <;> omega
    show IsRangeIter _ _ (lo + ((0 : Nat) : Int) * 1) ((((hi - lo).toNat : Nat) : Int) - ((0 : Nat) : Int)) 1
    rw [e1, e2]
    exact Heap.get?_push_size _ rfl
  · have e : b = (s.heap.push { cls := .type "range", data := .fields #[.int lo t, .int hi u, .int 1 v] }).objs.size := by simpa using hb
    subst e
    exact I1.fpOk (Nat.le_refl _) (I1.hok.fresh (Nat.le_refl _))
def iRng1 (ta : TA) : TI := fun σ H R => ta σ H fun vs H1 => ∃ j : Int, vs = [.int j] ∧ -(2 ^ 62) ≤ j ∧ j < 2 ^ 62 ∧ R (Itr 0 j.toNat) H1
theorem pi_range1 {a : Expr} {ta : TA} {p pos : Pos} (hg : Gl X "range") (hm : X.mg "range" = none) (ha : PA X [a] ta) (hs : starEach [a] X.env = [(false, eval a X.env)] := by rfl) : PI X tg (.Call (.Name "range" p) [a] [] pos) (iRng1 ta) := by
  intro pins s σ H R I h
  refine Call_ (ld_blt I hg hm boot_range (PyProof.Rows.callWith_type1 (thn (ha pos pins s σ H _ I h) fun us s1 ⟨vs, H1, I1, r1, q1⟩ => ?_) hs rfl))
  obtain ⟨j, e, q1, q2, q⟩ := q1
  subst e
  cases r1 with
  | cons r rr =>
    cases rr
    obtain ⟨t, rfl⟩ := r
    exact call_range_1 (range_it I1 (by omega) (by omega) q1 q2 (by simpa using q))
/-! ### for -/
/-- W: the invariant by the turn and a measure; N: what the body is to reach -/
def tFor (wi : TI) (g : TG) (tb : TS) : TS := fun D σ H => wi σ H fun J H1 => ∃ W : Nat → Nat → St → Hp → Prop, (∃ m, W 0 m σ H1) ∧ ∀ i m σ H, W i m σ H →
  (J.stop i H ∧ D.nx σ H) ∨ (J.go i H ∧ ∃ N : St → Hp → Prop, (∀ σ' H', N σ' H' → ∃ m', m' < m ∧ W (i + 1) m' σ' H') ∧ ∀ x H', J.yld i H x H' → g x σ H' fun σ2 H2 => tb { D with nx := N, ct := N, bk := D.nx } σ2 H2)
/-- the records at fp as they stand -/
def pinsAt (fp : List Addr) (h : Heap) : List (Addr × Obj) := fp.filterMap fun b => (h.get? b).map fun o => (b, o)
theorem mem_pinsAt {fp : List Addr} {h : Heap} {b : Addr} {o : Obj} (hb : b ∈ fp) (e : h.get? b = some o) : (b, o) ∈ pinsAt fp h := List.mem_filterMap.mpr ⟨b, hb, by rw [e]; rfl⟩
theorem of_pinsAt {fp : List Addr} {h : Heap} {p : Addr × Obj} (hp : p ∈ pinsAt fp h) : p.1 ∈ fp ∧ h.get? p.1 = some p.2 := by
  obtain ⟨b, hb, e⟩ := List.mem_filterMap.mp hp
  cases q : h.get? b with
  | none => rw [q] at e; cases e
  | some o =>
    rw [q] at e
    have e' : (b, o) = p := Option.some.inj e
    subst e'
    exact ⟨hb, q⟩
theorem Inv.pinned {pins : List (Addr × Obj)} {σ : St} {H : Hp} {s : Shared} {fp : List Addr} (I : Inv X pins σ H s) (hf : ∀ b ∈ fp, FpOk X pins H b) (ho : ∀ b ∈ fp, ∃ o, s.heap.get? b = some o ∧ ∀ v, o.data ≠ .cell v) : Inv X (pins ++ pinsAt fp s.heap) σ H s :=
  I.pins_of fun p hp => (List.mem_append.mp hp).elim (fun z => I.pin p (List.mem_append_right _ z)) fun z => by
    obtain ⟨hb, e⟩ := of_pinsAt z
    obtain ⟨f0, f1, f2, _⟩ := hf p.1 hb
    obtain ⟨o, e', d⟩ := ho p.1 hb
    rw [e] at e'; cases e'
    exact ⟨e, f0, f1, f2, d⟩
theorem Inv.unpinned {pins pl : List (Addr × Obj)} {σ : St} {H : Hp} {s : Shared} (I : Inv X (pins ++ pl) σ H s) : Inv X pins σ H s := I.pins_of fun p hp => I.pin p (List.mem_append_right _ (List.mem_append_left _ hp))
theorem ps_for {iter : Expr} {body : List Stmt} {wi : TI} {g : TG} {tb : TS} {pos : Pos} (hp : PassesOwn (model X.prog X.w) X.A X.env X.xe) (hc : X.calm = true) (hi : PI X tg iter wi) (hg : PG X tg g) (hb : PSs X body tb)
    (hs : ∀ x, foldedSetIterable iter X.env x = pure x := by intro _; rfl) : PS X (.For tg iter body [] pos) (tFor wi g tb) := by
  intro pins s σ H D I h
  refine wpAny_For (thn (hi pins s σ H _ I h) fun v s1 h1 => thn h1 fun itv s2 h2 => ?_) hs
  obtain ⟨it, fp, tn, J, H2, e, I2, T, st2, f2, W, ⟨m0, w0⟩, turn⟩ := h2
  subst e
  -- what stays true of the iterator's objects through the loop
  have stat : ∀ {H' : Hp}, (∀ b ∈ fp, H' b = none) → ∀ b ∈ fp, FpOk X pins H' b := fun hn b hb => ⟨hn b hb, (f2 b hb).2⟩
  refine codeAny_forLoop_any (fun n s' => ∃ i σ' H', Inv X pins σ' H' s' ∧ tn i s'.heap ∧ (∀ b ∈ fp, H' b = none) ∧ W i n σ' H') ?_ m0 ⟨0, σ, H2, I2, st2, fun b hb => (f2 b hb).1, w0⟩
  rintro n s3 ⟨i, σ3, H3, I3, st3, fr3, w3⟩
  rcases turn i n σ3 H3 w3 with ⟨stop, qn⟩ | ⟨go, N, hN, step⟩
  · refine wpAny_passesOwn hp (thn (T.done X rfl rfl rfl hc i pins s3 σ3 H3 X.xe I3 (stat fr3) st3 stop) fun r s4 ⟨hr, I4⟩ => ?_)
    subst hr
    exact wpAny_execs_nil ⟨σ3, H3, I4, qn⟩
  · refine wpAny_passesOwn hp (thn (T.item X rfl rfl rfl hc i pins s3 σ3 H3 X.xe I3 (stat fr3) st3 go) fun r s4 ⟨u, hr, h4⟩ => ?_)
    subst hr
    refine wpAny_passesOwn hp (thn h4 fun _ s5 ⟨x, H5, I5, r5, y5, st5, fr5⟩ => ?_)
    have I5' := I5.pinned (stat fr5) (T.obj _ _ st5)
    refine wpAny_passesOwn hp (thn (hg _ s5 σ3 H5 x u _ I5' r5 (step x H5 y5)) fun _ s6 ⟨σ6, H6, I6, q6⟩ => ?_)
    refine wpAny_passesOwn hp (thn (hb _ s6 σ6 H6 _ I6 q6) fun f s7 q7 => ?_)
    have again : ∀ {σ7 : St} {H7 : Hp}, Inv X (pins ++ pinsAt fp s5.heap) σ7 H7 s7 → N σ7 H7 → ∃ m, m < n ∧ ∃ i σ' H', Inv X pins σ' H' s7 ∧ tn i s7.heap ∧ (∀ b ∈ fp, H' b = none) ∧ W i m σ' H' := fun {σ7 H7} I7 n7 => by
      obtain ⟨m', hm, w7⟩ := hN σ7 H7 n7
      refine ⟨m', hm, i + 1, σ7, H7, I7.unpinned, T.keep _ _ _ st5 fun b hb o e => (I7.pin (b, o) (List.mem_append_right _ (List.mem_append_right _ (mem_pinsAt hb e)))).1, fun b hb => ?_, w7⟩
      obtain ⟨o, e, d⟩ := T.obj _ _ st5 b hb
      exact (I7.pin (b, o) (List.mem_append_right _ (List.mem_append_right _ (mem_pinsAt hb e)))).2.1
    cases f with
    | next => obtain ⟨σ7, H7, I7, n7⟩ := q7; exact again I7 n7
    | cont => obtain ⟨σ7, H7, I7, n7⟩ := q7; exact again I7 n7
    | brk => obtain ⟨σ7, H7, I7, q7⟩ := q7; exact ⟨σ7, H7, I7.unpinned, q7⟩
    | ret v => obtain ⟨x7, σ7, H7, I7, r7, q7⟩ := q7; exact ⟨x7, σ7, H7, I7.unpinned, r7, q7⟩
end

/-! ### the forms one uses -/
/-- over a list that the body leaves as it is -/
theorem for_list {K : PySem.W.Frag} {a : Addr} {xs : List V} {g : TG} {tb : TS} {D : Ends} {σ : St} {H : Hp} (Pv : Nat → St → Hp → Prop) (h0 : Pv 0 σ H) (hl : ∀ i σ H, i ≤ xs.length → Pv i σ H → SqL K H a xs)
    (hs : ∀ i x σ H, xs[i]? = some x → Pv i σ H → g x σ H fun σ2 H2 => tb { D with nx := Pv (i + 1), ct := Pv (i + 1), bk := D.nx } σ2 H2) (hd : ∀ σ H, Pv xs.length σ H → D.nx σ H) :
    ∃ W : Nat → Nat → St → Hp → Prop, (∃ m, W 0 m σ H) ∧ ∀ i m σ H, W i m σ H →
      ((Itl K a).stop i H ∧ D.nx σ H) ∨ ((Itl K a).go i H ∧ ∃ N : St → Hp → Prop, (∀ σ' H', N σ' H' → ∃ m', m' < m ∧ W (i + 1) m' σ' H') ∧ ∀ x H', (Itl K a).yld i H x H' → g x σ H' fun σ2 H2 => tb { D with nx := N, ct := N, bk := D.nx } σ2 H2) := by
  refine ⟨fun i m σ H => m = xs.length - i ∧ i ≤ xs.length ∧ Pv i σ H, ⟨xs.length, by simp, Nat.zero_le _, h0⟩, ?_⟩
  rintro i m σ H ⟨rfl, hi, p⟩
  have q := hl i σ H hi p
  by_cases hlt : i < xs.length
  · refine .inr ⟨⟨xs, xs[i], q, by simp [hlt]⟩, Pv (i + 1), fun σ' H' p' => ⟨xs.length - (i + 1), by omega, rfl, hlt, p'⟩, fun x H' y => ?_⟩
    obtain ⟨e, y⟩ := y
    subst e
    exact hs i x σ _ (y xs q) p
  · have e : i = xs.length := by omega
    subst e
    exact .inl ⟨⟨xs, q, Nat.le_refl _⟩, hd σ H p⟩
theorem for_range {lo : Int} {n : Nat} {g : TG} {tb : TS} {D : Ends} {σ : St} {H : Hp} (Pv : Nat → St → Hp → Prop) (h0 : Pv 0 σ H)
    (hs : ∀ i σ H, i < n → Pv i σ H → g (.int (lo + i)) σ H fun σ2 H2 => tb { D with nx := Pv (i + 1), ct := Pv (i + 1), bk := D.nx } σ2 H2) (hd : ∀ σ H, Pv n σ H → D.nx σ H) :
    ∃ W : Nat → Nat → St → Hp → Prop, (∃ m, W 0 m σ H) ∧ ∀ i m σ H, W i m σ H →
      ((Itr lo n).stop i H ∧ D.nx σ H) ∨ ((Itr lo n).go i H ∧ ∃ N : St → Hp → Prop, (∀ σ' H', N σ' H' → ∃ m', m' < m ∧ W (i + 1) m' σ' H') ∧ ∀ x H', (Itr lo n).yld i H x H' → g x σ H' fun σ2 H2 => tb { D with nx := N, ct := N, bk := D.nx } σ2 H2) := by
  refine ⟨fun i m σ H => m = n - i ∧ i ≤ n ∧ Pv i σ H, ⟨n, by simp, Nat.zero_le _, h0⟩, ?_⟩
  rintro i m σ H ⟨rfl, hi, p⟩
  by_cases hlt : i < n
  · refine .inr ⟨hlt, Pv (i + 1), fun σ' H' p' => ⟨n - (i + 1), by omega, rfl, hlt, p'⟩, fun x H' y => ?_⟩
    obtain ⟨e, y⟩ := y
    subst e y
    exact hs i σ _ hlt p
  · have e : i = n := by omega
    subst e
    exact .inl ⟨Nat.le_refl _, hd σ H p⟩
end L2

namespace L2
open PySem PySem.Spec PyProof.Rows

abbrev R2 := V → V → Hp → VK → Prop
/-- a two-place operation on values: f is binaryOp op, inplaceOp op or compareOp op -/
def OpR (X : Cx) (f : Value → Value → Sem Value) (r : R2) : Prop :=
  ∀ (pins : List (Addr × Obj)) (s : Shared) (σ : St) (H : Hp) (x y : V) (v u : Value) (Q : VK), Inv X pins σ H s → RelV x v → RelV y u → r x y H Q →
    wpAny (model X.prog X.w) X.A (f v u) (EP X pins σ Q) X.xe s
/-- a one-place operation -/
def UnR (X : Cx) (f : Value → Sem Value) (r : V → Hp → VK → Prop) : Prop :=
  ∀ (pins : List (Addr × Obj)) (s : Shared) (σ : St) (H : Hp) (x : V) (v : Value) (Q : VK), Inv X pins σ H s → RelV x v → r x H Q →
    wpAny (model X.prog X.w) X.A (f v) (EP X pins σ Q) X.xe s
/-- a call of a value that is known (a builtin, a type) with values -/
def CallR (X : Cx) (f : Value) (r : List V → Hp → VK → Prop) : Prop :=
  ∀ (pins : List (Addr × Obj)) (s : Shared) (σ : St) (H : Hp) (xs : List V) (us : List Value) (Q : VK), Inv X pins σ H s → Vals xs us → r xs H Q →
    wpAny (model X.prog X.w) X.A (call f us) (EP X pins σ Q) X.xe s
/-- a value's truth -/
def TruR (X : Cx) (r : V → Hp → (Bool → Hp → Prop) → Prop) : Prop :=
  ∀ (pins : List (Addr × Obj)) (s : Shared) (σ : St) (H : Hp) (x : V) (v : Value) (Q : Bool → Hp → Prop), Inv X pins σ H s → RelV x v → r x H Q →
    wpAny (model X.prog X.w) X.A (truthy v) (TP X pins σ Q) X.xe s

def tOp (r : R2) (ta tb : TE) : TE := fun σ H Q => ta σ H fun x H1 => tb σ H1 fun y H2 => r x y H2 Q
def tUn (r : V → Hp → VK → Prop) (ta : TE) : TE := fun σ H Q => ta σ H fun x H1 => r x H1 Q
/-- ints in, under C, and a value out -/
def rI (C : Int → Int → Prop) (g : Int → Int → V) : R2 := fun x y H Q => ∃ i j, x = .int i ∧ y = .int j ∧ C i j ∧ Q (g i j) H
def rI0 (g : Int → Int → V) : R2 := fun x y H Q => ∃ i j, x = .int i ∧ y = .int j ∧ Q (g i j) H
def rU (g : Int → V) : V → Hp → VK → Prop := fun x H Q => ∃ i, x = .int i ∧ Q (g i) H

section
variable {X : Cx} {a b c : Expr} {ta tb tc : TE} {pos : Pos}

theorem binT (ha : PE X a ta) (hb : PE X b tb) {pins : List (Addr × Obj)} {s : Shared} {σ : St} {H : Hp} {R : V → V → Hp → Prop} (I : Inv X pins σ H s)
    (h : ta σ H fun x H1 => tb σ H1 fun y H2 => R x y H2) {Q : Value → Shared → Prop} {f : Value → Value → Sem Value}
    (hf : ∀ v u s2 x y H2, Inv X pins σ H2 s2 → RelV x v → RelV y u → R x y H2 → wpAny (model X.prog X.w) X.A (f v u) Q X.xe s2) :
    wpAny (model X.prog X.w) X.A (eval a X.env) (fun v s₁ => wpAny (model X.prog X.w) X.A (eval b X.env) (fun u s₂ => wpAny (model X.prog X.w) X.A (f v u) Q X.xe s₂) X.xe s₁) X.xe s := by
  refine thn (ha pins s σ H _ I h) fun v s1 ⟨x, H1, I1, r1, q1⟩ => ?_
  refine thn (hb pins s1 σ H1 _ I1 q1) fun u s2 ⟨y, H2, I2, r2, q2⟩ => ?_
  exact hf v u s2 x y H2 I2 r1 r2 q2

theorem pe_op {op : Operator} {r : R2} (ho : OpR X (binaryOp op) r) (ha : PE X a ta) (hb : PE X b tb) : PE X (.BinOp a op b pos) (tOp r ta tb) := by
  intro pins s σ H Q I h
  exact wpAny_BinOp (binT ha hb I h fun v u s2 x y H2 I2 rx ry q => ho pins s2 σ H2 x y v u Q I2 rx ry q)
theorem pe_un {op : UnaryOp} {r : V → Hp → VK → Prop} (ho : UnR X (unaryOp op) r) (ha : PE X a ta) : PE X (.UnaryOp op a pos) (tUn r ta) := by
  intro pins s σ H Q I h
  exact UnaryOp_ (thn (ha pins s σ H _ I h) fun v s1 ⟨x, H1, I1, r1, q1⟩ => ho pins s1 σ H1 x v Q I1 r1 q1)
/-! ### ints -/
theorem opI {f : Value → Value → Sem Value} {C : Int → Int → Prop} {g : Int → Int → Int}
    (rule : ∀ (i j : Int) (t u : Tok) (s : Shared) (Q : Value → Shared → Prop) (E : Value → Shared → Prop), C i j → Q (.int (g i j) s.toks) { s with toks := s.toks + 1 } → wpAny (model X.prog X.w) X.A (f (.int i t) (.int j u)) Q E s) :
    OpR X f (rI C fun i j => .int (g i j)) := by
  intro pins s σ H x y v u Q I rx ry h
  obtain ⟨i, j, rfl, rfl, hc, q⟩ := h
  obtain ⟨t, rfl⟩ := rx
  obtain ⟨t', rfl⟩ := ry
  exact rule i j t t' s _ _ hc ⟨.int (g i j), H, I.tok _, ⟨_, rfl⟩, q⟩
theorem opI0 {f : Value → Value → Sem Value} {g : Int → Int → Int}
    (rule : ∀ (i j : Int) (t u : Tok) (s : Shared) (Q : Value → Shared → Prop) (E : Value → Shared → Prop), Q (.int (g i j) s.toks) { s with toks := s.toks + 1 } → wpAny (model X.prog X.w) X.A (f (.int i t) (.int j u)) Q E s) :
    OpR X f (rI0 fun i j => .int (g i j)) := by
  intro pins s σ H x y v u Q I rx ry h
  obtain ⟨i, j, rfl, rfl, q⟩ := h
  obtain ⟨t, rfl⟩ := rx
  obtain ⟨t', rfl⟩ := ry
  exact rule i j t t' s _ _ ⟨.int (g i j), H, I.tok _, ⟨_, rfl⟩, q⟩
theorem opB0 {f : Value → Value → Sem Value} {g : Int → Int → Bool}
    (rule : ∀ (i j : Int) (t u : Tok) (s : Shared) (Q : Value → Shared → Prop) (E : Value → Shared → Prop), Q (.bool (g i j)) s → wpAny (model X.prog X.w) X.A (f (.int i t) (.int j u)) Q E s) :
    OpR X f (rI0 fun i j => .bl (g i j)) := by
  intro pins s σ H x y v u Q I rx ry h
  obtain ⟨i, j, rfl, rfl, q⟩ := h
  obtain ⟨t, rfl⟩ := rx
  obtain ⟨t', rfl⟩ := ry
  exact rule i j t t' s _ _ ⟨.bl (g i j), H, I, rfl, q⟩

def CDiv (i j : Int) : Prop := 0 < j ∧ j < 1073741824
def CPow (i j : Int) : Prop := 0 ≤ j ∧ j ≤ 1000000 ∧ i.natAbs < 2 ^ 64
def CMul (i j : Int) : Prop := (-(2 ^ 64) < i ∧ i < 2 ^ 64) ∨ (-(2 ^ 64) < j ∧ j < 2 ^ 64)
theorem CMul.ok {i j : Int} (h : CMul i j) : IntMulOk i j := by
  rcases h with ⟨h1, h2⟩ | ⟨h1, h2⟩
  · exact .of_left (intBits_le_64 h1 h2)
  · exact .of_right (intBits_le_64 h1 h2)
theorem op_add : OpR X (binaryOp .Add) (rI0 fun i j => .int (i + j)) := opI0 fun _ _ _ _ _ _ _ q => add_int q
theorem op_sub : OpR X (binaryOp .Sub) (rI0 fun i j => .int (i - j)) := opI0 fun _ _ _ _ _ _ _ q => sub_int q
theorem op_mul : OpR X (binaryOp .Mult) (rI CMul fun i j => .int (i * j)) := opI fun _ _ _ _ _ _ _ hc q => mul_int q hc.ok
/-- // by a positive divisor -/
theorem op_fdiv : OpR X (binaryOp .FloorDiv) (rI CDiv fun i j => .int (i / j)) := opI fun i j _ _ _ _ _ hc q => by
  have h1 : (0 : Int) < j := hc.1
  have h2 : j < 1073741824 := hc.2
  exact floordiv_int (by omega) (by rw [Int.fdiv_eq_ediv_of_nonneg i (by omega)]; exact q) (.inl (PyProof.noPylong_small (by omega)))
/-- % by a positive divisor of any size -/
theorem op_mod : OpR X (binaryOp .Mod) (rI (fun _ j => 0 < j) fun i j => .int (i % j)) := opI fun i j _ _ _ _ _ hc q => by
  have h1 : (0 : Int) < j := hc
  exact mod_int' (by omega) (by rw [Int.fmod_eq_emod_of_nonneg i (by omega)]; exact q)
theorem op_pow : OpR X (binaryOp .Pow) (rI CPow fun i j => .int (i ^ j.toNat)) := opI fun _ _ _ _ _ _ _ hc q => pow_int_small hc.1 hc.2.1 hc.2.2 q
theorem unI {f : Value → Sem Value} {g : Int → Int}
    (rule : ∀ (i : Int) (t : Tok) (s : Shared) (Q : Value → Shared → Prop) (E : Value → Shared → Prop), Q (.int (g i) s.toks) { s with toks := s.toks + 1 } → wpAny (model X.prog X.w) X.A (f (.int i t)) Q E s) :
    UnR X f (rU fun i => .int (g i)) := by
  intro pins s σ H x v Q I rx h
  obtain ⟨i, rfl, q⟩ := h
  obtain ⟨t, rfl⟩ := rx
  exact rule i t s _ _ ⟨.int (g i), H, I.tok _, ⟨_, rfl⟩, q⟩
theorem un_neg : UnR X (unaryOp .USub) (rU fun i => .int (-i)) := unI fun _ _ _ _ _ q => neg_int q
/-! ### bools among ints: n += (a < b) -/
end

/-! ### comparisons -/
/-- the scalars that == tells apart as data does -/
def scal : V → V → Bool
  | .non, .non => true | .non, .int _ => true | .int _, .non => true | .non, .bl _ => true | .bl _, .non => true | .non, .str _ => true | .str _, .non => true
  | .int _, .int _ => true | .bl _, .bl _ => true | .str _, .str _ => true | .byt _, .byt _ => true
  | .int _, .str _ => true | .str _, .int _ => true | .bl _, .str _ => true | .str _, .bl _ => true
  | _, _ => false
def rEq : R2 := fun x y H Q => scal x y = true ∧ Q (.bl (decide (x = y))) H
def rNe : R2 := fun x y H Q => scal x y = true ∧ Q (.bl (!decide (x = y))) H

theorem dec_int {i j : Int} : decide (V.int i = V.int j) = (i == j) := by
  rw [Bool.eq_iff_iff]
  simp
theorem dec_bl {i j : Bool} : decide (V.bl i = V.bl j) = (i == j) := by
  rw [Bool.eq_iff_iff]
  simp
theorem dec_str {i j : Str} : decide (V.str i = V.str j) = (i == j) := by
  rw [Bool.eq_iff_iff]
  simp
theorem dec_byt {i j : Array UInt8} : decide (V.byt i = V.byt j) = (i.toList == j.toList) := by
  rw [Bool.eq_iff_iff]
  cases i
  cases j
  simp

section
variable {X : Cx} {a b c : Expr} {ta tb tc : TE} {pos : Pos}
theorem fin_bl {pins : List (Addr × Obj)} {σ : St} {H : Hp} {s : Shared} {Q : VK} {k k' : Bool} (I : Inv X pins σ H s) (q : Q (.bl k) H) (e : k = k') : EP X pins σ Q (.bool k') s := by
  subst e
  exact ⟨.bl k, H, I, rfl, q⟩
theorem op_eq : OpR X (compareOp .Eq) rEq := by
  intro pins s σ H x y v u Q I rx ry h
  obtain ⟨hs, q⟩ := h
  cases x with
  | non =>
    cases rx
    cases y with
    | non => cases ry; exact PySem.EqNone.eq_none_none (fin_bl I q (by simp))
    | bl j => cases ry; exact PySem.EqNone.eq_none_bool (fin_bl I q (by simp))
    | int j => obtain ⟨t', rfl⟩ := ry; exact PySem.EqNone.eq_none_int (fin_bl I q (by simp))
    | str j => obtain ⟨t', rfl⟩ := ry; exact PySem.EqNone.eq_none_str (fin_bl I q (by simp))
    | _ => exact absurd (show false = true from hs) Bool.false_ne_true
  | bl i =>
    cases rx
    cases y with
    | non => cases ry; exact PySem.EqNone.eq_bool_none (fin_bl I q (by simp))
    | bl j => cases ry; exact eq_bool (fin_bl I q dec_bl)
    | str j => obtain ⟨t', rfl⟩ := ry; exact PySem.EqMixed.eq_bool_str (fin_bl I q (by simp))
    | _ => exact absurd (show false = true from hs) Bool.false_ne_true
  | int i =>
    obtain ⟨t, rfl⟩ := rx
    cases y with
    | non => cases ry; exact PySem.EqNone.eq_int_none (fin_bl I q (by simp))
    | int j => obtain ⟨t', rfl⟩ := ry; exact eq_int (fin_bl I q dec_int)
    | str j => obtain ⟨t', rfl⟩ := ry; exact PySem.EqMixed.eq_int_str (fin_bl I q (by simp))
    | _ => exact absurd (show false = true from hs) Bool.false_ne_true
  | str i =>
    obtain ⟨t, rfl⟩ := rx
    cases y with
    | non => cases ry; exact PySem.EqNone.eq_str_none (fin_bl I q (by simp))
    | bl j => cases ry; exact PySem.EqMixed.eq_str_bool (fin_bl I q (by simp))
    | int j => obtain ⟨t', rfl⟩ := ry; exact PySem.EqMixed.eq_str_int (fin_bl I q (by simp))
    | str j => obtain ⟨t', rfl⟩ := ry; exact eq_str (fin_bl I q dec_str)
    | _ => exact absurd (show false = true from hs) Bool.false_ne_true
  | byt i =>
    obtain ⟨t, rfl⟩ := rx
    cases y with
    | byt j => obtain ⟨t', rfl⟩ := ry; exact PySem.W.eq_bytes (fin_bl I q dec_byt)
    | _ => exact absurd (show false = true from hs) Bool.false_ne_true
  | _ => cases y <;> exact absurd (show false = true from hs) Bool.false_ne_true
theorem op_ne : OpR X (compareOp .NotEq) rNe := by
  intro pins s σ H x y v u Q I rx ry h
  obtain ⟨hs, q⟩ := h
  cases x with
  | non =>
    cases rx
    cases y with
    | non => cases ry; exact PySem.EqNone.ne_none_none (fin_bl I q (by simp))
    | bl j => cases ry; exact PySem.EqNone.ne_none_bool (fin_bl I q (by simp))
    | int j => obtain ⟨t', rfl⟩ := ry; exact PySem.EqNone.ne_none_int (fin_bl I q (by simp))
    | str j => obtain ⟨t', rfl⟩ := ry; exact PySem.EqNone.ne_none_str (fin_bl I q (by simp))
    | _ => exact absurd (show false = true from hs) Bool.false_ne_true
  | bl i =>
    cases rx
    cases y with
    | non => cases ry; exact PySem.EqNone.ne_bool_none (fin_bl I q (by simp))
    | bl j => cases ry; exact ne_bool (fin_bl I q (congrArg not dec_bl))
    | str j => obtain ⟨t', rfl⟩ := ry; exact PySem.EqMixed.ne_bool_str (fin_bl I q (by simp))
    | _ => exact absurd (show false = true from hs) Bool.false_ne_true
  | int i =>
    obtain ⟨t, rfl⟩ := rx
    cases y with
    | non => cases ry; exact PySem.EqNone.ne_int_none (fin_bl I q (by simp))
    | int j => obtain ⟨t', rfl⟩ := ry; exact ne_int (fin_bl I q (congrArg not dec_int))
    | str j => obtain ⟨t', rfl⟩ := ry; exact PySem.EqMixed.ne_int_str (fin_bl I q (by simp))
    | _ => exact absurd (show false = true from hs) Bool.false_ne_true
  | str i =>
    obtain ⟨t, rfl⟩ := rx
    cases y with
    | non => cases ry; exact PySem.EqNone.ne_str_none (fin_bl I q (by simp))
    | bl j => cases ry; exact PySem.EqMixed.ne_str_bool (fin_bl I q (by simp))
    | int j => obtain ⟨t', rfl⟩ := ry; exact PySem.EqMixed.ne_str_int (fin_bl I q (by simp))
    | str j => obtain ⟨t', rfl⟩ := ry; exact ne_str (fin_bl I q (congrArg not dec_str))
    | _ => exact absurd (show false = true from hs) Bool.false_ne_true
  | byt i =>
    obtain ⟨t, rfl⟩ := rx
    cases y with
    | byt j => obtain ⟨t', rfl⟩ := ry; exact PySem.W.ne_bytes (fin_bl I q (congrArg not dec_byt))
    | _ => exact absurd (show false = true from hs) Bool.false_ne_true
  | _ => cases y <;> exact absurd (show false = true from hs) Bool.false_ne_true

theorem op_lt : OpR X (compareOp .Lt) (rI0 fun i j => .bl (decide (i < j))) := opB0 fun _ _ _ _ _ _ _ q => lt_int q
theorem op_le : OpR X (compareOp .LtE) (rI0 fun i j => .bl (decide (i ≤ j))) := opB0 fun _ _ _ _ _ _ _ q => le_int q
theorem op_gt : OpR X (compareOp .Gt) (rI0 fun i j => .bl (decide (j < i))) := opB0 fun _ _ _ _ _ _ _ q => gt_int q
theorem op_ge : OpR X (compareOp .GtE) (rI0 fun i j => .bl (decide (j ≤ i))) := opB0 fun _ _ _ _ _ _ _ q => ge_int q
/-- is None, is not None: the right side a value none -/
theorem op_isN : OpR X (compareOp .Is) (fun x y H Q => y = .non ∧ Q (.bl (decide (x = .non))) H) := by
  intro pins s σ H x y v u Q I rx ry h
  obtain ⟨rfl, q⟩ := h
  cases ry
  refine is_none_gen (fin_bl I q ?_)
  cases x <;> first
    | (cases rx; rfl)
    | (obtain ⟨t, rfl⟩ := rx; rfl)
theorem op_notN : OpR X (compareOp .IsNot) (fun x y H Q => y = .non ∧ Q (.bl (!decide (x = .non))) H) := by
  intro pins s σ H x y v u Q I rx ry h
  obtain ⟨rfl, q⟩ := h
  cases ry
  refine isnot_none_gen (fin_bl I q ?_)
  cases x <;> first
    | (cases rx; rfl)
    | (obtain ⟨t, rfl⟩ := rx; rfl)

/-- two rules for one operation: by cases -/
theorem OpR.or {f : Value → Value → Sem Value} {r r' : R2} (h : OpR X f r) (h' : OpR X f r') : OpR X f (fun x y H Q => r x y H Q ∨ r' x y H Q) := by
  intro pins s σ H x y v u Q I rx ry q
  rcases q with q | q
  · exact h pins s σ H x y v u Q I rx ry q
  · exact h' pins s σ H x y v u Q I rx ry q

theorem nomark (b : Expr) {op : CmpOp} (h : op ≠ .In := by decide) (h2 : op ≠ .NotIn := by decide) : behindInMarks op b = false := by
  have e1 : (op == CmpOp.In) = false := by cases op <;> first | rfl | exact absurd rfl h
  have e2 : (op == CmpOp.NotIn) = false := by cases op <;> first | rfl | exact absurd rfl h2
  cases b <;> simp [behindInMarks, e1, e2]
/-- a comparison as a value; hm: nomark b, or (for in, not in) by with_unfolding_all rfl -/
theorem pe_cmpR {op : CmpOp} {r : R2} (ho : OpR X (compareOp op) r) (ha : PE X a ta) (hb : PE X b tb) (hm : behindInMarks op b = false) : PE X (.Compare a [op] [b] pos) (tOp r ta tb) := by
  intro pins s σ H Q I h
  exact wpAny_Compare1 (binT ha hb I h fun v u s2 x y H2 I2 rx ry q => ho pins s2 σ H2 x y v u Q I2 rx ry q) hm
/-- a reading of a value as a test -/
def tTest (t : TE) : TT := fun σ H Q => t σ H fun x H' => ∃ k, x = .bl k ∧ Q k H'
theorem pt_cmpR {op : CmpOp} {r : R2} (ho : OpR X (compareOp op) r) (ha : PE X a ta) (hb : PE X b tb) (hm : behindInMarks op b = false) : PT X (.Compare a [op] [b] pos) (tTest (tOp r ta tb)) := by
  intro pins s σ H Q I h
  refine wpAny_isTrue_Compare1 (thn (ha pins s σ H _ I h) fun v s1 ⟨x, H1, I1, r1, q1⟩ => thn (hb pins s1 σ H1 _ I1 q1) fun u s2 ⟨y, H2, I2, r2, q2⟩ =>
    thn (ho pins s2 σ H2 x y v u _ I2 r1 r2 q2) fun c s3 ⟨z, H3, I3, r3, k, e, q3⟩ => ?_) hm
  subst e
  cases r3
  exact wpAny_truthy_bool ⟨H3, I3, q3⟩
/-- a op1 b op2 c -/
def tChain (r r' : R2) (ta tb tc : TE) : TE := fun σ H Q => ta σ H fun x H1 => tb σ H1 fun y H2 => r x y H2 fun z H3 => ∃ k, z = .bl k ∧
  (if k = true then tc σ H3 fun w' H4 => r' y w' H4 Q else Q (.bl false) H3)
theorem pe_chain {op op' : CmpOp} {r r' : R2} (ho : OpR X (compareOp op) r) (ho' : OpR X (compareOp op') r') (ha : PE X a ta) (hb : PE X b tb) (hc : PE X c tc)
    (hm : lastMarks [op, op'] [b, c] = false := by with_unfolding_all rfl) : PE X (.Compare a [op, op'] [b, c] pos) (tChain r r' ta tb tc) := by
  intro pins s σ H Q I h
  refine Compare_chain (thn (ha pins s σ H _ I h) fun v s1 ⟨x, H1, I1, r1, q1⟩ => chain_link (thn (hb pins s1 σ H1 _ I1 q1) fun u s2 ⟨y, H2, I2, r2, q2⟩ =>
    thn (ho pins s2 σ H2 x y v u _ I2 r1 r2 q2) fun d s3 ⟨z, H3, I3, r3, k, e, q3⟩ => ?_)) hm
  subst e
  cases r3
  refine wpAny_truthy_bool ?_
  cases k with
  | false => exact ite_ff ⟨.bl false, H3, I3, rfl, q3⟩
  | true => exact ite_tt (chain_last (thn (hc pins s3 σ H3 _ I3 q3) fun w' s4 ⟨z', H4, I4, r4, q4⟩ => ho' pins s4 σ H4 y z' u w' Q I4 r2 r4 q4))
theorem pt_chain {op op' : CmpOp} {r r' : R2} (ho : OpR X (compareOp op) r) (ho' : OpR X (compareOp op') r') (ha : PE X a ta) (hb : PE X b tb) (hc : PE X c tc)
    (hm : lastMarks [op, op'] [b, c] = false := by with_unfolding_all rfl) : PT X (.Compare a [op, op'] [b, c] pos) (tTest (tChain r r' ta tb tc)) := by
  intro pins s σ H Q I h
  refine isTrue_chain (thn (ha pins s σ H _ I h) fun v s1 ⟨x, H1, I1, r1, q1⟩ => test_link (thn (hb pins s1 σ H1 _ I1 q1) fun u s2 ⟨y, H2, I2, r2, q2⟩ =>
    thn (ho pins s2 σ H2 x y v u _ I2 r1 r2 q2) fun d s3 ⟨z, H3, I3, r3, k, e, q3⟩ => ?_)) hm
  subst e
  cases r3
  refine wpAny_truthy_bool ?_
  cases k with
  | false =>
    obtain ⟨k', e', q'⟩ := q3
    cases e'
    exact ite_ff ⟨H3, I3, q'⟩
  | true =>
    refine ite_tt (test_last (thn (hc pins s3 σ H3 _ I3 q3) fun w' s4 ⟨z', H4, I4, r4, q4⟩ => thn (ho' pins s4 σ H4 y z' u w' _ I4 r2 r4 q4) fun d' s5 ⟨z2, H5, I5, r5, k2, e2, q5⟩ => ?_))
    subst e2
    cases r5
    exact wpAny_truthy_bool ⟨H5, I5, q5⟩

/-! ### truth -/
/-- a value's truth by the abstract heap -/
def TruV (K : PySem.W.Frag) (x : V) (H : Hp) (k : Bool) : Prop :=
  match x with
  | .non => k = false
  | .bl b => k = b
  | .int i => k = (i != 0)
  | .str y => y.length ≤ sizeLine ∧ k = ((y.length : Int) != 0)
  | .byt y => y.size ≤ sizeLine ∧ k = ((y.size : Int) != 0)
  | .ref p => (∃ xs, SqL K H p xs ∧ k = !xs.isEmpty) ∨ (∃ xs, SqT K H p xs ∧ k = !xs.isEmpty) ∨ ∃ kvs, H p = some (.dK kvs) ∧ k = !kvs.isEmpty
  | _ => False
theorem isEmpty_kv {κ : Type} {kvs : List (κ × V)} {vs : List (κ × Value)} (r : KV kvs vs) : (!vs.isEmpty) = !kvs.isEmpty := by
  cases r <;> rfl
theorem isEmpty_of {xs : List V} {its : List Value} (r : Vals xs its) : (!its.toArray.isEmpty) = !xs.isEmpty := by
  cases r <;> simp
theorem line63 : (sizeLine : Nat) < 2 ^ 63 := by rw [sizeLine_eq]; decide
theorem tru_ok : TruR X (fun x H Q => ∃ k, TruV X.K x H k ∧ Q k H) := by
  intro pins s σ H x v Q I rx h
  obtain ⟨k, e, q⟩ := h
  have hl := line63
  have hs : sizeLine = 16777216 := sizeLine_eq
  cases x with
  | non =>
    cases rx
    have e' : k = false := e
    subst e'
    exact truthy_none ⟨H, I, q⟩
  | bl b =>
    cases rx
    have e' : k = b := e
    subst e'
    exact wpAny_truthy_bool ⟨H, I, q⟩
  | int i =>
    obtain ⟨t, rfl⟩ := rx
    have e' : k = (i != 0) := e
    subst e'
    exact PySem.P.truthy_int ⟨H, I, q⟩
  | str y =>
    obtain ⟨t, rfl⟩ := rx
    obtain ⟨hy, e'⟩ : y.length ≤ sizeLine ∧ k = ((y.length : Int) != 0) := e
    subst e'
    exact PySem.P.truthy_str (by omega) ⟨H, I.tok _, q⟩
  | byt y =>
    obtain ⟨t, rfl⟩ := rx
    obtain ⟨hy, e'⟩ : y.size ≤ sizeLine ∧ k = ((y.size : Int) != 0) := e
    subst e'
    exact PySem.W.truthy_bytes (by omega) ⟨H, I.tok _, q⟩
  | ref p =>
    cases rx
    have e' : (∃ xs, SqL X.K H p xs ∧ k = !xs.isEmpty) ∨ (∃ xs, SqT X.K H p xs ∧ k = !xs.isEmpty) ∨ ∃ kvs, H p = some (.dK kvs) ∧ k = !kvs.isEmpty := e
    rcases e' with ⟨xs, hx, e'⟩ | ⟨xs, hx, e'⟩ | ⟨kvs, hx, e'⟩
    · subst e'
      obtain ⟨its, r, pl, hz⟩ := I.list hx
      have hlen := r.length
      exact wpAny_truthy_list pl.isList (by simp only [List.size_toArray]; omega) ⟨H, I.tok _, by rw [isEmpty_of r]; exact q⟩
    · subst e'
      obtain ⟨its, r, pl, hz⟩ := I.tuple hx
      have hlen := r.length
      exact truthy_tuple pl (by simp only [List.size_toArray]; omega) ⟨H, I.tok _, by rw [isEmpty_of r]; exact q⟩
    · subst e'
      obtain ⟨hz, hS, vs, r, m⟩ : kvs.length ≤ sizeLine ∧ (p == sysModules) = false ∧ ∃ vs, KV kvs vs ∧ s.heap.DictOf (mixKind X.prog X.w) p vs := I.hok p _ hx
      have hlen : kvs.length = vs.length := Paired.length r
      exact wpAny_truthy_dict hS m (by omega) ⟨H, I.tok _, by rw [isEmpty_kv r]; exact q⟩
  | _ => exact (show False from e).elim
/-- any expression whose test is its value's truth (a name, a call, a subscript, a field ..: he by fun _ => rfl) -/
theorem pt_truth (ha : PE X a ta) (he : ∀ whole, isTrue a X.env whole = (do let v ← whole; standAt a.pos; holding [v] (truthy v))) :
    PT X a (fun σ H Q => ta σ H fun x H' => ∃ k, TruV X.K x H' k ∧ Q k H') := by
  intro pins s σ H Q I h
  exact isTrue_plain (thn (ha pins s σ H _ I h) fun v s1 ⟨x, H1, I1, r1, q1⟩ => tru_ok pins s1 σ H1 x v Q I1 r1 q1) (he _)

/-! ### strs and bytes -/
/-! ### scalar builtins, by CallR -/
theorem vals1 {x : V} {us : List Value} (r : Vals [x] us) : ∃ u, us = [u] ∧ RelV x u := by
  cases r with
  | cons r1 r2 => cases r2; exact ⟨_, rfl, r1⟩
theorem call_int1 : CallR X (.type "int") (fun xs H Q => (∃ i, xs = [.int i] ∧ Q (.int i) H) ∨ ∃ k, xs = [.bl k] ∧ Q (.int (if k then 1 else 0)) H) := by
  intro pins s σ H xs us Q I r h
  rcases h with ⟨i, rfl, q⟩ | ⟨k, rfl, q⟩
  · obtain ⟨u, rfl, t, rfl⟩ := vals1 r
    exact call_int_int ⟨.int i, H, I, ⟨_, rfl⟩, q⟩
  · obtain ⟨u, rfl, r1⟩ := vals1 r
    cases r1
    exact call_int_bool ⟨.int (if k then 1 else 0), H, I.tok _, ⟨_, rfl⟩, q⟩
end
end L2

namespace L2
open PySem PySem.Spec PyProof.Rows

/-! ### an instance, its attributes a map -/
structure ObjM (h : Heap) (x dx C : Addr) (mA : Str → Option Value) : Prop where
  obj : h.get? x = some (PySem.W.instObj C dx)
  ns : h.Ns1 dx mA
  ne : dx ≠ x

theorem lookIn_ns {h : Heap} {dx : Addr} {mA : Str → Option Value} (n : h.Ns1 dx mA) : ∃ od, h.get? dx = some od ∧ ∀ name, PySem.W.lookIn name od = some (mA name) := by
  obtain ⟨o, es, ep, ho, hd, hk, _, hm⟩ := n
  refine ⟨o, ho, fun name => ?_⟩
  have e := hm name
  unfold nsFind findBy at e
  rw [← Array.find?_toList] at e
  unfold PySem.W.lookIn
  rw [hd]
  dsimp only
  split
  · rename_i y q
    rw [q] at e
    exact congrArg some e
  · rename_i q
    rw [q] at e
    have a : es.toList.any (·.refKey) = false := by
      rw [List.any_eq_false]
      intro y hy
      obtain ⟨z, t, hkey⟩ := hk y (Array.mem_toList_iff.mp hy)
      simp [DictEntry.refKey, hkey]
    have a' : ¬ es.toList.any (·.refKey) = true := by rw [a]; exact Bool.false_ne_true
    rw [if_neg a']
    exact congrArg some e

theorem ObjM.look {h : Heap} {x dx C : Addr} {mA : Str → Option Value} (I : ObjM h x dx C mA) : ∃ od, PySem.W.InstAt h x (PySem.W.instObj C dx) C (some od) ∧ ∀ name, PySem.W.lookIn name od = some (mA name) :=
  let ⟨od, ho, hl⟩ := lookIn_ns I.ns
  ⟨od, ⟨I.obj, rfl, rfl, ho⟩, hl⟩

section
variable {prog : Program} {w : World} {A : Around} {E : Value → Shared → Prop} {s : Shared} {K : PySem.W.Frag} {x dx C f : Addr} {mA : Str → Option Value} {name : Str} {v : Value}

theorem get_map {expr : Bool} {Q : Value → Shared → Prop} (X : K.In s.heap) (I : ObjM s.heap x dx C mA) (hg : PySem.W.plainGet K C name = true) (hh : PySem.W.hasDictIn K C = true)
    (ha : PySem.W.findIn K (.ref C) name = some none) (hv : mA name = some v) (hv' : PySem.W.handedIn v = true) (h : Q v { s with toks := s.toks + 1 }) :
    wpAny (model prog w) A (getAttr (.ref x) name expr) Q E s := by
  obtain ⟨od, J, hl⟩ := I.look
  exact PySem.W.get_value X J (PySem.W.plainGet_of hg).1 (PySem.W.findObj_own hh ha rfl (by rw [hl, hv])) hv' h

theorem get_meth {pl : Sem Bool} {Q : Value × List Value → Shared → Prop} (X : K.In s.heap) (I : ObjM s.heap x dx C mA) (hg : PySem.W.plainGet K C name = true)
    (hf : PySem.W.findIn K (.ref C) name = some (some (.ref f))) (ht : PySem.W.isFn K (.ref f) = true) (hv : mA name = none) (h : Q (.ref f, [.ref x]) s) :
    wpAny (model prog w) A (getMethod (.ref x) name pl) Q E s := by
  obtain ⟨od, J, hl⟩ := I.look
  exact PySem.W.method_fn X J (PySem.W.plainGet_of hg).1 (PySem.W.plainGet_of hg).2 hf (beq_iff_eq.mp ht) (by show (PySem.W.lookIn name od).map (·.isSome) = some false; rw [hl, hv]; rfl) h

theorem set_map {ns : List Str} {Q : Unit → Shared → Prop} (X : K.In s.heap) (I : ObjM s.heap x dx C mA)
    (hs : PySem.W.findIn K (.ref C) "__setattr__" = some (some (.builtin "object.__setattr__"))) (hp : PySem.W.plainOver K C = true) (ht : PySem.W.takerIn K C name = some none) (hh : PySem.W.hasDictIn K C = true)
    (hw : PySem.Within mA ns) (hsz : ns.length ≤ sizeLine)
    (h : ∀ h', ObjM h' x dx C (fun y => if y = name then some v else mA y) → Heap.SameBut dx s.heap h' → Q () { s with heap := h', toks := s.toks + 2 }) :
    wpAny (model prog w) A (setAttr (.ref x) name v) Q E s := by
  obtain ⟨od, J, hl⟩ := I.look
  refine PySem.W.set_plain X J hs (PySem.W.osa_open (s := { s with toks := s.toks + 1 }) (r := none) X J hp ht fun b => ?_)
  obtain ⟨cd, hc, hd'⟩ := PySem.W.any_some hh
  have hx : s.heap.get? x = some ⟨.ref C, some dx, .plain, #[]⟩ := I.obj
  refine wpAny_bind (wpAny_pure (wpAny_bind (wpAny_bind (wpAny_loadPart hx (wpAny_bind (PySem.W.Looks.here (s := { s with toks := s.toks + 1 }) (PySem.W.looks_clsIn X hc) ?_))))))
  rw [hd']
  refine wpAny_pure (a := some dx) (wpAny_bind (wpAny_pure (wpAny_bind ?_)))
  refine wpAny_nsSet1 (s := { s with toks := s.toks + 1 }) I.ns fun h' hn2 hs2 => ?_
  obtain ⟨oD, esD, epD, hoD, hdD, hcD⟩ := hn2.count (PySem.Within.cons name v hw)
  refine wpAny_bind (wpAny_lookBehind hoD (by rw [hdD]; exact pastItsLine_dict (Nat.le_trans hcD (by rw [List.length_cons]; omega))) ?_)
  exact wpAny_pure (h _ ⟨(hs2.2 _ (Ne.symm I.ne)).trans I.obj, hn2, I.ne⟩ hs2)

/-- C(..): the dict at the heap's end, the instance behind it; then its __init__ -/
theorem make_map {R : Result → Shared → Prop} {vs : List Value} {kw : List (Str × Value)} (X : K.In s.heap) (hm : PySem.W.makesIn K C = true)
    (hi : PySem.W.findIn K (.ref C) "__init__" = some (some (.ref f))) (hf : PySem.W.typeIn K (.ref f) = some (.type "function"))
    (h : codeAny (model prog w) (A.under (.builtin "type.__call__" ⟨.ref C :: vs, kw⟩)) (.call (.ref f) ⟨.ref (s.heap.objs.size + 1) :: vs, kw⟩) (PySem.W.InitBack (s.heap.objs.size + 1) R)
      { s with heap := (s.heap.push PySem.W.emptyDict).push (PySem.W.instObj C s.heap.objs.size) }) :
    codeAny (model prog w) A (.call (.ref C) ⟨vs, kw⟩) R s := by
  obtain ⟨hh, g, d, t, os⟩ := s
  exact PySem.W.make_core (PySem.W.makes_of X hm) (PySem.W.looks_findIn X hi) (fun self => PySem.W.bind_fn X self hf) (.inl rfl) h
end

/-! ### the attributes as a list of pairs -/
def putF (f : Str) (v : V) : List (Str × V) → List (Str × V)
  | [] => [(f, v)]
  | (g, x) :: r => if g = f then (g, v) :: r else (g, x) :: putF f v r
theorem lookup_putF (f g : Str) (v : V) : ∀ fs : List (Str × V), (putF f v fs).lookup g = if g = f then some v else fs.lookup g
  | [] => by
    show List.lookup g [(f, v)] = _
    by_cases h : g = f
    · have hb : (g == f) = true := beq_iff_eq.mpr h
      simp only [List.lookup, hb, if_pos h]
    · have hb : (g == f) = false := beq_eq_false_iff_ne.mpr h
      simp only [List.lookup, hb, if_neg h]
  | (k, x) :: r => by
    have ih := lookup_putF f g v r
    rw [show putF f v ((k, x) :: r) = (if k = f then (k, v) :: r else (k, x) :: putF f v r) from rfl]
    by_cases hk : k = f
    · rw [if_pos hk]
      by_cases h : g = k
      · have hb : (g == k) = true := beq_iff_eq.mpr h
        simp only [List.lookup, hb, if_pos (h.trans hk)]
      · have hb : (g == k) = false := beq_eq_false_iff_ne.mpr h
        simp only [List.lookup, hb, if_neg (fun e : g = f => h (e.trans hk.symm))]
    · rw [if_neg hk]
      by_cases h : g = k
      · have hb : (g == k) = true := beq_iff_eq.mpr h
        simp only [List.lookup, hb, if_neg (fun e : g = f => hk (h.symm.trans e))]
      · have hb : (g == k) = false := beq_eq_false_iff_ne.mpr h
        simp only [List.lookup, hb]
        exact ih
theorem keys_putF (f : Str) (v : V) : ∀ fs : List (Str × V), f ∈ (putF f v fs).map (·.1) ∧ ∀ g, g ∈ fs.map (·.1) → g ∈ (putF f v fs).map (·.1)
  | [] => ⟨by simp [putF], fun g h => by simp at h⟩
  | (k, x) :: r => by
    obtain ⟨i1, i2⟩ := keys_putF f v r
    rw [show putF f v ((k, x) :: r) = (if k = f then (k, v) :: r else (k, x) :: putF f v r) from rfl]
    by_cases hk : k = f
    · rw [if_pos hk]
      subst hk
      exact ⟨by simp, fun g h => by simpa using h⟩
    · rw [if_neg hk]
      refine ⟨?_, fun g h => ?_⟩
      · rw [List.map_cons]
        exact List.mem_cons_of_mem _ i1
      · rw [List.map_cons] at h ⊢
        rcases List.mem_cons.mp h with e | e
        · exact List.mem_cons.mpr (.inl e)
        · exact List.mem_cons_of_mem _ (i2 g e)
theorem length_putF (f : Str) (v : V) : ∀ fs : List (Str × V), (putF f v fs).length ≤ fs.length + 1
  | [] => by simp [putF]
  | (k, x) :: r => by
    have ih := length_putF f v r
    rw [show putF f v ((k, x) :: r) = (if k = f then (k, v) :: r else (k, x) :: putF f v r) from rfl]
    by_cases hk : k = f
    · rw [if_pos hk, List.length_cons, List.length_cons]; omega
    · rw [if_neg hk, List.length_cons, List.length_cons]; omega

theorem RelO.some_of {v : V} {o : Option Value} (r : RelO (some v) o) : ∃ u, o = some u ∧ RelV v u := by
  cases o with
  | none => exact (show False from r).elim
  | some u => exact ⟨u, rfl, r⟩
theorem RelO.none_of {o : Option Value} (r : RelO none o) : o = none := by
  cases o with
  | none => rfl
  | some u => exact (show False from r).elim
theorem handed_of {v : V} {u : Value} (r : RelV v u) : PySem.W.handedIn u = true := by
  cases v with
  | non => cases (show u = Value.none from r); rfl
  | bl b => cases (show u = Value.bool b from r); rfl
  | int i => obtain ⟨t, e⟩ := (show ∃ t, u = Value.int i t from r); cases e; rfl
  | str x => obtain ⟨t, e⟩ := (show ∃ t, u = Value.str x t from r); cases e; rfl
  | byt b => obtain ⟨t, e⟩ := (show ∃ t, u = Value.bytes b t from r); cases e; rfl
  | flt b => obtain ⟨t, e⟩ := (show ∃ t, u = Value.float b t from r); cases e; rfl
  | ref a => cases (show u = Value.ref a from r); rfl
  | ty n => cases (show u = Value.type n from r); rfl

section
variable {P : Program} {w : World} {H H' : Hp} {h h' : Heap} {a C dx : Addr} {fs fs' : List (Str × V)}
theorem ins_get (hok : HOk P w H h) (e : H a = some (.ins C dx fs)) : ∃ mA, ObjM h a dx C mA ∧ (∀ f, RelO (fs.lookup f) (mA f)) ∧ PySem.Within mA (fs.map (·.1)) ∧ fs.length ≤ 1000 ∧ H dx = some (.own a) := by
  obtain ⟨d, z, ne, ob, mA, n, r, q⟩ := (show ObjOk P w H h a (.ins C dx fs) from hok a _ e)
  exact ⟨mA, ⟨ob, n, ne⟩, r, q, z, d⟩
end

/-! ### what of the text a class must have -/
structure Cls (K : PySem.W.Frag) (C : Addr) : Prop where
  pg : PySem.W.plainGet K C Str.empty = true
  hd : PySem.W.hasDictIn K C = true
  po : PySem.W.plainOver K C = true
  sa : PySem.W.findIn K (.ref C) "__setattr__" = some (some (.builtin "object.__setattr__"))
theorem Cls.get {K : PySem.W.Frag} {C : Addr} (c : Cls K C) (f : Str) : PySem.W.plainGet K C f = true := c.pg
/-- no class of it has the name -/
def NoAttr (K : PySem.W.Frag) (C : Addr) (f : Str) : Prop := PySem.W.findIn K (.ref C) f = some none
theorem NoAttr.taker {K : PySem.W.Frag} {C : Addr} {f : Str} (n : NoAttr K C f) : PySem.W.takerIn K C f = some none := by
  unfold PySem.W.takerIn
  rw [show PySem.W.findIn K (.ref C) f = some none from n]
  rfl
/-- a constant of the class -/
structure Con (K : PySem.W.Frag) (C : Addr) (f : Str) (v : V) (u : Value) : Prop where
  at_ : PySem.W.findIn K (.ref C) f = some (some u)
  rel : RelV v u
  get : PySem.W.specialIn K u "__get__" = some none
  cp : PySem.W.copiedNames.contains f = false
/-- a method: a plain def of the class or of one above it -/
structure Meth (K : PySem.W.Frag) (C : Addr) (m : Str) (f : Addr) : Prop where
  at_ : PySem.W.findIn K (.ref C) m = some (some (.ref f))
  fn : PySem.W.isFn K (.ref f) = true
  kp : PySem.W.keepIn K (.ref f) = true

section
variable {X : Cx} {pins : List (Addr × Obj)} {σ : St} {H : Hp} {s : Shared} {a C dx : Addr} {fs : List (Str × V)} {f : Str} {v : V} {A : Around} {E : Value → Shared → Prop}

theorem getattr_ok {b : Bool} {Q : Value → Shared → Prop} (I : Inv X pins σ H s) (e : H a = some (.ins C dx fs)) (c : Cls X.K C) (n : NoAttr X.K C f) (l : fs.lookup f = some v)
    (h : ∀ u s', Inv X pins σ H s' → RelV v u → Q u s') : wpAny (model X.prog X.w) A (getAttr (.ref a) f b) Q E s := by
  obtain ⟨mA, O, r, _, _, _⟩ := ins_get I.hok e
  obtain ⟨u, hu, ru⟩ := RelO.some_of (v := v) (o := mA f) (by rw [← l]; exact r f)
  exact get_map I.kIn O (c.get f) c.hd n hu (handed_of ru) (h u _ (I.tok _) ru)

theorem getmeth_ok {m : Str} {g : Addr} {pl : Sem Bool} {Q : Value × List Value → Shared → Prop} (I : Inv X pins σ H s) (e : H a = some (.ins C dx fs)) (c : Cls X.K C) (k : Meth X.K C m g) (l : fs.lookup m = none)
    (h : Q (.ref g, [.ref a]) s) : wpAny (model X.prog X.w) A (getMethod (.ref a) m pl) Q E s := by
  obtain ⟨mA, O, r, _, _, _⟩ := ins_get I.hok e
  have hn : mA m = none := RelO.none_of (by rw [← l]; exact r m)
  exact get_meth I.kIn O (c.get m) k.at_ k.fn hn h

theorem setattr_ok {y : V} {u : Value} {Q : Unit → Shared → Prop} (I : Inv X pins σ H s) (e : H a = some (.ins C dx fs)) (c : Cls X.K C) (n : NoAttr X.K C f) (hl : fs.length < 1000) (ry : RelV y u)
    (h : ∀ s', Inv X pins σ (upd H a (.ins C dx (putF f y fs))) s' → Q () s') : wpAny (model X.prog X.w) A (setAttr (.ref a) f u) Q E s := by
  obtain ⟨mA, O, r, wi, _, ho⟩ := ins_get I.hok e
  have hz : (fs.map (·.1)).length ≤ sizeLine := by rw [List.length_map, sizeLine_eq]; omega
  refine set_map I.kIn O c.sa c.po n.taker c.hd wi hz fun h' O' sb => h _ ?_
  have hd : ∃ o, h'.get? dx = some o := let ⟨o, _, _, e', _⟩ := O'.ns; ⟨o, e'⟩
  refine I.write (x := a) (e := dx) (by rw [e]; exact True.intro) (.inr ho) (fun b q hb z => (sb.2 b hb).trans z) hd ?_
  refine ⟨by rw [upd_ne O.ne]; exact ho, ?_, O.ne, O'.obj, _, O'.ns, fun g => ?_, fun g hg => ?_⟩
  · have := length_putF f y fs; omega
  · show RelO ((putF f y fs).lookup g) (if g = f then some u else mA g)
    rw [lookup_putF]
    by_cases q : g = f
    · rw [if_pos q, if_pos q]; exact ry
    · rw [if_neg q, if_neg q]; exact r g
  · by_cases q : g = f
    · rw [q]; exact (keys_putF f y fs).1
    · refine (keys_putF f y fs).2 g (wi g fun z => hg ?_)
      show (if g = f then some u else mA g) = none
      rw [if_neg q]; exact z

/-- a new instance, tracked, without attributes -/
theorem Inv.made (I : Inv X pins σ H s) : Inv X pins σ (upd (upd H s.heap.objs.size (.own (s.heap.objs.size + 1))) (s.heap.objs.size + 1) (.ins C s.heap.objs.size []))
    { s with heap := (s.heap.push PySem.W.emptyDict).push (PySem.W.instObj C s.heap.objs.size) } := by
  have e1 : (s.heap.push PySem.W.emptyDict).get? s.heap.objs.size = some PySem.W.emptyDict := Heap.get?_push_size s.heap rfl
  have e2 : ((s.heap.push PySem.W.emptyDict).push (PySem.W.instObj C s.heap.objs.size)).get? (s.heap.objs.size + 1) = some (PySem.W.instObj C s.heap.objs.size) := by
    have := Heap.get?_push_size (s.heap.push PySem.W.emptyDict) (o := PySem.W.instObj C s.heap.objs.size) rfl
    rwa [Heap.size_push] at this
  have e3 : (s.heap.push PySem.W.emptyDict).Ns s.heap.objs.size (fun _ => none) := ⟨PySem.W.emptyDict, #[], _, e1, rfl, (fun e he => absurd he (by simp)), fun _ => rfl⟩
  have I1 := I.laid (a := s.heap.objs.size) (o := .own (s.heap.objs.size + 1)) (h' := s.heap.push PySem.W.emptyDict) (t' := s.toks) (fun b u q => Heap.get?_push_of_some _ q) (Nat.le_refl _) ⟨_, e1⟩
  refine I1.laid (a := s.heap.objs.size + 1) (o := .ins C s.heap.objs.size []) (t' := s.toks) (fun b u q => Heap.get?_push_of_some _ q) (Nat.le_of_eq (Heap.size_push _ _)) ?_
  have ne : s.heap.objs.size ≠ s.heap.objs.size + 1 := Nat.ne_of_lt (Nat.lt_succ_self _)
  refine ⟨by rw [upd_ne ne, upd_same], Nat.zero_le _, ne, e2, fun _ => none, (Heap.Ns1.of_empty e3).at fun o q => Heap.get?_push_of_some _ q, fun _ => True.intro, fun y hy => absurd rfl hy⟩

/-- e.f where nothing but the object is asked: through attributeBase (super) and the last hold -/
theorem attr_of {prog : Program} {w : World} {env : Env} {e : Expr} {f : Str} {pos : Pos} {s : Shared} {Q : Value → Shared → Prop} (hb : attributeBase e f env (eval e env) = eval e env)
    (h : wpAny (model prog w) A (eval e env) (fun o s₁ => wpAny (model prog w) A (getAttr o f true) Q E s₁) E s) : wpAny (model prog w) A (eval (.Attribute e f pos) env) Q E s :=
  Attribute_any_ h (by rw [arm_eval_Attribute, hb])
end

/-! ### readings and rules -/
/-- e.f, an attribute of the instance -/
def tFld (K : PySem.W.Frag) (ta : TE) (f : Str) : TE := fun σ H Q => ta σ H fun x H1 => ∃ a C dx fs v, x = .ref a ∧ H1 a = some (.ins C dx fs) ∧ Cls K C ∧ NoAttr K C f ∧ fs.lookup f = some v ∧ Q v H1
/-- e.f = value -/
def sFld (K : PySem.W.Frag) (ta tv : TE) (f : Str) : TS := fun D σ H => tv σ H fun y H1 => ta σ H1 fun x H2 => ∃ a C dx fs, x = .ref a ∧ H2 a = some (.ins C dx fs) ∧ Cls K C ∧ NoAttr K C f ∧ fs.length < 1000 ∧
  D.nx σ (upd H2 a (.ins C dx (putF f y fs)))
section
variable {X : Cx} {o e value : Expr} {f : Str} {pos pos' tpos : Pos} {ta tv : TE}
theorem pe_fld (he : PE X e ta) (hb : attributeBase e f X.env (eval e X.env) = eval e X.env) : PE X (.Attribute e f pos) (tFld X.K ta f) := by
  intro pins s σ H Q I h
  refine attr_of hb (thn (he pins s σ H _ I h) fun u s1 ⟨x, H1, I1, rx, a, C, dx, fs, v, ex, ea, c, n, l, q⟩ => ?_)
  subst ex
  obtain rfl : u = Value.ref a := rx
  exact getattr_ok I1 ea c n l fun u' s2 I2 ru => ⟨v, H1, I2, ru, q⟩
theorem ps_fld (ha : PE X o ta) (hv : PE X value tv) (hs : swapsWith value (some (.Attribute o f pos')) pos.line X.env = pure false) : PS X (.Assign [.Attribute o f pos'] value pos) (sFld X.K ta tv f) := by
  intro pins s σ H D I h
  refine plainObj_wpAny_Assign_Attribute (thn (hv pins s σ H _ I h) fun u s1 ⟨y, H1, I1, ry, q⟩ => thn (ha pins s1 σ H1 _ I1 q) fun ov s2 ⟨x, H2, I2, rx, a, C, dx, fs, ex, ea, c, n, l, q2⟩ => ?_) hs
  subst ex
  obtain rfl : ov = Value.ref a := rx
  exact setattr_ok I2 ea c n l ry fun s3 I3 => ⟨σ, _, I3, q2⟩
end

/-! ### isinstance -/
section
variable {X : Cx} {pins : List (Addr × Obj)} {σ : St} {H : Hp} {s : Shared} {A : Around} {E : Value → Shared → Prop} {Q : Value → Shared → Prop} {c : Value} {b : Bool}
/-- the type of a value, as the fragment's deciders take it; for an instance its class -/
inductive TyOf (K : PySem.W.Frag) (H : Hp) : V → Value → Prop where
  | non : TyOf K H .non (.type "NoneType")
  | bl (x : Bool) : TyOf K H (.bl x) (.type "bool")
  | int (i : Int) : TyOf K H (.int i) (.type "int")
  | str (x : Str) : TyOf K H (.str x) (.type "str")
  | flt (x : UInt64) : TyOf K H (.flt x) (.type "float")
  | lst {a : Addr} {xs : List V} (e : H a = some (.lst xs)) : TyOf K H (.ref a) (.type "list")
  | frz {a : Addr} {o : Obj} {xs : List V} (e : H a = some (.frz o (.lst xs))) : TyOf K H (.ref a) (.type "list")
  | tup {a : Addr} {xs : List V} (e : H a = some (.tup xs)) : TyOf K H (.ref a) (.type "tuple")
  | dK {a : Addr} {kvs : List (Key × V)} (e : H a = some (.dK kvs)) : TyOf K H (.ref a) (.type "dict")
  | dT {a : Addr} {kvs : List (List Key × V)} (e : H a = some (.dT kvs)) : TyOf K H (.ref a) (.type "dict")
  | ins {a C dx : Addr} {fs : List (Str × V)} (e : H a = some (.ins C dx fs)) (cl : Cls K C) (ha : PySem.W.findIn K (.ref C) "__class__" = some (some (.builtin "object.__class__")))
      (hn : PySem.W.specialIn K (.builtin "object.__class__") "__get__" = some (some (.builtin "getset_descriptor.__get__"))) (htk : PySem.W.takesIn K (.builtin "object.__class__") = some true)
      (hm : PySem.W.mroIn K C (.type "object") = some true) : TyOf K H (.ref a) (.ref C)
end
end L2

namespace L2
open PySem PySem.Spec PyProof.Rows

/-! ### room -/
structure Room (k : Nat) (A : Around) : Prop where
  hd : A.handled = none
  dp : A.depth + 3 * k + 5 < recursionLimit
  un : A.units + 16 * k + 200 < cLine
theorem Room.mono {j k : Nat} {A : Around} (r : Room k A) (h : j ≤ k) : Room j A := ⟨r.hd, by have := r.dp; omega, by have := r.un; omega⟩
theorem Room.deeper {k : Nat} {A : Around} (r : Room (k + 1) A) (env : Env) : Room k (A.deeper env) :=
  ⟨r.hd, by have := r.dp; show A.depth + 1 + 3 * k + 5 < _; omega, by have := r.un; show A.units + 3 + 16 * k + 200 < _; omega⟩
theorem Room.in1 {k : Nat} {A : Around} (r : Room (k + 1) A) : Room k A.in1 :=
  ⟨r.hd, by have := r.dp; show A.depth + 3 * k + 5 < _; omega, by have := r.un; show A.units + 1 + 16 * k + 200 < _; omega⟩
theorem make_depth {A : Around} {C : Addr} {us : List Value} {kw : List (Str × Value)} : (A.under (.builtin "type.__call__" ⟨.ref C :: us, kw⟩)).depth = A.depth + 1 := by
  first | rfl | simp [Around.under, Code.weight, Code.isCreation, Code.isGuard, Code.isCaller, Code.frames, Code.isFrame, guardIds]
theorem make_units {A : Around} {C : Addr} {us : List Value} {kw : List (Str × Value)} : (A.under (.builtin "type.__call__" ⟨.ref C :: us, kw⟩)).units = A.units + 1 := by
  first | rfl | simp [Around.under, Code.cUnits, Code.frames, Code.isFrame]
theorem Room.make {k : Nat} {A : Around} (r : Room (k + 1) A) (C : Addr) (us : List Value) (kw : List (Str × Value)) : Room k (A.under (.builtin "type.__call__" ⟨.ref C :: us, kw⟩)) :=
  ⟨r.hd, by have := r.dp; rw [make_depth]; omega, by have := r.un; rw [make_units]; omega⟩
theorem Room.depth {k : Nat} {A : Around} (r : Room k A) : A.depth < recursionLimit := by have := r.dp; omega
theorem Room.units {k : Nat} {A : Around} (r : Room k A) : A.units + 64 < cLine := by have := r.un; omega
/-! ### argument lists and displays -/
def tNil : TA := fun _ H Q => Q [] H
def tCons (ta : TE) (tr : TA) : TA := fun σ H Q => ta σ H fun x H1 => tr σ H1 fun xs H2 => Q (x :: xs) H2
section
variable {X : Cx} {e : Expr} {es : List Expr} {te : TE} {t : TA} {pos : Pos}
theorem pa_nil : PA X [] tNil := fun _ _ _ _ H Q I h => Calls.spliced_nil ⟨[], H, I, .nil, h⟩
theorem pa_cons (ha : PE X e te) (hr : PA X es t) (hs : starEach (e :: es) X.env = (false, eval e X.env) :: starEach es X.env := by rfl) : PA X (e :: es) (tCons te t) := by
  intro pos pins s σ H Q I h
  rw [hs]
  show wpAny _ _ (spliced ((false, eval e X.env) :: backTo pos (starEach es X.env))) _ _ s
  refine Calls.spliced_cons (thn (ha pins s σ H _ I h) fun u s1 ⟨x, H1, I1, r1, q1⟩ => ?_)
  exact thn (hr pos pins s1 σ H1 _ I1 q1) fun us s2 ⟨xs, H2, I2, r2, q2⟩ => ⟨x :: xs, H2, I2, .cons r1 r2, q2⟩

/-- a tuple, a list of written items -/
def tTup (t : TA) : TE := fun σ H Q => t σ H fun xs H1 => xs.length ≤ sizeLine ∧ ∀ p, H1 p = none → Q (.ref p) (upd H1 p (.tup xs))
def tLst (t : TA) : TE := fun σ H Q => t σ H fun xs H1 => xs.length ≤ sizeLine ∧ ∀ p, H1 p = none → Q (.ref p) (upd H1 p (.lst xs))
theorem pe_tup {x1} (h : PA X es t) : PE X (.Tuple es x1 pos) (tTup t) := by
  intro pins s σ H Q I hq
  refine wpAny_Tuple_spliced (thn (h pos pins s σ H _ I hq) fun us s1 ⟨xs, H1, I1, r, z, q⟩ => ⟨by rw [← r.length]; exact z, ?_⟩)
  have hf : H1 s1.heap.objs.size = none := I1.hok.fresh (Nat.le_refl _)
  refine ⟨.ref s1.heap.objs.size, upd H1 s1.heap.objs.size (.tup xs), I1.laid (t' := s1.toks) (fun b u e => Heap.get?_push_of_some _ e) (Nat.le_refl _) ?_, rfl, q _ hf⟩
  exact ⟨z, us, r, ⟨_, Heap.get?_push_size _ rfl, rfl, _, rfl⟩⟩
theorem pe_lst (h : PA X es t) : PE X (.List es pos) (tLst t) := by
  intro pins s σ H Q I hq
  refine wpAny_List_spliced (thn (h pos pins s σ H _ I hq) fun us s1 ⟨xs, H1, I1, r, z, q⟩ => ⟨by rw [← r.length]; exact z, ?_⟩)
  have hf : H1 s1.heap.objs.size = none := I1.hok.fresh (Nat.le_refl _)
  refine ⟨.ref s1.heap.objs.size, upd H1 s1.heap.objs.size (.lst xs), I1.laid (t' := s1.toks) (fun b u e => Heap.get?_push_of_some _ e) (Nat.le_refl _) ?_, rfl, q _ hf⟩
  exact ⟨z, us, 0, r, Heap.get?_push_size _ rfl⟩
end

/-! ### what a def promises -/
/-- a def's promise: the bound arguments in the parameters' order, the heap, the wanted end, the wanted exception -/
abbrev Sp := List V → Hp → VK → XK → Prop
/-- how an exception lies behind a call (file 08 gives it): the callers' frames, abstract heap and state ahead of the call, the wish, the exception, the state -/
abbrev CXT := List Env → Hp → Shared → XK → Value → Shared → Prop

/-- the state at a call -/
structure Env0 (P : Program) (w : World) (K : PySem.W.Frag) (mg : Str → Option Value) (base : Heap) (A : Around) (outer : List Env) (s : Shared) (H : Hp) : Prop where
  frames : A.frames = some outer
  mod : Mod K mg base
  bs : ∀ b o, base.get? b = some o → s.heap.get? b = some o ∧ H b = none
  bsz : base.objs.size ≤ s.heap.objs.size
  funs : s.heap.FunFrames base outer
  frf : ∀ b ∈ frs outer, H b = none
  hok : HOk P w H s.heap
  bare : AllBare s.gens
/-- a call's end -/
def CE (outer : List Env) (P : Program) (w : World) (H : Hp) (s : Shared) (Q : VK) (u : Value) (s' : Shared) : Prop :=
  ∃ v H', s'.os = s.os ∧ AllBare s'.gens ∧ Un (frs outer) [] H H' s.heap s'.heap ∧ HOk P w H' s'.heap ∧ RelV v u ∧ Q v H'
def CR (CX : CXT) (outer : List Env) (P : Program) (w : World) (H : Hp) (s : Shared) (Q : VK) (E : XK) (r : Result) (s' : Shared) : Prop :=
  match r with
  | .ok (.ret u) => CE outer P w H s Q u s'
  | .ok _ => False
  | .error e => CX outer H s E e s'
structure FnOk (P : Program) (w : World) (K : PySem.W.Frag) (mg : Str → Option Value) (base : Heap) (CX : CXT) (k : Nat) (f : Addr) (fd : FuncData) (ps : List Str) (sp : Sp) : Prop where
  len : ∀ vs H Q E, sp vs H Q E → vs.length = ps.length
  run : ∀ (A : Around) (outer : List Env) (s : Shared) (H : Hp) (args : Args) (us : List Value) (vs : List V) (Q : VK) (E : XK), Room k A → Env0 P w K mg base A outer s H → BindsTo s fd args (ps.zip us) → Vals vs us → sp vs H Q E →
    codeAny (model P w) A (.call (.ref f) args) (CR CX outer P w H s Q E) s
theorem FnOk.mono {P : Program} {w : World} {K : PySem.W.Frag} {mg : Str → Option Value} {base : Heap} {CX : CXT} {j k : Nat} {f : Addr} {fd : FuncData} {ps : List Str} {sp : Sp} (F : FnOk P w K mg base CX j f fd ps sp) (h : j ≤ k) :
    FnOk P w K mg base CX k f fd ps sp := ⟨F.len, fun A outer s H args us vs Q E hr => F.run A outer s H args us vs Q E (hr.mono h)⟩
/-- a weaker promise -/
theorem FnOk.imp {P : Program} {w : World} {K : PySem.W.Frag} {mg : Str → Option Value} {base : Heap} {CX : CXT} {k : Nat} {f : Addr} {fd : FuncData} {ps : List Str} {sp sp' : Sp} (F : FnOk P w K mg base CX k f fd ps sp)
    (h : ∀ vs H Q E, sp' vs H Q E → sp vs H Q E) : FnOk P w K mg base CX k f fd ps sp' :=
  ⟨fun vs H Q E q => F.len vs H Q E (h _ _ _ _ q), fun A outer s H args us vs Q E hr he hb hv hs => F.run A outer s H args us vs Q E hr he hb hv (h _ _ _ _ hs)⟩

theorem Env0.make {P : Program} {w : World} {K : PySem.W.Frag} {mg : Str → Option Value} {base : Heap} {A : Around} {outer : List Env} {s : Shared} {H : Hp} (e : Env0 P w K mg base A outer s H) (C : Addr) (us : List Value) (kw : List (Str × Value)) :
    Env0 P w K mg base (A.under (.builtin "type.__call__" ⟨.ref C :: us, kw⟩)) outer s H := ⟨by first | exact e.frames | (simpa [Around.under, Code.envs, Code.isFrame, pushEnvs] using e.frames), e.mod, e.bs, e.bsz, e.funs, e.frf, e.hok, e.bare⟩
theorem Env0.in1 {P : Program} {w : World} {K : PySem.W.Frag} {mg : Str → Option Value} {base : Heap} {A : Around} {outer : List Env} {s : Shared} {H : Hp} (e : Env0 P w K mg base A outer s H) :
    Env0 P w K mg base A.in1 outer s H := ⟨e.frames, e.mod, e.bs, e.bsz, e.funs, e.frf, e.hok, e.bare⟩

section
variable {X : Cx} {pins : List (Addr × Obj)} {σ : St} {H : Hp} {s s' : Shared}
/-- from a body: what a callee wants -/
theorem Inv.env0 (I : Inv X pins σ H s) : Env0 X.prog X.w X.K X.mg X.base X.A X.stack s H :=
  ⟨I.ok.frames, I.ok.mod, I.bs, Nat.le_trans I.ok.bsz I.sz, I.stack, I.stkFree, I.hok, I.bare⟩
/-- behind a call -/
theorem Inv.after {Q : VK} {u : Value} (I : Inv X pins σ H s) (h : CE X.stack X.prog X.w H s Q u s') : EP X pins σ Q u s' := by
  obtain ⟨v, H', os, bare, un, hok, r, q⟩ := h
  obtain ⟨hh, g, d, t, os'⟩ := s'
  obtain rfl : os' = s.os := os
  exact ⟨v, H', I.call (h' := hh) (g' := g) (d' := d) (t' := t) (ch := []) un hok bare (fun b z => absurd z (by simp)), r, q⟩
end

/-! ### calls -/
/-- f(..): the written arguments, then the defaults dvs; E: what is wanted of an exception -/
def tCall (sp : Sp) (dvs : List V) (E : XK) (t : TA) : TE := fun σ H Q => t σ H fun vs H1 => sp (vs ++ dvs) H1 Q E
/-- o.m(..) of an instance of the class at C -/
def tMeth (C : Addr) (m : Str) (sp : Sp) (dvs : List V) (E : XK) (ta : TE) (t : TA) : TE := fun σ H Q => ta σ H fun x H1 => ∃ a dx fs, x = .ref a ∧ H1 a = some (.ins C dx fs) ∧ fs.lookup m = none ∧
  t σ H1 fun vs H2 => sp (x :: (vs ++ dvs)) H2 Q E
/-- C(..): a new instance and its dict, then __init__ -/
def tMake (C : Addr) (sp : Sp) (dvs : List V) (E : XK) (t : TA) : TE := fun σ H Q => t σ H fun vs H1 => ∀ x dx, H1 x = none → H1 dx = none → dx ≠ x →
  sp (.ref x :: (vs ++ dvs)) (upd (upd H1 dx (.own x)) x (.ins C dx [])) (fun v H2 => v = .non ∧ Q (.ref x) H2) E

/-- how the parameters are bound: us the positional arguments, kw the keywords' values by name, ds the defaults that fill up -/
def Binds (K : PySem.W.Frag) (fd : FuncData) (ps : List Str) (ds : List Value) : Prop :=
  ∀ (s : Shared) (us : List Value), K.In s.heap → (us ++ ds).length = ps.length → BindsTo s fd ⟨us, []⟩ (ps.zip (us ++ ds))
/-- every parameter is given -/
theorem Binds.all {K : PySem.W.Frag} {fd : FuncData} {ps : List Str} (h : ∀ us : List Value, us.length = ps.length → bindArgs fd ⟨us, []⟩ = pure (ps.zip us)) : Binds K fd ps [] := fun s us _ hl => by
  rw [List.append_nil] at hl ⊢
  exact .of_eq (h us hl)

/-- an exception of a callee reaches what this body wants of exceptions -/
def Passes (CX : CXT) (X : Cx) (E : XK) : Prop := ∀ (pins : List (Addr × Obj)) (σ : St) (H : Hp) (s : Shared) (e : Value) (s' : Shared), Inv X pins σ H s → CX X.stack H s E e s' → X.xe e s'

section
variable {X : Cx} {CX : CXT} {k : Nat} {f C : Addr} {fd : FuncData} {ps : List Str} {sp : Sp} {dvs : List V} {ds : List Value} {E : XK} {x m : Str} {p pos apos : Pos} {e o : Expr} {es : List Expr} {ta : TE} {t : TA}

/-- the callee runs -/
theorem run_fn {pins : List (Addr × Obj)} {σ : St} {H : Hp} {s : Shared} {Q : VK} {us : List Value} {vs : List V} (F : FnOk X.prog X.w X.K X.mg X.base CX k f fd ps sp) (hr : Room k X.A) (hb : Binds X.K fd ps ds) (hd : Vals dvs ds) (hx : Passes CX X E)
    (I : Inv X pins σ H s) (r : Vals vs us) (h : sp (vs ++ dvs) H Q E) : wpAny (model X.prog X.w) X.A (call (.ref f) us) (EP X pins σ Q) X.xe s := by
  have r2 : Vals (vs ++ dvs) (us ++ ds) := r.append hd
  have hl : (us ++ ds).length = ps.length := by rw [← r2.length]; exact F.len _ _ _ _ h
  refine wpAny_call (codeAny_mono (F.run X.A X.stack s H ⟨us, []⟩ (us ++ ds) (vs ++ dvs) Q E hr I.env0 (hb s us I.kIn hl) r2 h) fun r s' hq => ?_)
  cases r with
  | error e => exact hx pins σ H s e s' I hq
  | ok fl =>
    cases fl with
    | ret u => exact I.after hq
    | next => exact False.elim hq
    | brk => exact False.elim hq
    | cont => exact False.elim hq

theorem pe_call (F : FnOk X.prog X.w X.K X.mg X.base CX k f fd ps sp) (hr : Room k X.A) (hg : Gl X x) (hm : X.mg x = some (.ref f)) (hk : PySem.W.keepIn X.K (.ref f) = true) (hb : Binds X.K fd ps ds) (hd : Vals dvs ds) (hx : Passes CX X E)
    (ha : PA X (e :: es) t) (hdb : (x == ("__debug__" : Str)) = false := by decide) (he : starEach (e :: es) X.env = (false, eval e X.env) :: starEach es X.env := by rfl) (hpl : (backTo pos (starEach es X.env)).any (·.1) = false := by rfl) :
    PE X (.Call (.Name x p) (e :: es) [] pos) (tCall sp dvs E t) := by
  intro pins s σ H Q I h
  refine wpAny_Call_Name_kw (ld_glob I hg hm ?_ hdb)
  refine PySem.W.callWith_K (h₀ := X.base) I.ok.mod.kin hk (thn (ha pos pins s σ H _ I h) fun us s1 ⟨vs, H1, I1, r, q⟩ => ⟨I1.kIn, ?_⟩) he hpl
  exact run_fn F hr hb hd hx I1 r q
/-- o.m(e, ..) -/
theorem pe_meth {pl : Sem Bool} (he : PE X o ta) (c : Cls X.K C) (hm : Meth X.K C m f) (F : FnOk X.prog X.w X.K X.mg X.base CX k f fd ps sp) (hr : Room k X.A) (hb : Binds X.K fd ps ds) (hd : Vals dvs ds) (hx : Passes CX X E) (ha : PA X (e :: es) t)
    (hst : starEach (e :: es) X.env = (false, eval e X.env) :: starEach es X.env := by rfl) (hpl : (backTo pos (starEach es X.env)).any (·.1) = false := by rfl)
    (ht : eval (.Call (.Attribute o m apos) (e :: es) [] pos) X.env = (do
      let ov ← eval o X.env
      standAt apos.atName
      let (f, first) ← holding [ov] (getMethod ov m pl)
      callWith pos f first (backTo pos (starEach (e :: es) X.env)) (backToKw pos (keywordEach [] X.env))) := by rfl) :
    PE X (.Call (.Attribute o m apos) (e :: es) [] pos) (tMeth C m sp dvs E ta t) := by
  intro pins s σ H Q I h
  refine PySem.W.methodCall_KW (pl := pl) (thn (he pins s σ H _ I h) fun u s1 ⟨x, H1, I1, rx, a, dx, fs, ex, ea, l, q⟩ => ?_) ht
  subst ex
  obtain rfl : u = Value.ref a := rx
  refine getmeth_ok I1 ea c hm l ?_
  refine PySem.W.callWith_K (first := [.ref a]) (h₀ := X.base) I.ok.mod.kin hm.kp (thn (ha pos pins s1 σ H1 _ I1 q) fun us s2 ⟨vs, H2, I2, r, q2⟩ => ⟨I2.kIn, ?_⟩) hst hpl
  exact run_fn (us := .ref a :: us) (vs := .ref a :: vs) F hr hb hd hx I2 (.cons rfl r) q2
/-- o.m() -/
theorem pe_meth0 {pl : Sem Bool} (he : PE X o ta) (c : Cls X.K C) (hm : Meth X.K C m f) (F : FnOk X.prog X.w X.K X.mg X.base CX k f fd ps sp) (hr : Room k X.A) (hb : Binds X.K fd ps ds) (hd : Vals dvs ds) (hx : Passes CX X E)
    (ht : eval (.Call (.Attribute o m apos) [] [] pos) X.env = (do
      let ov ← eval o X.env
      standAt apos.atName
      let (f, first) ← holding [ov] (getMethod ov m pl)
      callWith pos f first (backTo pos (starEach [] X.env)) (backToKw pos (keywordEach [] X.env))) := by rfl) :
    PE X (.Call (.Attribute o m apos) [] [] pos) (tMeth C m sp dvs E ta tNil) := by
  intro pins s σ H Q I h
  refine PySem.W.methodCall_KW (pl := pl) (thn (he pins s σ H _ I h) fun u s1 ⟨x, H1, I1, rx, a, dx, fs, ex, ea, l, q⟩ => ?_) ht
  subst ex
  obtain rfl : u = Value.ref a := rx
  refine getmeth_ok I1 ea c hm l ?_
  exact PySem.W.callWith_K0 (first := [.ref a]) I1.kIn hm.kp (run_fn (us := [.ref a]) (vs := [.ref a]) F hr hb hd hx I1 (.cons rfl .nil) q)

/-- what a class must have to be made -/
structure Mk (K : PySem.W.Frag) (C f : Addr) : Prop where
  makes : PySem.W.makesIn K C = true
  init : PySem.W.findIn K (.ref C) "__init__" = some (some (.ref f))
  fn : PySem.W.isFn K (.ref f) = true
  kp : PySem.W.keepIn K (.ref C) = true

theorem run_make {pins : List (Addr × Obj)} {σ : St} {H : Hp} {s : Shared} {Q : VK} {us : List Value} {vs : List V} (M : Mk X.K C f) (F : FnOk X.prog X.w X.K X.mg X.base CX k f fd ps sp) (hr : Room (k + 1) X.A) (hb : Binds X.K fd ps ds) (hd : Vals dvs ds)
    (hx : Passes CX X E) (I : Inv X pins σ H s) (r : Vals vs us)
    (h : ∀ x dx, H x = none → H dx = none → dx ≠ x → sp (.ref x :: (vs ++ dvs)) (upd (upd H dx (.own x)) x (.ins C dx [])) (fun v H2 => v = .non ∧ Q (.ref x) H2) E) :
    wpAny (model X.prog X.w) X.A (call (.ref C) us) (EP X pins σ Q) X.xe s := by
  have hq := h (s.heap.objs.size + 1) s.heap.objs.size (I.hok.fresh (Nat.le_succ _)) (I.hok.fresh (Nat.le_refl _)) (Nat.ne_of_lt (Nat.lt_succ_self _))
  have I2 := Inv.made (C := C) I
  have r2 : Vals (V.ref (s.heap.objs.size + 1) :: (vs ++ dvs)) (Value.ref (s.heap.objs.size + 1) :: (us ++ ds)) := .cons rfl (r.append hd)
  have hl : (Value.ref (s.heap.objs.size + 1) :: us ++ ds).length = ps.length := by
    have e := r2.length
    rw [F.len _ _ _ _ hq] at e
    exact e.symm
  refine wpAny_call (make_map (f := f) I.kIn M.makes M.init (beq_iff_eq.mp M.fn) (codeAny_mono (F.run _ X.stack _ _ ⟨Value.ref (s.heap.objs.size + 1) :: us, []⟩ (Value.ref (s.heap.objs.size + 1) :: (us ++ ds)) _ _ E (hr.make C us [])
    (I2.env0.make C us []) (hb _ (Value.ref (s.heap.objs.size + 1) :: us) I2.kIn hl) r2 hq) fun r s' hq' => ?_))
  cases r with
  | error e => exact hx pins σ _ _ e s' I2 hq'
  | ok fl =>
    cases fl with
    | ret u =>
      obtain ⟨v, H', I3, rv, ev, q3⟩ := I2.after hq'
      subst ev
      exact ⟨rv, ⟨V.ref (s.heap.objs.size + 1), H', I3, rfl, q3⟩⟩
    | next => exact False.elim hq'
    | brk => exact False.elim hq'
    | cont => exact False.elim hq'
theorem pe_make0 (M : Mk X.K C f) (F : FnOk X.prog X.w X.K X.mg X.base CX k f fd ps sp) (hr : Room (k + 1) X.A) (hg : Gl X x) (hm : X.mg x = some (.ref C)) (hb : Binds X.K fd ps ds) (hd : Vals dvs ds) (hx : Passes CX X E)
    (hdb : (x == ("__debug__" : Str)) = false := by decide) : PE X (.Call (.Name x p) [] [] pos) (tMake C sp dvs E tNil) := by
  intro pins s σ H Q I h
  refine wpAny_Call_Name_kw (ld_glob I hg hm ?_ hdb)
  exact PySem.W.callWith_K0 I.kIn M.kp (run_make (us := []) M F hr hb hd hx I .nil h)
end

/-! ### keywords -/
section
variable {X : Cx} {CX : CXT} {k : Nat} {f C : Addr} {fd : FuncData} {ps ks : List Str} {sp : Sp} {E : XK} {x m : Str} {p pos apos kpos : Pos} {e o : Expr} {es : List Expr} {kws : List Keyword} {te ta : TE} {t tk : TA} {nm : Option Str}
/-- how a call with keywords binds: g puts the positional values us and the keywords' values ws (names ks) in the parameters' order, defaults among them -/
structure KBinds (K : PySem.W.Frag) (fd : FuncData) (ps ks : List Str) (g : List Value → List Value → List Value) (gV : List V → List V → List V) : Prop where
  to : ∀ (s : Shared) (us ws : List Value), K.In s.heap → (g us ws).length = ps.length → BindsTo s fd ⟨us, ks.zip ws⟩ (ps.zip (g us ws))
  rel : ∀ {vs : List V} {us : List Value} {zs : List V} {ws : List Value}, Vals vs us → Vals zs ws → Vals (gV vs zs) (g us ws)
variable {g : List Value → List Value → List Value} {gV : List V → List V → List V}
end

/-! ### a def's body keeps its promise -/
/-- names: the parameters first -/
structure FnScope (N P : List Str) (sc : Scope) : Prop where
  kind : sc.kind = .function
  co : sc.isCoroutine = false
  gen : sc.isGenerator = false
  nd : N.Nodup
  pre : N.take P.length = P
  par : ∀ x ∈ P, sc.names.lookup x = some .local ∨ sc.names.lookup x = some .cell
  nofree : ∀ y ∈ sc.names, y.2 ≠ .free

theorem bindL_out {kindOf : Str → Option NameKind} {x : Str} : ∀ {binds : List (Str × Value)} {m : Str → Option Value}, (∀ v, (x, v) ∉ binds) → bindL kindOf binds m x = m x
  | [], _, _ => rfl
  | (n, v) :: r, m, h => by
    unfold bindL
    rw [bindL_out fun w hw => h w (List.mem_cons_of_mem _ hw)]
    split
    · have : x ≠ n := by rintro rfl; exact h v List.mem_cons_self
      simp [this]
    · rfl
theorem bindC_out {kindOf : Str → Option NameKind} {x : Str} : ∀ {binds : List (Str × Value)} {m : Str → Option Value}, (∀ v, (x, v) ∉ binds) → bindC kindOf binds m x = m x
  | [], _, _ => rfl
  | (n, v) :: r, m, h => by
    unfold bindC
    rw [bindC_out fun w hw => h w (List.mem_cons_of_mem _ hw)]
    split
    · rfl
    · have : x ≠ n := by rintro rfl; exact h v List.mem_cons_self
      simp [this]
theorem bindL_get {kindOf : Str → Option NameKind} {x : Str} {v : Value} : ∀ {P : List Str} {vs : List Value} {i : Nat} {m : Str → Option Value}, P.Nodup → P[i]? = some x → vs[i]? = some v → kindOf x = some .local →
    bindL kindOf (P.zip vs) m x = some v
  | [], _, _, _, _, h, _, _ => by simp at h
  | _ :: _, [], _, _, _, _, h, _ => by simp at h
  | p :: P, w :: vs, 0, m, nd, h1, h2, hk => by
    simp at h1 h2; subst h1; subst h2
    show bindL kindOf ((p, w) :: P.zip vs) m p = _
    unfold bindL
    rw [bindL_out fun v hv => (List.nodup_cons.mp nd).1 (List.of_mem_zip hv).1, if_pos hk]
    simp
  | p :: P, w :: vs, i + 1, m, nd, h1, h2, hk => by
    show bindL kindOf ((p, w) :: P.zip vs) m x = _
    unfold bindL
    exact bindL_get (i := i) (List.nodup_cons.mp nd).2 (by simpa using h1) (by simpa using h2) hk
theorem bindC_get {kindOf : Str → Option NameKind} {x : Str} {v : Value} : ∀ {P : List Str} {vs : List Value} {i : Nat} {m : Str → Option Value}, P.Nodup → P[i]? = some x → vs[i]? = some v → kindOf x ≠ some .local →
    bindC kindOf (P.zip vs) m x = some v
  | [], _, _, _, _, h, _, _ => by simp at h
  | _ :: _, [], _, _, _, _, h, _ => by simp at h
  | p :: P, w :: vs, 0, m, nd, h1, h2, hk => by
    simp at h1 h2; subst h1; subst h2
    show bindC kindOf ((p, w) :: P.zip vs) m p = _
    unfold bindC
    rw [bindC_out fun v hv => (List.nodup_cons.mp nd).1 (List.of_mem_zip hv).1, if_neg hk]
    simp
  | p :: P, w :: vs, i + 1, m, nd, h1, h2, hk => by
    show bindC kindOf ((p, w) :: P.zip vs) m x = _
    unfold bindC
    exact bindC_get (i := i) (List.nodup_cons.mp nd).2 (by simpa using h1) (by simpa using h2) hk

/-- the names' values at the entry -/
def start (N : List Str) (vs : List V) : St := vs.map some ++ List.replicate (N.length - vs.length) none

/-- the context of a def's body, at its entry; an exception leaves the frame, then lies as CX says -/
def cxOf (CX : CXT) (P : Program) (w : World) (K : PySem.W.Frag) (mg : Str → Option Value) (base : Heap) (N : List Str) (qual : Str) (scope : Scope) (f : Addr) (cd : Value) (A : Around) (outer : List Env) (s : Shared) (H : Hp) (E : XK) : Cx where
  prog := P
  w := w
  K := K
  mg := mg
  base := base
  A := A.deeper (envOfC qual scope s.heap.objs.size f cd)
  N := N
  s₀ := s
  H₀ := H
  env := envOfC qual scope s.heap.objs.size f cd
  outer := outer
  stack := envOfC qual scope s.heap.objs.size f cd :: outer
  ex := []
  calm := true
  fn := fun _ => true
  pn := []
  xe := fun e s' => wpAny (model P w) (A.deeper (envOfC qual scope s.heap.objs.size f cd)) (leaving (envOfC qual scope s.heap.objs.size f cd) e) (fun _ s'' => CX outer H s E e s'') (fun e' s'' => CX outer H s E e' s'') s'

theorem cell_has {sc : Scope} {n : Nat} {x : Str} (h : sc.names.lookup x = some .cell) : ∃ c, (cellsFrom n sc.names []).lookup x = some c := by
  have q := PySem.W.cellsFrom_some sc.names n [] (.inl h)
  exact Option.isSome_iff_exists.mp q

theorem inv_start {CX : CXT} {P : Program} {w : World} {K : PySem.W.Frag} {mg : Str → Option Value} {base : Heap} {N ps : List Str} {qual : Str} {scope : Scope} {f : Addr} {cd : Value} {A : Around} {outer : List Env} {s s1 : Shared} {H : Hp} {E : XK} {us : List Value} {vs : List V}
    (S : FnScope N ps scope) (hd : A.handled = none) (e0 : Env0 P w K mg base A outer s H) (hl : vs.length = ps.length) (r : Vals vs us)
    (x : InCallC s s.heap.objs.size (bindL (envOfC qual scope s.heap.objs.size f cd).kindOf (ps.zip us) fun _ => none) (cellsFrom (s.heap.objs.size + 1) scope.names []) (bindC (envOfC qual scope s.heap.objs.size f cd).kindOf (ps.zip us) fun _ => none) s1) :
    Inv (cxOf CX P w K mg base N qual scope f cd A outer s H E) [] (start N vs) H s1 := by
  have hpl : ps.length ≤ N.length := by have := congrArg List.length S.pre; rw [List.length_take] at this; omega
  obtain ⟨h1, tk, rfl, hk⟩ := x.done
  have noA : ∀ b : Addr, b ∉ (cxOf CX P w K mg base N qual scope f cd A outer s H E).ex := fun b z => absurd (show b ∈ ([] : List Addr) from z) (by simp)
  refine ⟨⟨e0.mod, S.kind, rfl, rfl, Nat.le_refl _, fun y z c h1 h2 => ?_, fun y hy => ?_, fun y c _ h => ?_, fun _ => hd, Around.frames_deeper e0.frames, .inr ⟨rfl, rfl⟩, fun b z => absurd z (noA b), e0.bs, e0.bsz, fun b _ _ => noA b, fun b z => absurd z (noA b), e0.funs, e0.frf⟩,
    rfl, e0.bare, Un.kept hk, ⟨_, x.toInCall.ns, fun i y v h1 h2 h3 => ?_⟩, fun y c h => ⟨_, x.cell y c h⟩, e0.hok.fresh (Nat.le_refl _), fun y c h => ?_, fun p hp => absurd (show p ∈ ([] : List (Addr × Obj)) from hp) (by simp), e0.hok.kept hk, ?_⟩
  · exact name_of_addr x.apart (PySem.mem_of_lookup h1) (PySem.mem_of_lookup h2)
  · have hy : scope.names.lookup y = some .cell ∨ scope.names.lookup y = some .free := hy
    rcases hy with hy | hy
    · exact cell_has hy
    · exact absurd rfl (S.nofree _ (PySem.mem_of_lookup hy))
  · exact Nat.le_of_lt (x.above y c (PySem.mem_of_lookup h))
  · have hi : i < vs.length := by
      unfold start at h2
      by_cases hi : i < vs.length
      · exact hi
      · rw [List.getElem?_append_right (by simpa using hi)] at h2
        rw [List.getElem?_replicate] at h2
        split at h2 <;> cases h2
    have ha : vs[i]? = some v := by
      unfold start at h2
      rw [List.getElem?_append_left (by simpa using hi), List.getElem?_map] at h2
      cases e : vs[i]? with
      | none => rw [e] at h2; cases h2
      | some a => rw [e] at h2; cases h2; rfl
    obtain ⟨u, hu, rv⟩ := r.get ha
    have hp : ps[i]? = some y := by
      rw [← S.pre, List.getElem?_take_of_lt (by omega)]; exact h1
    have ndP : ps.Nodup := by rw [← S.pre]; exact S.nd.sublist (List.take_sublist _ _)
    refine ⟨u, rv, ?_⟩
    rcases S.par y (List.mem_of_getElem? hp) with k | k
    · exact .inl ⟨k, bindL_get ndP hp hu k⟩
    · obtain ⟨c, e⟩ := cell_has (n := s.heap.objs.size + 1) k
      refine .inr ⟨.inl k, c, e, ?_⟩
      have q := x.cell y c e
      rw [bindC_get ndP hp hu (by show scope.names.lookup y ≠ _; rw [k]; decide)] at q
      exact q
  · exact e0.hok.fresh (Nat.le_of_lt (x.above y c (PySem.mem_of_lookup h)))
  · unfold start
    show _ = N.length
    rw [List.length_append, List.length_map, List.length_replicate]
    omega

/-- THE RULE: a def (or a method) of the text, by its body. The body's reading t is chosen for each entry; it is run at the parameters' values -/
theorem fn_of {CX : CXT} {P : Program} {w : World} {K : PySem.W.Frag} {mg : Str → Option Value} {base : Heap} {k : Nat} {f : Addr} {name qual : Str} {params : Arguments} {body : List Stmt} {scope : Scope} {dV kV doc pm cdv ct oc : Value} {an od : Option Addr}
    {osl : Array (Option Value)} {N ps : List Str} {sp : Sp} (lk : K.lookup f = some ⟨oc, od, .func (PySem.W.fnOf name qual params body scope dV kV doc pm an cdv ct), osl⟩) (hcd : PySem.W.codeIn K cdv qual = true) (S : FnScope N ps scope)
    (len : ∀ vs H Q E, sp vs H Q E → vs.length = ps.length)
    (hbody : ∀ (A : Around) (outer : List Env) (s : Shared) (H : Hp) (vs : List V) (Q : VK) (E : XK), Room k (A.deeper (envOfC qual scope s.heap.objs.size f cdv)) → sp vs H Q E →
      ∃ t, PSs (cxOf CX P w K mg base N qual scope f cdv A outer s H E) body t ∧ t { nx := fun _ H' => Q .non H', rt := Q } (start N vs) H) :
    FnOk P w K mg base CX (k + 1) f (PySem.W.fnOf name qual params body scope dV kV doc pm an cdv ct) ps sp := by
  refine ⟨len, fun A outer s H args us vs Q E hr e0 hb r hsp => ?_⟩
  have hl := len _ _ _ _ hsp
  have KX : K.In s.heap := e0.mod.kin.keeps fun b o e => (e0.bs b o e).1
  have lim : s.heap.NoLimit := e0.mod.nolimit.keeps fun b o e => (e0.bs b o e).1
  have hkind : ∀ y ∈ ps.zip us, scope.names.lookup y.1 = some .local ∨ (scope.names.lookup y.1 = some .cell ∧ ((cellsFrom (s.heap.objs.size + 1) scope.names []).lookup y.1).isSome = true) := fun ⟨n, v⟩ hy => by
    rcases S.par n (List.of_mem_zip hy).1 with q | q
    · exact .inl q
    · exact .inr ⟨q, PySem.W.cellsFrom_some _ _ _ (.inl q)⟩
  refine codeAny_call_function hr.depth (KX _ _ lk) rfl S.co S.gen rfl (PySem.W.codeRec_of KX hcd) (hb _ _ _ _ ?_)
  refine wpAny_newFunctionEnv_cells S.kind hkind fun env he s1 x => ?_
  subst he
  refine ⟨lim.keeps x.toInCall.keep, codeAny_func ?_⟩
  obtain ⟨t, ht, hq⟩ := hbody A outer s H vs Q E (hr.deeper _) hsp
  have I : Inv (cxOf CX P w K mg base N qual scope f cdv A outer s H E) [] (start N vs) H s1 := inv_start S hr.hd e0 hl r x
  refine wpAny_mono (ht [] s1 (start N vs) H _ I hq) (fun fl s' hs => ?_) fun e s' hs => hs
  have fin : ∀ {σ' : St} {H' : Hp} {v : V} {u : Value}, Inv (cxOf CX P w K mg base N qual scope f cdv A outer s H E) [] σ' H' s' → RelV v u → Q v H' → CE outer P w H s Q u s' :=
    fun {σ' H' v u} J rv q => ⟨v, H', J.os, J.bare, J.base, J.hok, rv, q⟩
  cases fl with
  | ret u =>
    obtain ⟨v, σ', H', J, rv, q⟩ := hs
    exact fin J rv q
  | next =>
    obtain ⟨σ', H', J, q⟩ := hs
    exact fin (v := V.non) (u := Value.none) J rfl q
  | brk =>
    obtain ⟨_, _, _, q⟩ := hs
    exact False.elim q
  | cont =>
    obtain ⟨_, _, _, q⟩ := hs
    exact False.elim q
end L2

namespace L2
open PySem PySem.Spec PyProof.Rows
section
variable {X : Cx} {x : Str} {p pos : Pos} {e : Expr} {es : List Expr} {t : TA} {id T : String} {r : List V → Hp → VK → Prop}

def tCB (r : List V → Hp → VK → Prop) (t : TA) : TE := fun σ H Q => t σ H fun vs H1 => r vs H1 Q
/-- f(e, ..), f a built-in function -/
theorem pe_callB (hc : CallR X (.builtin id) r) (hg : Gl X x) (hm : X.mg x = none) (hv : bootBuiltins x = some (.builtin id)) (ha : PA X (e :: es) t) (hn : x ≠ "__name__" := by decide) (hdb : (x == ("__debug__" : Str)) = false := by decide)
    (he : starEach (e :: es) X.env = (false, eval e X.env) :: starEach es X.env := by rfl) (hpl : (backTo pos (starEach es X.env)).any (·.1) = false := by rfl) : PE X (.Call (.Name x p) (e :: es) [] pos) (tCB r t) := by
  intro pins s σ H Q I h
  refine wpAny_Call_Name_kw (ld_blt I hg hm hv ?_ hn hdb)
  exact PyProof.Rows.callWith_builtin1 (thn (ha pos pins s σ H _ I h) fun us s1 ⟨vs, H1, I1, r1, q1⟩ => hc pins s1 σ H1 vs us Q I1 r1 q1) he hpl
/-- T(e, ..), T a built-in type -/
theorem pe_callTy (hc : CallR X (.type T) r) (hg : Gl X x) (hm : X.mg x = none) (hv : bootBuiltins x = some (.type T)) (ha : PA X (e :: es) t) (hn : x ≠ "__name__" := by decide) (hdb : (x == ("__debug__" : Str)) = false := by decide)
    (he : starEach (e :: es) X.env = (false, eval e X.env) :: starEach es X.env := by rfl) (hpl : (backTo pos (starEach es X.env)).any (·.1) = false := by rfl) : PE X (.Call (.Name x p) (e :: es) [] pos) (tCB r t) := by
  intro pins s σ H Q I h
  refine wpAny_Call_Name_kw (ld_blt I hg hm hv ?_ hn hdb)
  exact PyProof.Rows.callWith_type1 (thn (ha pos pins s σ H _ I h) fun us s1 ⟨vs, H1, I1, r1, q1⟩ => hc pins s1 σ H1 vs us Q I1 r1 q1) he hpl
end
end L2

namespace HT
open PySem PyProof.Rows

section
open PySem.SeqAt
open PySem.AutoSeq1 (wpAny_loadPart')
open PySem.MeetsSeq PySem.MeetsSeq2 PySem.MeetsSeq3

end

section
variable {prog : Program} {w : World} {A : Around} {E : Value → Shared → Prop} {s : Shared}

/-! ### t[a:b], not the whole -/
/-- a slice's bound as a place among n (d where it is left out) -/
def sIx (n d : Nat) : Option Int → Nat
  | none => d
  | some v => if v < 0 then (v + (n : Int)).toNat else min v.toNat n
theorem sIx_none (n d : Nat) : sIx n d none = d := rfl
theorem sIx_nat (n d k : Nat) : sIx n d (some (k : Int)) = min k n := by
  show (if (k : Int) < 0 then ((k : Int) + (n : Int)).toNat else min (k : Int).toNat n) = min k n
  rw [if_neg (by omega), Int.toNat_natCast]
end
end HT

namespace L2
open PySem PySem.Spec PyProof.Rows

/-! ### the parts of a slice -/
abbrev TO := St → Hp → (Option Int → Hp → Prop) → Prop
/-- a slice's part (left out, or an int) -/
def PO (X : Cx) (e : Option Expr) (t : TO) : Prop :=
  ∀ (pins : List (Addr × Obj)) (s : Shared) (σ : St) (H : Hp) (Q : Option Int → Hp → Prop), Inv X pins σ H s → t σ H Q →
    wpAny (model X.prog X.w) X.A (evalPart e X.env) (fun u s' => ∃ o H', Inv X pins σ H' s' ∧ IsPart u o ∧ Q o H') X.xe s
def tNoPart : TO := fun _ H Q => Q none H
def tPart (t : TE) : TO := fun σ H Q => t σ H fun x H1 => ∃ i, x = .int i ∧ Q (some i) H1

section
variable {X : Cx} {e : Expr} {te : TE} {lo hi : Option Expr} {tl th : TO} {pos p2 : Pos}

theorem po_none : PO X none tNoPart := by
  intro pins s σ H Q I h
  rw [evalPart_none]
  exact wpAny_pure ⟨none, H, I, .none, h⟩
theorem po_some (h : PE X e te) : PO X (some e) (tPart te) := by
  intro pins s σ H Q I hw
  rw [evalPart_some]
  refine thn (h pins s σ H _ I hw) fun u s1 ⟨x, H1, I1, r1, q1⟩ => ?_
  obtain ⟨i, rfl, q⟩ := q1
  obtain ⟨t, rfl⟩ := r1
  exact ⟨some i, H1, I1, .int i t, q⟩

/-- what a slice of a value is, by values: the slice object stands at sl -/
def SlR (X : Cx) (r : V → Option Int → Option Int → Hp → VK → Prop) : Prop :=
  ∀ (pins : List (Addr × Obj)) (s : Shared) (σ : St) (H : Hp) (x : V) (v vl vu : Value) (lo hi : Option Int) (sl : Addr) (Q : VK), Inv X pins σ H s → RelV x v → s.heap.IsSliceOf sl vl vu .none → IsPart vl lo → IsPart vu hi → r x lo hi H Q →
    ∃ T id, typeLookup (.type T) "__getitem__" = pure (some (.builtin id)) ∧ s.TypeIs v T ∧ wpAny (model X.prog X.w) X.A (getItem v (.ref sl)) (EP X pins σ Q) X.xe s
theorem SlR.or {r r' : V → Option Int → Option Int → Hp → VK → Prop} (h : SlR X r) (h' : SlR X r') : SlR X (fun x lo hi H Q => r x lo hi H Q ∨ r' x lo hi H Q) := by
  intro pins s σ H x v vl vu lo hi sl Q I rx hs pl pu q
  rcases q with q | q
  · exact h pins s σ H x v vl vu lo hi sl Q I rx hs pl pu q
  · exact h' pins s σ H x v vl vu lo hi sl Q I rx hs pl pu q
def tSl (r : V → Option Int → Option Int → Hp → VK → Prop) (te : TE) (tl th : TO) : TE := fun σ H Q => te σ H fun x H1 => tl σ H1 fun l H2 => th σ H2 fun u H3 => r x l u H3 Q
/-- a[lo:hi], any a -/
theorem pe_slice {r : V → Option Int → Option Int → Hp → VK → Prop} (hr : SlR X r) (he : PE X e te) (hl : PO X lo tl) (hu : PO X hi th) : PE X (.Subscript e (.Slice lo hi none p2) pos) (tSl r te tl th) := by
  intro pins s σ H Q I h
  refine Subscript_ (thn (he pins s σ H _ I h) fun v s1 ⟨x, H1, I1, r1, q1⟩ => ?_)
  refine wpAny_Slice (thn (hl pins s1 σ H1 _ I1 q1) fun vl s2 ⟨l, H2, I2, pl, q2⟩ => thn (hu pins s2 σ H2 _ I2 q2) fun vu s3 ⟨u, H3, I3, pu, q3⟩ => ?_)
  rw [evalPart_none]
  refine wpAny_pure ?_
  have I4 : Inv X pins σ H3 { s3 with heap := s3.heap.push { cls := .type "slice", data := .fields #[vl, vu, .none] } } := I3.kept (t' := s3.toks) fun b ob q => Heap.get?_push_of_some _ q
  obtain ⟨T, id, hT, ht, hg⟩ := hr pins { s3 with heap := s3.heap.push { cls := .type "slice", data := .fields #[vl, vu, .none] } } σ H3 x v vl vu l u s3.heap.objs.size Q I4 r1 (Heap.IsSliceOf.new ..) pl pu q3
  show wpAny (model X.prog X.w) X.A (subscriptTail e (.Slice lo hi none p2) v (.ref s3.heap.objs.size)) (EP X pins σ Q) X.xe { s3 with heap := s3.heap.push { cls := .type "slice", data := .fields #[vl, vu, .none] } }
  exact tail_any (ops := [.ref s3.heap.objs.size, v]) ht hT hg (by with_unfolding_all rfl)

/-- the items of xs[lo:hi] -/
def cutV (xs : List V) (lo hi : Option Int) : List V := (xs.drop (HT.sIx xs.length 0 lo)).take (HT.sIx xs.length xs.length hi - HT.sIx xs.length 0 lo)
theorem cutV_length (xs : List V) (lo hi : Option Int) : (cutV xs lo hi).length ≤ xs.length := by
  unfold cutV
  rw [List.length_take, List.length_drop]
  omega
/-! ### t < u, t + u -/
end
end L2

namespace L2
open PySem PySem.Spec PyProof.Rows

/-! ### places -/
/-- the place that an index of any sign means -/
def ixN (n : Nat) (i : Int) : Option Nat := if 0 ≤ i then (if i < n then some i.toNat else none) else if -(n : Int) ≤ i then some (i + n).toNat else none
def atI {α : Type} (xs : List α) (i : Int) : Option α := (ixN xs.length i).bind fun j => xs[j]?
theorem ixN_seq {n : Nat} {i : Int} {j : Nat} (h : ixN n i = some j) : seqIndex? i n = some j ∧ j < n ∧ -(n : Int) ≤ i ∧ i < n := by
  unfold ixN at h
  by_cases h0 : 0 ≤ i
  · rw [if_pos h0] at h
    by_cases h1 : i < n
    · rw [if_pos h1] at h
      have e : i.toNat = j := Option.some.inj h
      exact ⟨by rw [seqIndex_of h0 h1, e], by omega, by omega, h1⟩
    · rw [if_neg h1] at h; cases h
  · rw [if_neg h0] at h
    by_cases h1 : -(n : Int) ≤ i
    · rw [if_pos h1] at h
      have e : (i + n).toNat = j := Option.some.inj h
      exact ⟨by rw [seqIndex_neg (by omega) h1, e], by omega, h1, by omega⟩
    · rw [if_neg h1] at h; cases h
theorem atI_get {α : Type} {xs : List α} {i : Int} {v : α} (h : atI xs i = some v) : ∃ j, seqIndex? i xs.length = some j ∧ xs[j]? = some v ∧ j < xs.length ∧ -(xs.length : Int) ≤ i ∧ i < xs.length := by
  unfold atI at h
  cases e : ixN xs.length i with
  | none => rw [e] at h; cases h
  | some j =>
    rw [e] at h
    obtain ⟨h1, h2, h3, h4⟩ := ixN_seq e
    exact ⟨j, h1, h, h2, h3, h4⟩
theorem atI_nat {α : Type} {xs : List α} {j : Nat} {v : α} (h : xs[j]? = some v) : atI xs (j : Int) = some v := by
  have hj : j < xs.length := (List.getElem?_eq_some_iff.mp h).1
  have e : ixN xs.length (j : Int) = some j := by
    unfold ixN
    rw [if_pos (by omega), if_pos (by omega)]; simp
  unfold atI; rw [e]; exact h
theorem atI_last {α : Type} (xs : List α) (v : α) : atI (xs ++ [v]) (-1) = some v := by
  have hl : (xs ++ [v]).length = xs.length + 1 := by simp
  have e : ixN (xs ++ [v]).length (-1) = some xs.length := by
    unfold ixN
    rw [hl, if_neg (by decide), if_pos (by omega)]
    congr 1
    omega
  unfold atI
  rw [e]
  show (xs ++ [v])[xs.length]? = some v
  simp

/-! ### what may be subscripted -/
/-- what stands as an index of a plain subscript -/
def PlainIx (b : Expr) : Prop := ∀ o i, subscripted b false o i = operate [o, i] (getItem o i)
/-- a subscript by values -/
def IxR (X : Cx) (r : R2) : Prop :=
  ∀ (value slice : Expr) (pins : List (Addr × Obj)) (s : Shared) (σ : St) (H : Hp) (x y : V) (v u : Value) (Q : VK), Inv X pins σ H s → RelV x v → RelV y u → r x y H Q →
    subscripted slice false v u = operate [v, u] (getItem v u) → wpAny (model X.prog X.w) X.A (subscriptTail value slice v u) (EP X pins σ Q) X.xe s
/-- a call of a builtin's method by values: the receiver, the arguments -/
def MtR (X : Cx) (id : String) (r : V → List V → Hp → VK → Prop) : Prop :=
  ∀ (pins : List (Addr × Obj)) (s : Shared) (σ : St) (H : Hp) (x : V) (xs : List V) (v : Value) (us : List Value) (Q : VK), Inv X pins σ H s → RelV x v → Vals xs us → r x xs H Q →
    wpAny (model X.prog X.w) X.A (call (.builtin id) (v :: us)) (EP X pins σ Q) X.xe s
section
variable {X : Cx} {a b : Expr} {ta tb : TE} {pos : Pos}
theorem IxR.or {r r' : R2} (h : IxR X r) (h' : IxR X r') : IxR X (fun x y H Q => r x y H Q ∨ r' x y H Q) := by
  intro value slice pins s σ H x y v u Q I rx ry q hs
  rcases q with q | q
  · exact h value slice pins s σ H x y v u Q I rx ry q hs
  · exact h' value slice pins s σ H x y v u Q I rx ry q hs
theorem MtR.or {id : String} {r r' : V → List V → Hp → VK → Prop} (h : MtR X id r) (h' : MtR X id r') : MtR X id (fun x xs H Q => r x xs H Q ∨ r' x xs H Q) := by
  intro pins s σ H x xs v us Q I rx rs q
  rcases q with q | q
  · exact h pins s σ H x xs v us Q I rx rs q
  · exact h' pins s σ H x xs v us Q I rx rs q
/-- a[b] -/
theorem pe_ix {r : R2} (hr : IxR X r) (ha : PE X a ta) (hb : PE X b tb) (hs : PlainIx b) : PE X (.Subscript a b pos) (tOp r ta tb) := by
  intro pins s σ H Q I h
  exact Subscript_ (binT ha hb I h fun v u s2 x y H2 I2 rx ry q => hr a b pins s2 σ H2 x y v u Q I2 rx ry q (hs _ _))

def rIxL (K : PySem.W.Frag) : R2 := fun x y H Q => ∃ p xs i v, x = .ref p ∧ y = .int i ∧ SqL K H p xs ∧ atI xs i = some v ∧ Q v H
def rIxT (K : PySem.W.Frag) : R2 := fun x y H Q => ∃ p xs i v, x = .ref p ∧ y = .int i ∧ SqT K H p xs ∧ atI xs i = some v ∧ Q v H
theorem ix_list : IxR X (rIxL X.K) := by
  intro value slice pins s σ H x y v u Q I rx ry h hs
  obtain ⟨p, xs, i, z, rfl, rfl, hq, he, q⟩ := h
  cases rx
  obtain ⟨t, rfl⟩ := ry
  obtain ⟨its, r, pl, hz⟩ := I.list hq
  obtain ⟨j, h1, h2, h3, h4, h5⟩ := atI_get he
  obtain ⟨w, ew, rw'⟩ := r.get h2
  have hl := r.length
  have hn := line63
  have fin : EP X pins σ Q w s := ⟨z, H, I, rw', q⟩
  by_cases h0 : 0 ≤ i
  · have hj : i.toNat = j := by
      rw [seqIndex_of h0 h5] at h1
      exact Option.some.inj h1
    exact item_listR pl.isList h0 (by omega) (by rw [hj]; simpa using ew) fin hs
  · have hj : (i + (its.toArray.size : Int)).toNat = j := by
      rw [seqIndex_neg (by omega) h4] at h1
      rw [List.size_toArray, ← hl]
      exact Option.some.inj h1
    exact subscriptTail_builtinR (x := w) pl.isList.typeIs slot_list_getitem.lookup
      (wpAny_getItem_list_neg (Q := fun r s' => r = w ∧ EP X pins σ Q r s') pl.isList (by omega) (by rw [List.size_toArray] <;> omega) (by omega) (by rw [hj]; simpa using ew) ⟨rfl, fin⟩) hs
theorem ix_tup : IxR X (rIxT X.K) := by
  intro value slice pins s σ H x y v u Q I rx ry h hs
  obtain ⟨p, xs, i, z, rfl, rfl, hq, he, q⟩ := h
  cases rx
  obtain ⟨t, rfl⟩ := ry
  obtain ⟨its, r, pl, hz⟩ := I.tuple hq
  obtain ⟨j, h1, h2, h3, h4, h5⟩ := atI_get he
  obtain ⟨w, ew, rw'⟩ := r.get h2
  have hl := r.length
  have hn := line63
  have fin : EP X pins σ Q w s := ⟨z, H, I, rw', q⟩
  exact subscriptTail_builtinR (x := w) pl.typeIs slot_tuple_getitem.lookup
    (getItem_tuple (j := j) (Q := fun r s' => r = w ∧ EP X pins σ Q r s') pl (by omega) (by omega) (by rw [List.size_toArray, ← hl]; exact h1) (by simpa using ew) ⟨rfl, fin⟩) hs
/-! ### xs[i] = v, any sign -/
/-- the list's object behind a store -/
theorem mapSeq_set (its : List Value) (n j : Nat) (u : Value) : Obj.mapSeq (·.setIfInBounds j u) { cls := .type "list", data := .seq its.toArray n } = { cls := .type "list", data := .seq (its.set j u).toArray n } := by
  simp [Obj.mapSeq]
theorem Inv.lst {pins : List (Addr × Obj)} {σ : St} {H : Hp} {s : Shared} {p : Addr} {xs : List V} (I : Inv X pins σ H s) (h : H p = some (.lst xs)) :
    ∃ (its : List Value) (n : Nat), Vals xs its ∧ s.heap.get? p = some { cls := .type "list", data := .seq its.toArray n } ∧ xs.length ≤ sizeLine := by
  obtain ⟨z, its, n, r, e⟩ := I.hok p _ h
  exact ⟨its, n, r, e, z⟩
/-- the list at p is written by an update of its object -/
theorem Inv.lstUpd {pins : List (Addr × Obj)} {σ : St} {H : Hp} {s : Shared} {p : Addr} {xs ys : List V} {its its' : List Value} {n n' : Nat} {f : Obj → Obj} (I : Inv X pins σ H s) (h : H p = some (.lst xs))
    (ho : s.heap.get? p = some { cls := .type "list", data := .seq its.toArray n }) (hf : f { cls := .type "list", data := .seq its.toArray n } = { cls := .type "list", data := .seq its'.toArray n' }) (r : Vals ys its') (hz : ys.length ≤ sizeLine) (t : Nat) :
    Inv X pins σ (upd H p (.lst ys)) { s with heap := s.heap.update p f, toks := t } := by
  have e : (s.heap.update p f).get? p = some { cls := .type "list", data := .seq its'.toArray n' } := by
    rw [Heap.get?_update_self f ho (by rw [hf] <;> rfl), hf]
  refine I.write (x := p) (e := p) (by rw [h]; trivial) (.inl rfl) (fun b u hb q => (Heap.get?_update_other _ _ (Ne.symm hb)).trans q) ⟨_, e⟩ ?_
  exact ⟨hz, its', n', r, e⟩
def rSetL : V → V → V → Hp → (Hp → Prop) → Prop := fun o i v H Q => ∃ p xs k j, o = .ref p ∧ i = .int k ∧ H p = some (.lst xs) ∧ ixN xs.length k = some j ∧ Q (upd H p (.lst (xs.set j v)))
theorem set_list : PSet X rSetL := by
  intro pins s σ H o i v ov iv u Q I ro ri rv h
  obtain ⟨p, xs, k, j, rfl, rfl, hp, hj, q⟩ := h
  cases ro
  obtain ⟨t, rfl⟩ := ri
  obtain ⟨its, n, r, ho, hz⟩ := I.lst hp
  obtain ⟨h1, h2, h3, h4⟩ := ixN_seq hj
  have hl := r.length
  have hn := line63
  have I' : Inv X pins σ (upd H p (.lst (xs.set j v))) { s with heap := s.heap.update p (Obj.mapSeq (·.setIfInBounds j u)) } :=
    I.lstUpd hp ho (mapSeq_set its n j u) (r.set rv j) (by rw [List.length_set]; exact hz) s.toks
  by_cases h0 : 0 ≤ k
  · have hk : k.toNat = j := by
      rw [seqIndex_of h0 h4] at h1
      exact Option.some.inj h1
    exact PySem.W.ki_setAt ho h0 (by omega) (by rw [List.size_toArray, ← hl]; exact h4) (by rw [hk]; exact ⟨_, I', q⟩)
  · have hk : (k + (its.toArray.size : Int)).toNat = j := by
      rw [seqIndex_neg (by omega) h3] at h1
      rw [List.size_toArray, ← hl]
      exact Option.some.inj h1
    exact PySem.W.ki_setBack ho (by omega) (by rw [List.size_toArray, ← hl]; exact h3) (by omega) (by rw [hk]; exact ⟨_, I', q⟩)

/-! ### slices -/
theorem slice_bounds (lo hi : Option Int) (n : Nat) : (sliceBounds lo hi none n).1 = ((HT.sIx n 0 lo : Nat) : Int) ∧ (sliceBounds lo hi none n).2.1 = ((HT.sIx n n hi : Nat) : Int) ∧ (sliceBounds lo hi none n).2.2 = 1 := by
  refine ⟨?_, ?_, rfl⟩
  · cases lo with
    | none => simp [sliceBounds, HT.sIx]
    | some i =>
      simp only [sliceBounds, HT.sIx, Option.getD_none, show (1 : Int) > 0 by decide, if_true]
      by_cases h : i < 0
      · simp only [h, if_true] <;> omega
      · simp only [h, if_false] <;> omega
  · cases hi with
    | none => simp [sliceBounds, HT.sIx]
    | some i =>
      simp only [sliceBounds, HT.sIx, Option.getD_none, show (1 : Int) > 0 by decide, if_true]
      by_cases h : i < 0
      · simp only [h, if_true] <;> omega
      · simp only [h, if_false] <;> omega
theorem slicePick_cut (its : List Value) (lo hi : Option Int) : slicePick its.toArray lo hi none = ((its.drop (HT.sIx its.length 0 lo)).take (HT.sIx its.length its.length hi - HT.sIx its.length 0 lo)).toArray := by
  obtain ⟨h1, h2, h3⟩ := slice_bounds lo hi its.toArray.size
  unfold slicePick
  rw [h1, h2, h3]
  simp only [sliceRange_one, pick_run, List.size_toArray] <;> rfl
/-- xs[lo:hi] of a list: a new list -/
def rSlL (K : PySem.W.Frag) : V → Option Int → Option Int → Hp → VK → Prop := fun x lo hi H Q => ∃ a xs, x = .ref a ∧ SqL K H a xs ∧ ∀ p, H p = none → Q (.ref p) (upd H p (.lst (cutV xs lo hi)))
theorem sl_list : SlR X (rSlL X.K) := by
  intro pins s σ H x v vl vu lo hi sl Q I rx hs pl pu h
  obtain ⟨a, xs, rfl, hx, q⟩ := h
  cases rx
  obtain ⟨its, r, ht, hz⟩ := I.list hx
  have hlen := r.length
  refine ⟨"list", _, slot_list_getitem.lookup, ht.isList.typeIs, ?_⟩
  refine wpAny_getItem_list_slice ht.isList hs pl pu .none (by simp) ?_ (by rw [List.size_toArray] <;> omega)
  rw [slicePick_cut, ← hlen]
  refine ⟨.ref s.heap.objs.size, _, I.laid (t' := s.toks) (o := .lst (cutV xs lo hi)) (fun b ob q => Heap.get?_push_of_some _ q) (Nat.le_refl _) ?_, rfl, q _ (I.hok.fresh (Nat.le_refl _))⟩
  exact ⟨Nat.le_trans (cutV_length xs lo hi) hz, _, 0, (r.drop (HT.sIx xs.length 0 lo)).take (HT.sIx xs.length xs.length hi - HT.sIx xs.length 0 lo), Heap.get?_push_size _ rfl⟩

/-! ### in, not in: flat items -/
def flatV : V → Bool
  | .non => true
  | .bl _ => true
  | .int _ => true
  | .str _ => true
  | _ => false
/-- == of flat values -/
def eqV : V → V → Bool
  | .non, .non => true
  | .bl a, .bl b => a == b
  | .bl a, .int b => (if a then 1 else 0) == b
  | .int a, .bl b => a == (if b then 1 else 0)
  | .int a, .int b => a == b
  | .str a, .str b => a == b
  | _, _ => false
theorem eqAt_V {A : Around} {s : Shared} {y x : V} {u v : Value} (ry : RelV y u) (rx : RelV x v) (fy : flatV y = true) (fx : flatV x = true) : SeqAt.EqAt A s u v (eqV y x) := by
  cases y with
  | non =>
    cases ry
    cases x with
    | non => cases rx; exact SeqAt.EqAt.same _
    | bl b => cases rx; exact SeqAt.EqAt.none_bool b
    | int b => obtain ⟨t, rfl⟩ := rx; exact SeqAt.EqAt.none_int b t
    | str b => obtain ⟨t, rfl⟩ := rx; exact SeqAt.EqAt.none_str b t
    | _ => exact absurd (show false = true from fx) Bool.false_ne_true
  | bl a =>
    cases ry
    cases x with
    | non => cases rx; exact SeqAt.EqAt.bool_none a
    | bl b => cases rx; exact SeqAt.EqAt.bool_bool a b
    | int b => obtain ⟨t, rfl⟩ := rx; exact SeqAt.EqAt.bool_int a b t
    | str b => obtain ⟨t, rfl⟩ := rx; exact SeqAt.EqAt.bool_str a b t
    | _ => exact absurd (show false = true from fx) Bool.false_ne_true
  | int a =>
    obtain ⟨t', rfl⟩ := ry
    cases x with
    | non => cases rx; exact SeqAt.EqAt.int_none a t'
    | bl b => cases rx; exact SeqAt.EqAt.int_bool a t' b
    | int b => obtain ⟨t, rfl⟩ := rx; exact SeqAt.EqAt.int_int a t' b t
    | str b => obtain ⟨t, rfl⟩ := rx; exact SeqAt.EqAt.int_str a t' b t
    | _ => exact absurd (show false = true from fx) Bool.false_ne_true
  | str a =>
    obtain ⟨t', rfl⟩ := ry
    cases x with
    | non => cases rx; exact SeqAt.EqAt.str_none a t'
    | bl b => cases rx; exact SeqAt.EqAt.str_bool a t' b
    | int b => obtain ⟨t, rfl⟩ := rx; exact SeqAt.EqAt.str_int a t' b t
    | str b => obtain ⟨t, rfl⟩ := rx; exact SeqAt.EqAt.str_str a t' b t
    | _ => exact absurd (show false = true from fx) Bool.false_ne_true
  | _ => exact absurd (show false = true from fy) Bool.false_ne_true
/-- the items' answers, read off the values (a value's own answer does not lean on its token) -/
def eqU (x : V) (u : Value) : Bool := match u with
  | .none => eqV .non x
  | .bool b => eqV (.bl b) x
  | .int i _ => eqV (.int i) x
  | .str z _ => eqV (.str z) x
  | _ => false
theorem eqU_of {x y : V} {u : Value} (r : RelV y u) (f : flatV y = true) : eqU x u = eqV y x := by
  cases y with
  | non => cases r; rfl
  | bl b => cases r; rfl
  | int i => obtain ⟨t, rfl⟩ := r; rfl
  | str z => obtain ⟨t, rfl⟩ := r; rfl
  | _ => exact absurd (show false = true from f) Bool.false_ne_true
theorem any_eqU {x : V} : ∀ {xs : List V} {us : List Value}, Vals xs us → xs.all flatV = true → us.any (eqU x) = xs.any fun y => eqV y x
  | _, _, .nil, _ => rfl
  | y :: xs, u :: us, .cons r t, f => by
    rw [List.all_cons, Bool.and_eq_true] at f
    rw [List.any_cons, List.any_cons, eqU_of r f.1, any_eqU t f.2]
theorem mem_eqAt {A : Around} {s : Shared} {x : V} {v : Value} (rx : RelV x v) (fx : flatV x = true) : ∀ {xs : List V} {us : List Value}, Vals xs us → xs.all flatV = true → ∀ u ∈ us, SeqAt.EqAt A s u v (eqU x u)
  | _, _, .nil, _ => fun u hu => by cases hu
  | y :: xs, u :: us, .cons r t, f => fun u' hu => by
    rw [List.all_cons, Bool.and_eq_true] at f
    rcases List.mem_cons.mp hu with rfl | hu
    · rw [eqU_of r f.1]; exact eqAt_V r rx f.1 fx
    · exact mem_eqAt rx fx t f.2 u' hu
def inV (x : V) (xs : List V) : Bool := xs.any fun y => eqV y x
/-- x in a list or tuple of flat items -/
def rIn (K : PySem.W.Frag) (neg : Bool) : R2 := fun x y H Q => ∃ p xs, y = .ref p ∧ (SqL K H p xs ∨ SqT K H p xs) ∧ flatV x = true ∧ xs.all flatV = true ∧ Q (.bl (if neg then !inV x xs else inV x xs)) H
theorem op_in_seq : OpR X (compareOp .In) (rIn X.K false) := by
  intro pins s σ H x y v u Q I rx ry h
  obtain ⟨p, xs, rfl, hq, fx, fs, q⟩ := h
  cases ry
  rcases hq with hq | hq
  · obtain ⟨its, r, pl, hz⟩ := I.list hq
    refine SeqAt.in_listAt (eqU x) pl.isList (fun w hw => mem_eqAt rx fx r fs w (by simpa using hw)) ⟨.bl _, H, I, rfl, ?_⟩
    rw [show its.toArray.any (eqU x) = its.any (eqU x) by simp, any_eqU r fs]
    exact q
  · obtain ⟨its, r, pl, hz⟩ := I.tuple hq
    refine SeqAt.in_tupleAt (eqU x) pl (fun w hw => mem_eqAt rx fx r fs w (by simpa using hw)) ⟨.bl _, H, I, rfl, ?_⟩
    rw [show its.toArray.any (eqU x) = its.any (eqU x) by simp, any_eqU r fs]
    exact q
theorem op_notIn_seq : OpR X (compareOp .NotIn) (rIn X.K true) := by
  intro pins s σ H x y v u Q I rx ry h
  obtain ⟨p, xs, rfl, hq, fx, fs, q⟩ := h
  cases ry
  rcases hq with hq | hq
  · obtain ⟨its, r, pl, hz⟩ := I.list hq
    refine SeqAt.notIn_listAt (eqU x) pl.isList (fun w hw => mem_eqAt rx fx r fs w (by simpa using hw)) ⟨.bl _, H, I, rfl, ?_⟩
    rw [show its.toArray.any (eqU x) = its.any (eqU x) by simp, any_eqU r fs]
    exact q
  · obtain ⟨its, r, pl, hz⟩ := I.tuple hq
    refine SeqAt.notIn_tupleAt (eqU x) pl (fun w hw => mem_eqAt rx fx r fs w (by simpa using hw)) ⟨.bl _, H, I, rfl, ?_⟩
    rw [show its.toArray.any (eqU x) = its.any (eqU x) by simp, any_eqU r fs]
    exact q
/-! ### len, list(x), tuple(x) of any list or tuple that is read -/
theorem call_len_seq : CallR X (.builtin "len") (fun xs H Q => ∃ p ys, xs = [.ref p] ∧ (SqL X.K H p ys ∨ SqT X.K H p ys) ∧ Q (.int ys.length) H) := by
  intro pins s σ H xs us Q I r h
  obtain ⟨p, ys, rfl, hq, q⟩ := h
  obtain ⟨u, rfl, rx⟩ := vals1 r
  cases rx
  have hn := line63
  rcases hq with hq | hq
  · obtain ⟨its, r', pl, hz⟩ := I.list hq
    have hlen := r'.length
    exact Calls.call_len_list pl.isList (by simp only [List.size_toArray] <;> omega) ⟨.int ys.length, H, I.tok _, ⟨s.toks + 1, by rw [List.size_toArray, hlen]⟩, q⟩
  · obtain ⟨its, r', pl, hz⟩ := I.tuple hq
    have hlen := r'.length
    exact len_tuple pl (by simp only [List.size_toArray] <;> omega) ⟨.int ys.length, H, I.tok _, ⟨s.toks + 1, by rw [List.size_toArray, hlen]⟩, q⟩
theorem CallR.or {f : Value} {r r' : List V → Hp → VK → Prop} (h : CallR X f r) (h' : CallR X f r') : CallR X f (fun xs H Q => r xs H Q ∨ r' xs H Q) := by
  intro pins s σ H xs us Q I rs q
  rcases q with q | q
  · exact h pins s σ H xs us Q I rs q
  · exact h' pins s σ H xs us Q I rs q
theorem call_list_of : CallR X (.type "list") (fun xs H Q => ∃ p ys, xs = [.ref p] ∧ (SqL X.K H p ys ∨ SqT X.K H p ys) ∧ ∀ l, H l = none → Q (.ref l) (upd H l (.lst ys))) := by
  intro pins s σ H xs us Q I r h
  obtain ⟨p, ys, rfl, hq, q⟩ := h
  obtain ⟨u, rfl, rx⟩ := vals1 r
  cases rx
  have fin : ∀ (its : List Value), Vals ys its → ys.length ≤ sizeLine → ∀ (h' : Heap) (c' : Nat), (∀ b o', s.heap.get? b = some o' → h'.get? b = some o') →
      h'.get? s.heap.objs.size = some { cls := .type "list", dict := none, data := .seq its.toArray c', slots := #[] } → EP X pins σ Q (.ref s.heap.objs.size) { s with heap := h' } := fun its r' hz h' c' kp e =>
    ⟨.ref s.heap.objs.size, _, I.laid (t' := s.toks) kp (Nat.le_refl _) (show ObjOk X.prog X.w _ h' _ (.lst ys) from ⟨hz, its, c', r', e⟩), rfl, q _ (I.hok.fresh (Nat.le_refl _))⟩
  rcases hq with hq | hq
  · obtain ⟨its, r', pl, hz⟩ := I.list hq
    have hlen := r'.length
    obtain ⟨o, ho, hc, n, hd⟩ := pl.isList
    exact call_list_seq p (.inl rfl) ho hc hd (fun h' c' kp e => fin its r' hz h' c' kp e) (by simp only [List.size_toArray] <;> omega)
  · obtain ⟨its, r', pl, hz⟩ := I.tuple hq
    have hlen := r'.length
    obtain ⟨o, ho, hc, n, hd⟩ := pl
    exact call_list_seq p (.inr rfl) ho hc hd (fun h' c' kp e => fin its r' hz h' c' kp e) (by simp only [List.size_toArray] <;> omega)
theorem call_tuple_of : CallR X (.type "tuple") (fun xs H Q => ∃ p ys, xs = [.ref p] ∧ ((SqL X.K H p ys ∧ ∀ l, H l = none → Q (.ref l) (upd H l (.tup ys))) ∨ (SqT X.K H p ys ∧ Q (.ref p) H))) := by
  intro pins s σ H xs us Q I r h
  obtain ⟨p, ys, rfl, h⟩ := h
  obtain ⟨u, rfl, rx⟩ := vals1 r
  cases rx
  rcases h with ⟨hq, q⟩ | ⟨hq, q⟩
  · obtain ⟨its, r', pl, hz⟩ := I.list hq
    have hlen := r'.length
    refine call_tuple_list pl.isList (fun h' kp => ?_) (by simp only [List.size_toArray] <;> omega)
    have I1 : Inv X pins σ H { s with heap := h' } := I.kept (t' := s.toks) kp
    have I2 : Inv X pins σ (upd H h'.objs.size (.tup ys)) { s with heap := h'.push { cls := .type "tuple", data := .seq its.toArray } } :=
      I1.laid (t' := s.toks) (fun b o e => Heap.get?_push_of_some _ e) (Nat.le_refl _) (show ObjOk X.prog X.w _ _ _ (.tup ys) from ⟨hz, its, r', IsTup.new _ _⟩)
    exact ⟨.ref h'.objs.size, _, I2, rfl, q _ (I1.hok.fresh (Nat.le_refl _))⟩
  · obtain ⟨its, r', pl, hz⟩ := I.tuple hq
    exact call_tuple_same pl ⟨.ref p, H, I, rfl, q⟩

/-! ### the call of a builtin's method: o.m(..) -/
/-- the value is of that builtin type -/
def tyV (K : PySem.W.Frag) (T : String) (x : V) (H : Hp) : Prop := match x with
  | .str _ => T = "str"
  | .int _ => T = "int"
  | .ref p => (T = "list" ∧ ∃ xs, SqL K H p xs) ∨ (T = "tuple" ∧ ∃ o, K.lookup p = some o ∧ o.cls = .type "tuple" ∧ o.dict = none) ∨
      (T = "dict" ∧ ((∃ kvs, H p = some (.dK kvs)) ∨ ∃ kvs, H p = some (.dT kvs))) ∨ (T = "set" ∧ ∃ S n, H p = some (.set S n))
  | _ => False
theorem tyV_is {pins : List (Addr × Obj)} {σ : St} {H : Hp} {s : Shared} {T : String} {x : V} {v : Value} (I : Inv X pins σ H s) (r : RelV x v) (ty : tyV X.K T x H) :
    s.TypeIs v T ∧ ∀ a, v = .ref a → ∃ ob, s.heap.get? a = some ob ∧ ob.dict = none := by
  cases x with
  | str z =>
    obtain ⟨t, rfl⟩ := r
    cases (show T = "str" from ty)
    exact ⟨typeIs_str s z t, fun _ e => nomatch e⟩
  | int i =>
    obtain ⟨t, rfl⟩ := r
    cases (show T = "int" from ty)
    exact ⟨typeIs_int s i t, fun _ e => nomatch e⟩
  | ref p =>
    cases r
    rcases ty with ⟨rfl, xs, hq⟩ | ⟨rfl, o, hk, hc, hd⟩ | ⟨rfl, hk⟩ | ⟨rfl, S, n, hk⟩
    · obtain ⟨its, _, pl, _⟩ := I.list hq
      refine ⟨pl.isList.typeIs, fun a e => ?_⟩
      cases e
      obtain ⟨o, n, e, c, hd, _⟩ := pl
      exact ⟨o, e, hd⟩
    · refine ⟨⟨o, I.kIn p o hk, hc⟩, fun a e => ?_⟩
      cases e
      exact ⟨o, I.kIn _ o hk, hd⟩
    · have z : ∃ o, s.heap.get? p = some o ∧ o.ExactDict := by
        rcases hk with ⟨kvs, hk⟩ | ⟨kvs, hk⟩
        · obtain ⟨_, _, _, _, o, _, _, e, ex, _⟩ := I.hok p _ hk
          exact ⟨o, e, ex⟩
        · obtain ⟨_, _, _, _, o, _, _, e, ex, _⟩ := I.hok p _ hk
          exact ⟨o, e, ex⟩
      obtain ⟨o, e, ex⟩ := z
      refine ⟨⟨o, e, ex.1⟩, fun a e2 => ?_⟩
      cases e2
      exact ⟨o, e, ex.2.1⟩
    · obtain ⟨o, _, _, _, e, ex, _⟩ := I.hok p _ hk
      refine ⟨⟨o, e, ex.1⟩, fun a e2 => ?_⟩
      cases e2
      exact ⟨o, e, ex.2.1⟩
  | _ => exact False.elim ty
def tBM (K : PySem.W.Frag) (T : String) (r : V → List V → Hp → VK → Prop) (to : TE) (t : TA) : TE := fun σ H Q => to σ H fun x H1 => tyV K T x H1 ∧ t σ H1 fun xs H2 => r x xs H2 Q
variable {o e : Expr} {es : List Expr} {to : TE} {t : TA} {name : Str} {apos cpos : Pos} {T id : String} {r : V → List V → Hp → VK → Prop}
theorem pe_bm (pa : PlainAttrs T) (slot : Slot T name id) (hty : typeOf (.builtin id) = pure (.type "method_descriptor")) (hm : MtR X id r) (ho : PE X o to) (ha : PA X (e :: es) t)
    (hbase : attributeBase o name X.env (eval o X.env) = eval o X.env := by rfl)
    (hfew : ((backTo cpos (starEach (e :: es) X.env)).all (fun x => !x.1) && (backToKw cpos (keywordEach [] X.env)).all (fun x => x.1.isSome)
      && decide ((e :: es).length + ([] : List Keyword).length + (if ([] : List Keyword).isEmpty then 0 else 1) < 30)) = true := by rfl)
    (hline : (apos.endLine == cpos.line) = true := by rfl) (hs : starEach (e :: es) X.env = (false, eval e X.env) :: starEach es X.env := by rfl) (hplain : (backTo cpos (starEach es X.env)).any (·.1) = false := by rfl) :
    PE X (.Call (.Attribute o name apos) (e :: es) [] cpos) (tBM X.K T r to t) := by
  intro pins s σ H Q I h
  refine wpAny_Call_method_late hbase hfew hline rfl (thn (ho pins s σ H _ I h) fun v s1 ⟨x, H1, I1, r1, ty, q1⟩ => ?_)
  obtain ⟨h1, h2⟩ := tyV_is I1 r1 ty
  refine ⟨T, id, pa, slot, hty, h1, h2, ?_⟩
  have hA := ha cpos pins s1 σ H1 _ I1 q1
  rw [hs] at hA ⊢
  refine Calls.callWith_builtin (by show (false || (backTo cpos (starEach es X.env)).any (·.1)) = false; rw [hplain] <;> rfl) (Calls.evalArgs_plain ?_)
  exact thn hA fun us s2 ⟨vs, H2, I2, r2, q2⟩ => hm pins s2 σ H2 x vs v us Q I2 r1 r2 q2
/- xs.append(e), list.index on a module's tuple .. are MtR facts of 06m -/
end
end L2

namespace L2
open PySem PySem.Spec PyProof.Rows

def MtM (X : Cx) (id : String) (r : V → List V → Hp → VK → Prop) : Prop :=
  ∀ (pins : List (Addr × Obj)) (s : Shared) (σ : St) (H : Hp) (x : V) (xs : List V) (v : Value) (us : List Value) (Q : VK), Inv X pins σ H s → RelV x v → Vals xs us → r x xs H Q →
    wpAny (model X.prog X.w) X.A (call (.builtin id) (v :: us)) (EP X pins σ Q) X.xe s

/-! ### lists of values -/
theorem Vals.one : ∀ {x : V} {us : List Value}, Vals [x] us → ∃ u, us = [u] ∧ RelV x u
  | _, _, .cons r .nil => ⟨_, rfl, r⟩
theorem Vals.two : ∀ {x y : V} {us : List Value}, Vals [x, y] us → ∃ u v, us = [u, v] ∧ RelV x u ∧ RelV y v
  | _, _, _, .cons r (.cons q .nil) => ⟨_, _, rfl, r, q⟩
theorem Vals.zero : ∀ {us : List Value}, Vals [] us → us = []
  | _, .nil => rfl
theorem Vals.eraseIdx : ∀ {xs : List V} {us : List Value} (i : Nat), Vals xs us → Vals (xs.eraseIdx i) (us.eraseIdx i)
  | _, _, _, .nil => .nil
  | _, _, 0, .cons _ t => t
  | _, _, i + 1, .cons r t => .cons r (Vals.eraseIdx i t)
theorem Vals.reverse {xs : List V} {us : List Value} (h : Vals xs us) : Vals xs.reverse us.reverse := by
  induction h with
  | nil => exact .nil
  | cons r t ih => rw [List.reverse_cons, List.reverse_cons]; exact Vals.append ih (.cons r .nil)
theorem Vals.rep {xs : List V} {us : List Value} (h : Vals xs us) : ∀ k : Nat, Vals (List.replicate k xs).flatten (List.replicate k us).flatten
  | 0 => .nil
  | k + 1 => by
    rw [List.replicate_succ, List.replicate_succ, List.flatten_cons, List.flatten_cons]
    exact Vals.append h (Vals.rep h k)
theorem len_erase {α : Type} : ∀ (l : List α) (i : Nat), (l.eraseIdx i).length ≤ l.length
  | [], _ => Nat.le_refl _
  | _ :: _, 0 => Nat.le_succ _
  | _ :: r, i + 1 => Nat.succ_le_succ (len_erase r i)
section
variable {X : Cx} {pins : List (Addr × Obj)} {σ : St} {H : Hp} {s : Shared} {l b : Addr} {xs ys zs : List V}

/-! ### the two steps: a tracked list is rewritten, a new list is laid -/
theorem Inv.lset {its its' : List Value} {n : Nat} {f : Array Value → Array Value} {t' : Nat} (I : Inv X pins σ H s) (hH : H l = some (.lst xs))
    (e : s.heap.get? l = some { cls := .type "list", data := .seq its.toArray n }) (hf : f its.toArray = its'.toArray) (hv : Vals ys its') (hz : ys.length ≤ sizeLine) :
    Inv X pins σ (upd H l (.lst ys)) { s with heap := s.heap.update l (Obj.mapSeq f), toks := t' } := by
  have q := PySem.IsL.update e f
  rw [hf] at q
  refine I.write (x := l) (e := l) (by rw [hH]; exact trivial) (.inl rfl) (fun b' u hb hu => (Heap.get?_update_other s.heap (Obj.mapSeq f) (Ne.symm hb)).trans hu) ⟨_, q⟩ ?_
  exact ⟨hz, its', _, hv, q⟩
theorem Inv.lnew {its : List Value} {t' : Nat} (I : Inv X pins σ H s) (hv : Vals ys its) (hz : ys.length ≤ sizeLine) :
    Inv X pins σ (upd H s.heap.objs.size (.lst ys)) { s with heap := s.heap.push { cls := .type "list", data := .seq its.toArray }, toks := t' } :=
  I.laid (fun _ _ q => Heap.get?_push_of_some _ q) (Nat.le_refl _) ⟨hz, its, 0, hv, Heap.get?_push_size _ rfl⟩
theorem Inv.fresh (I : Inv X pins σ H s) : H s.heap.objs.size = none := I.hok.fresh (Nat.le_refl _)
theorem Inv.lstM (I : Inv X pins σ H s) (hH : H l = some (.lst xs)) : xs.length ≤ sizeLine ∧ ∃ (its : List Value) (n : Nat), Vals xs its ∧ xs.length = its.length ∧ s.heap.get? l = some { cls := .type "list", data := .seq its.toArray n } := by
  obtain ⟨z, its, n, r, e⟩ := I.hok l _ hH
  exact ⟨z, its, n, r, r.length, e⟩

theorem notLongL {n : Nat} (h : n ≤ sizeLine) : Builtin.List.listTooLong n = false := by
  unfold Builtin.List.listTooLong
  exact decide_eq_false (by omega)
end

section
variable {X : Cx}

/-! ### methods -/
def rAppend : V → List V → Hp → VK → Prop := fun x vs H Q => ∃ l xs y, x = .ref l ∧ vs = [y] ∧ H l = some (.lst xs) ∧ xs.length < sizeLine ∧ Q .non (upd H l (.lst (xs ++ [y])))
theorem mt_append : MtM X "list.append" rAppend := by
  intro pins s σ H x vs v us Q I rx rv h
  obtain ⟨l, xs, y, rfl, rfl, hH, hz, q⟩ := h
  cases rx
  obtain ⟨u, rfl, ru⟩ := rv.one
  obtain ⟨z, its, n, r, hl, e⟩ := I.lstM hH
  refine call_meets F.slot_list_append ⟨_, e, rfl⟩ F.entry_list_append (F.args_list_append_2 _ _) (PySem.list_append l its.toArray n u (by rw [List.size_toArray]; omega)) ⟨e, ?_⟩
  refine ⟨.non, _, I.lset (its' := its ++ [u]) hH e (by simp) (r.append (.cons ru .nil)) ?_, rfl, q⟩
  rw [List.length_append, List.length_singleton]
  omega

def rExtend : V → List V → Hp → VK → Prop := fun x vs H Q => ∃ l b xs zs, x = .ref l ∧ vs = [.ref b] ∧ H l = some (.lst xs) ∧ H b = some (.lst zs) ∧ xs.length + zs.length ≤ sizeLine ∧ Q .non (upd H l (.lst (xs ++ zs)))
theorem mt_extend : MtM X "list.extend" rExtend := by
  intro pins s σ H x vs v us Q I rx rv h
  obtain ⟨l, b, xs, zs, rfl, rfl, hH, hB, hz, q⟩ := h
  cases rx
  obtain ⟨u, rfl, ru⟩ := rv.one
  cases ru
  obtain ⟨z, its, n, r, hl, e⟩ := I.lstM hH
  obtain ⟨z2, its2, n2, r2, hl2, e2⟩ := I.lstM hB
  have hsz : its.toArray.size + its2.toArray.size ≤ sizeLine := by rw [List.size_toArray, List.size_toArray]; omega
  have hlong : ¬ (!its.toArray.isEmpty && Builtin.List.listTooLong (its.toArray.size + its2.toArray.size)) = true := by
    rw [notLongL hsz, Bool.and_false]
    exact Bool.false_ne_true
  refine call_meets F.slot_list_extend ⟨_, e, rfl⟩ F.entry_list_extend (F.args_list_extend_2 _ _)
    (AutoSeq1.list_extend_list_list_0 l its.toArray n b its2.toArray n2 hlong (by rw [List.size_toArray]; omega) (by omega)) ⟨e, e2, ?_⟩
  refine ⟨.non, _, I.lset (its' := its ++ its2) hH e (by simp) (r.append r2) ?_, rfl, q⟩
  rw [List.length_append]
  omega

def rPopAt : V → List V → Hp → VK → Prop := fun x vs H Q => ∃ l xs i k y, x = .ref l ∧ vs = [.int i] ∧ H l = some (.lst xs) ∧ -(2 ^ 63) ≤ i ∧ i < 2 ^ 63 ∧ seqIndex? i xs.length = some k ∧ xs[k]? = some y ∧ Q y (upd H l (.lst (xs.eraseIdx k)))
theorem mt_popAt : MtM X "list.pop" rPopAt := by
  intro pins s σ H x vs v us Q I rx rv h
  obtain ⟨l, xs, i, k, y, rfl, rfl, hH, h1, h2, hk, hy, q⟩ := h
  cases rx
  obtain ⟨u, rfl, ru⟩ := rv.one
  obtain ⟨t, rfl⟩ := ru
  obtain ⟨z, its, n, r, hl, e⟩ := I.lstM hH
  obtain ⟨w, hw, rw'⟩ := r.get hy
  refine call_meets F.slot_list_pop ⟨_, e, rfl⟩ F.entry_list_pop (F.args_list_pop_2 _ _)
    (MeetsSeq.list_pop_at l its.toArray n i t k w (fitsIndex_both h1 h2) (by rw [List.size_toArray, ← hl]; exact hk) (by rw [← Array.getElem?_toList]; exact hw) (by rw [List.size_toArray]; omega)) ⟨e, ?_⟩
  refine ⟨y, _, I.lset (its' := its.eraseIdx k) hH e ?_ (r.eraseIdx k) ?_, rw', q⟩
  · show its.toArray.eraseIdxIfInBounds k = (its.eraseIdx k).toArray
    rw [List.eraseIdxIfInBounds_toArray]
  · have := len_erase xs k
    omega

/-! ### list + list, list += list, list * int -/
/-! ### del xs[i] -/
end

/-! ### xs[a:b] = ys -/
section
variable {prog : Program} {w : World} {A : Around} {E : Value → Shared → Prop} {s : Shared}
end

section
variable {X : Cx}
end
end L2

namespace Att
open PySem PySem.W PySem.Calls PyProof.Rows

/-! ### the script -/
theorem ints_of_wellAll {P : Params} {h : Heap} : ∀ (ns : List Int) (vs : List Value), WellAll P h vs (ns.map WData.int) → IntsAre vs ns := by
  intro ns
  induction ns with
  | nil =>
    intro vs w
    rw [List.map_nil] at w
    cases w
    exact .nil
  | cons n ns ih =>
    intro vs w
    rw [List.map_cons] at w
    cases w with
    | cons a b =>
      cases a
      exact .cons _ _ (ih _ b)

theorem script_of {l : OpenLaw} {n : Nat} (hn : l.most = some n) {P : Params} {h : Heap} {args : List WData} {vals : List Value}
    (hpre : l.row.toRowW.claim.pre args = true) (hwl : WellAll P h vals args) :
    ∃ a vs ns, vals = [Value.ref a] ∧ args = [WData.list (ns.map WData.int)] ∧ h.get? a = some { cls := .type "list", data := .seq vs.toArray } ∧ IntsAre vs ns ∧ ns.length ≤ n := by
  have hsh : WShape.hasAll [] args [.list .int] = true := (pre_splitW hpre).1
  have hc : l.pre.holds [] { args := args } = true := (pre_splitW hpre).2
  obtain ⟨d, r, rfl, h1, h2⟩ := hasAllW_cons hsh
  obtain rfl := hasAllW_nil h2
  obtain ⟨xs, rfl, h3⟩ := hasW_list h1
  obtain ⟨ns, rfl⟩ := items_int h3
  have hlen : ns.length ≤ n := by
    unfold OpenLaw.pre at hc
    have h4 : (WTm.not (.lt (.lit (.int (n : Int))) (.len (.arg 0)))).holds [] { args := [.list (ns.map .int)] } = true := by
      have h4 := (holds_andW hc).1
      rw [hn] at h4
      exact h4
    have h5 := condW_of h4 (w_not (w_lt w_lit (w_len_list (w_arg rfl))))
    rw [List.length_map] at h5
    refine Nat.le_of_not_lt fun q => ?_
    have q' : (n : Int) < ((ns.length : Nat) : Int) := by omega
    first
      | (rw [decide_eq_true q'] at h5; exact absurd h5 (by decide))
      | (simp at h5; omega)
  cases hwl with
  | cons w1 w2 =>
    cases w2
    cases w1 with
    | list ho hall => exact ⟨_, _, ns, rfl, rfl, ho, ints_of_wellAll ns _ hall, hlen⟩

theorem post_true (l : OpenLaw) (args : List WData) : l.row.toRowW.claim.post args (.bool true) args = true :=
  postW_of (r := l.row.toRowW) (X := (true == true))
    (show WShape.has [] (.bool true) .bool = true by first | rfl | decide | simp [WShape.has, WShape.arms, WShape.armsAll])
    (show (WTm.eq .res (.lit (.bool true))).value [] { args := args, res := some (.bool true), after := args } = some (.bool (true == true)) from w_eq_bool (w_res rfl) w_lit) rfl

/-! ### the attachment: holds_open's last premise (the goal 'hc' behind k_head) from a wpAny of the law's body -/
/-- the same from a codeAny of the CALL (for a layer whose function contracts speak of calls) -/
theorem attach_call {l : OpenLaw} {n : Nat} {q : Program} {loose : List Str} {XP : (Str → Option Value) → Heap → Prop} {YP : World → Heap → Prop} {d : DefRec}
    (hn : l.most = some n) (hdf : d.params.defaults = [])
    (call : ∀ (w : World) (s₀ s₁ : Shared) (mg mb : Str → Option Value) (fa : Addr) (o : Obj) (pm cd doc : Value) (a : Addr) (vs : List Value) (ns : List Int),
      Ground q loose [] XP w s₀ mg mb s₁.heap → YP w s₁.heap →
      s₁.heap.get? fa = some o → o.data = .func (docDef d.name d.params d.body d.scope pm cd doc) → s₁.heap.CodeRec cd d.name → mg d.name = some (.ref fa) →
      s₁.heap.get? a = some { cls := .type "list", data := .seq vs.toArray } → IntsAre vs ns → ns.length ≤ n → s₁.gens = #[] →
      codeAny (model l.prog w) callerA (.call (.ref fa) ⟨[.ref a], []⟩) (fun r s' => r = .ok (.ret (.bool true)) ∧ OldK s₁.heap s'.heap ∧ s'.os = s₁.os ∧ AllBare s'.gens) s₁) :
    WalkO q loose XP YP l.row.toRowW d [] (fun f vs => PySem.call f vs) := by
  intro w s₀ s₁ mg mb G Y fa o pm cd doc dV kV ho hd hcd hD hmg hg args vals as hpre hlay hrd hwl hlo
  obtain rfl : dV = .none := Dflts.none hD hdf
  obtain rfl : kV = .none := Dflts.noKw hD
  obtain ⟨a, vs, ns, rfl, rfl, hobj, hints, hlen⟩ := script_of hn hpre hwl
  refine enter_call (codeAny_mono (call w s₀ s₁ mg mb fa o pm cd doc a vs ns G Y ho (fd_plain hd) hcd hmg hobj hints hlen hg) fun r s' hq => ?_)
  obtain ⟨rfl, h2, h3, h4⟩ := hq
  exact ⟨.inl ⟨.bool true, .bool true, [], rfl, fun _ => rfl, .bool true, post_true l _, fun _ => ⟨List.Pairwise.nil, fun _ hm => (nomatch hm)⟩⟩, h2, h3, h4⟩

/-! ### rules over ANY heap (no ledger) from facts about the written part K: the library's own take a ledger (News) for what they write -/
section
variable {prog : Program} {w : World} {A : Around} {E : Value → Shared → Prop} {s : Shared} {K : Frag}

/-! the whole heap as the ledger: makes every rule that writes through a ledger a rule over any heap -/
end
end Att

namespace L2
open PySem PySem.Spec PyProof.Rows

theorem vals_ints : ∀ {vs : List Value} {ns : List Int}, IntsAre vs ns → Vals (ns.map V.int) vs
  | _, _, .nil => .nil
  | _, _, .cons n t h => .cons ⟨t, rfl⟩ (vals_ints h)

/-- nothing is tracked but the script, known to the object (or it is an object of the module) -/
def Only (H : Hp) : Prop := ∀ b, H b = none ∨ ∃ o xs, H b = some (.frz o (.lst xs))

/-- THE HEAD: the law's promise, at the heap behind the top. F, the promise of the law's def, may use that base is part of the heap (so K.In base, base.Ns mainGlobals mg stand in Mod) -/
theorem law_call {P : Program} {w : World} {K : PySem.W.Frag} {mg mb : Str → Option Value} {CX : CXT} {k : Nat} {fa a : Addr} {fd : FuncData} {x : Str} {sp : Sp} {s₁ : Shared} {vs : List Value} {ns : List Int}
    (KX : K.In s₁.heap) (hns : s₁.heap.Ns mainGlobals mg) (hb : s₁.heap.Ns builtinsNs mb) (hbb : ∀ x : Str, x ≠ "__name__" → mb x = bootBuiltins x) (hlim : s₁.heap.NoLimit) (hg : s₁.gens = #[])
    (ha : s₁.heap.get? a = some { cls := .type "list", data := .seq vs.toArray }) (hi : IntsAre vs ns) (hl : ns.length ≤ sizeLine) (hr : Room k callerA)
    (F : ∀ base : Heap, K.In base → base.Ns mainGlobals mg → FnOk P w K mg base CX k fa fd [x] sp) (hbind : ∀ (s : Shared) (u : Value), BindsTo s fd ⟨[u], []⟩ [(x, u)])
    (hsp : ∀ H : Hp, Only H → SqL K H a (ns.map V.int) → sp [.ref a] H (fun v _ => v = .bl true) fun _ _ _ => False)
    (hCX : ∀ H e s', CX [] H s₁ (fun _ _ _ => False) e s' → False) :
    codeAny (model P w) callerA (.call (.ref fa) ⟨[.ref a], []⟩) (fun r s' => r = .ok (.ret (.bool true)) ∧ OldK s₁.heap s'.heap ∧ s'.os = s₁.os ∧ AllBare s'.gens) s₁ := by
  have rv := vals_ints hi
  have lenV := hi.length
  -- from an abstract heap in which nothing but the script may be tracked
  have core : ∀ H : Hp, Only H → SqL K H a (ns.map V.int) → HOk P w H s₁.heap → (∀ b, H b ≠ none → b = a) → (H a ≠ none → K.lookup a = none) →
      codeAny (model P w) callerA (.call (.ref fa) ⟨[.ref a], []⟩) (fun r s' => r = .ok (.ret (.bool true)) ∧ OldK s₁.heap s'.heap ∧ s'.os = s₁.os ∧ AllBare s'.gens) s₁ := by
    intro H hO hS hok hA hK
    have base_of : ∀ {b : Addr} {o : Obj}, s₁.heap.get? b = some o → H b = none → (hidT s₁.heap H).get? b = some o := fun e n => hidT_get e n
    have noA : ∀ {b : Addr} {o : Obj} {es : Array DictEntry} {ep : Nat}, s₁.heap.get? b = some o → o.data = .dict es ep → H b = none := fun {b o es ep} e d => by
      cases q : H b with
      | none => rfl
      | some u =>
        have e' : b = a := hA b (by rw [q]; simp)
        subst e'
        rw [ha] at e; cases e
        have d' : Data.seq vs.toArray _ = Data.dict es ep := d
        cases d'
    have nsK : ∀ {b : Addr} {m : Str → Option Value}, s₁.heap.Ns b m → (hidT s₁.heap H).Ns b m := fun {b m} ⟨o, es, ep, e, d, r⟩ => ⟨o, es, ep, base_of e (noA e d), d, r⟩
    have hKb : K.In (hidT s₁.heap H) := fun b o e => base_of (KX b o e) (by
      cases q : H b with
      | none => rfl
      | some u =>
        have e' : b = a := hA b (by rw [q]; simp)
        subst e'
        rw [hK (by rw [q]; simp)] at e; cases e)
    have hM : Mod K mg (hidT s₁.heap H) := ⟨hKb, nsK hns, ⟨mb, nsK hb, hbb⟩, let ⟨mc, h1, h2⟩ := hlim; ⟨mc, nsK h1, h2⟩⟩
    have e0 : Env0 P w K mg (hidT s₁.heap H) callerA [] s₁ H := ⟨rfl, hM, fun b o e => of_hidT e, Nat.le_of_eq (hidT_size _ _), trivial, fun b hb => absurd (show b ∈ ([] : List Addr) from hb) (by simp), hok, .of_eq hg⟩
    refine codeAny_mono ((F _ hKb (nsK hns)).run callerA [] s₁ H ⟨[.ref a], []⟩ [.ref a] [.ref a] _ _ hr e0 (hbind s₁ (.ref a)) (.cons rfl .nil) (hsp H hO hS)) fun r s' h => ?_
    cases r with
    | error e => exact (hCX H e s' h).elim
    | ok fl =>
      cases fl with
      | next => exact False.elim h
      | brk => exact False.elim h
      | cont => exact False.elim h
      | ret u =>
        obtain ⟨v, H', os, bare, un, hok', r', q⟩ := h
        have q' : v = .bl true := q
        subst q'
        obtain rfl : u = Value.bool true := r'
        refine ⟨rfl, OldK.of_keep fun b o e => ?_, os, bare⟩
        cases q : H b with
        | none => exact un.keep b o e q (by intro z; exact absurd (show b ∈ ([] : List Addr) from z) (by simp)) (by simp)
        | some u =>
          rcases hO b with z | ⟨ob, xs, z⟩
          · rw [q] at z; cases z
          · have z2 := un.frzs b ob _ z
            obtain ⟨e1, _⟩ := hok b _ z
            obtain ⟨e2, _⟩ := hok' b _ z2
            rw [e] at e1; cases e1
            exact e2
  cases hk : K.lookup a with
  | some o =>
    -- the script is one of the module's own objects
    have e := KX a o hk
    rw [ha] at e
    cases e
    refine core (fun _ => none) (fun _ => .inl rfl) (.inr ⟨_, vs.toArray, _, hk, rfl, rfl, rfl, by rw [List.size_toArray, lenV]; exact hl, by simpa using rv⟩) (fun b u z => by have z' : (none : Option HO) = some u := z; cases z') (fun b z => absurd rfl z) fun z => absurd rfl z
  | none =>
    refine core (fun b => if b = a then some (.frz { cls := .type "list", data := .seq vs.toArray } (.lst (ns.map V.int))) else none) (fun b => ?_) (.inl (.inr ⟨{ cls := .type "list", data := .seq vs.toArray }, if_pos rfl⟩)) (fun b u z => ?_) (fun b z => ?_) fun _ => hk
    · by_cases hb : b = a
      · exact .inr ⟨_, _, if_pos hb⟩
      · exact .inl (if_neg hb)
    · by_cases hb : b = a
      · have z' := (if_pos hb).symm.trans z
        cases z'
        subst hb
        exact ⟨ha, by rw [List.length_map]; exact hl, vs, _, rv, ha⟩
      · have z' := (if_neg hb).symm.trans z
        cases z'
    · by_cases hb : b = a
      · exact hb
      · exact absurd (if_neg hb) z
end L2

namespace L2
open PySem PySem.Spec PyProof.Rows

abbrev KOf {K : PySem.W.Frag} {h : Heap} (_ : K.In h) : PySem.W.Frag := K

/-- the goal that k_head leaves (case hc), from the law's promise. F gives the function object fd (K's own) once, then the promise over every base -/
theorem walk_of {l : PySem.W.OpenLaw} {n k : Nat} {q : Program} {loose : List Str} {XP : (Str → Option Value) → Heap → Prop} {YP : World → Heap → Prop} {d : DefRec} {K : Params → PySem.W.Frag} {CX : World → CXT} {sp : World → Sp} {x : Str}
    (hn : l.most = some n) (hn2 : n ≤ sizeLine) (hdf : d.params.defaults = []) (hr : Room k callerA)
    (hY : ∀ (w : World) (h : Heap), YP w h → (K w.params).In h)
    (F : ∀ (w : World) (mg : Str → Option Value) (fa : Addr) (h : Heap), (K w.params).In h → h.Ns mainGlobals mg → mg d.name = some (.ref fa) →
      ∃ fd : FuncData, (∀ (s : Shared) (u : Value), BindsTo s fd ⟨[u], []⟩ [(x, u)]) ∧
        ∀ base : Heap, (K w.params).In base → base.Ns mainGlobals mg → FnOk l.prog w (K w.params) mg base (CX w) k fa fd [x] (sp w))
    (hsp : ∀ (w : World) (H : Hp) (a : Addr) (ns : List Int), ns.length ≤ n → Only H → SqL (K w.params) H a (ns.map V.int) → sp w [.ref a] H (fun v _ => v = .bl true) fun _ _ _ => False)
    (hCX : ∀ (w : World) (H : Hp) (s : Shared) (e : Value) (s' : Shared), CX w [] H s (fun _ _ _ => False) e s' → False) :
    PySem.W.WalkO q loose XP YP l.row.toRowW d [] (fun f vs => PySem.call f vs) := by
  refine Att.attach_call hn hdf fun w s₀ s₁ mg mb fa o pm cd doc a vs ns G Y ho hd hcd hmg hobj hints hlen hg => ?_
  have KX := hY w _ Y
  obtain ⟨fd, hb, hF⟩ := F w mg fa _ KX G.T.g hmg
  exact law_call KX G.T.g G.T.b G.T.builtins G.T.nolimit hg hobj hints (Nat.le_trans hlen hn2) hr hF hb (fun H hO hS => hsp w H a ns hlen hO hS) fun H e s' => hCX w H s₁ e s'
end L2


/-! SHORT WORDS over the layer: a def of the text, its body, what a loop and a test want. -/
namespace L2
open PySem PySem.Spec PyProof.Rows

/-! ### the text by places -/
def defArgs (s : Stmt) : Arguments := match s with
  | .FunctionDef _ a _ _ _ _ _ _ _ _ => a
  | _ => { posonlyargs := [], args := [], vararg := none, kwonlyargs := [], kw_defaults := [], kwarg := none, defaults := [] }
def defBody (s : Stmt) : List Stmt := match s with
  | .FunctionDef _ _ b _ _ _ _ _ _ _ => b
  | _ => []
def defScope (s : Stmt) : Scope := match s with
  | .FunctionDef _ _ _ _ _ _ sc _ _ _ => sc
  | _ => { kind := .function, names := [], isGenerator := false, isCoroutine := false }

/-! ### no exception leaves a def -/
abbrev CX0 : CXT := fun _ _ _ _ _ _ => False
abbrev E0 : XK := fun _ _ _ => False
/-! ### a def (or method) of the text as it stands behind the top -/
structure Fun (K : PySem.W.Frag) (x qual : Str) (st : Stmt) (f : Addr) (fd : FuncData) : Prop where
  ex : ∃ (oc : Value) (od : Option Addr) (kV doc pm : Value) (an : Option Addr) (cdv ct : Value) (osl : Array (Option Value)),
    fd = PySem.W.fnOf x qual (defArgs st) (defBody st) (defScope st) .none kV doc pm an cdv ct ∧ K.lookup f = some ⟨oc, od, .func fd, osl⟩ ∧ PySem.W.codeIn K cdv qual = true
  kp : PySem.W.keepIn K (.ref f) = true
section
variable {P : Program} {w : World} {K : PySem.W.Frag} {mg : Str → Option Value} {base : Heap}
/-- THE RULE for a def: its body as a term of rules, and the reading of that term -/
theorem Fun.ok {x qual : Str} {st : Stmt} {f : Addr} {fd : FuncData} {N ps : List Str} {k : Nat} {sp : Sp} (F : Fun K x qual st f fd) (S : FnScope N ps (defScope st)) (len : ∀ vs H Q E, sp vs H Q E → vs.length = ps.length)
    (hbody : ∀ (cdv : Value) (A : Around) (outer : List Env) (s : Shared) (H : Hp) (vs : List V) (Q : VK) (E : XK), Room k (A.deeper (envOfC qual (defScope st) s.heap.objs.size f cdv)) → sp vs H Q E →
      ∃ t, PSs (cxOf CX0 P w K mg base N qual (defScope st) f cdv A outer s H E).nox (defBody st) t ∧ t { nx := fun _ H' => Q .non H', rt := Q } (start N vs) H) : FnOk P w K mg base CX0 (k + 1) f fd ps sp := by
  obtain ⟨oc, od, kV, doc, pm, an, cdv, ct, osl, rfl, lk, hcd⟩ := F.ex
  refine fn_of lk hcd S len fun A outer s H vs Q E hr hsp => ?_
  obtain ⟨t, h, q⟩ := hbody cdv A outer s H vs Q E hr hsp
  exact ⟨t, h.nox, q⟩
/-- how its arguments bind (no defaults): h is «fun _ _ _ _ _ _ us hl => match us, hl with | [_, _], _ => rfl», one _ a parameter -/
theorem Fun.binds {x qual : Str} {st : Stmt} {f : Addr} {fd : FuncData} {ps : List Str} (F : Fun K x qual st f fd)
    (h : ∀ (kV doc pm : Value) (an : Option Addr) (cdv ct : Value) (us : List Value), us.length = ps.length → bindArgs (PySem.W.fnOf x qual (defArgs st) (defBody st) (defScope st) .none kV doc pm an cdv ct) ⟨us, []⟩ = pure (ps.zip us)) : Binds K fd ps [] := by
  obtain ⟨oc, od, kV, doc, pm, an, cdv, ct, osl, rfl, lk, hcd⟩ := F.ex
  exact .all (h kV doc pm an cdv ct)
theorem fun_mk {x qual : Str} {st : Stmt} {f : Addr} {oc : Value} {od an : Option Addr} {osl : Array (Option Value)} {kV doc pm cdv ct : Value} (l : K.lookup f = some ⟨oc, od, .func (PySem.W.fnOf x qual (defArgs st) (defBody st) (defScope st) .none kV doc pm an cdv ct), osl⟩)
    (c : PySem.W.codeIn K cdv qual = true) (k : PySem.W.keepIn K (.ref f) = true) : Fun K x qual st f (PySem.W.fnOf x qual (defArgs st) (defBody st) (defScope st) .none kV doc pm an cdv ct) := ⟨⟨oc, od, kV, doc, pm, an, cdv, ct, osl, rfl, l, c⟩, k⟩
end
/-! ### expressions in short: the name that stands in the i-th slot -/
section
variable {X : Cx}
theorem pv (i : Nat) {x : Str} {pos : Pos} (hN : X.N[i]? = some x := by rfl) (hv : Vis X.env.scope x := by first | exact Or.inl rfl | exact Or.inr (Or.inl rfl) | exact Or.inr (Or.inr rfl)) (hd : (x == ("__debug__" : Str)) = false := by decide)
    (hcd : (x == ("__classdict__" : Str)) = false := by decide) : PE X (.Name x pos) (tVar i) := pe_var hN hv hd hcd
end

/-! ### tests -/
theorem iteF {A B : Prop} (h : B) : if false = true then A else B := by
  rw [if_neg Bool.false_ne_true]
  exact h
theorem iteT {A B : Prop} (h : A) : if true = true then A else B := by
  rw [if_pos rfl]
  exact h
/-! ### heaps -/
/-- all that was tracked is as it was -/
def Same (H H' : Hp) : Prop := ∀ b o, H b = some o → H' b = some o
theorem Same.refl (H : Hp) : Same H H := fun _ _ h => h
theorem Same.trans {H H1 H2 : Hp} (a : Same H H1) (b : Same H1 H2) : Same H H2 := fun c o h => b c o (a c o h)
theorem Same.free {H H' : Hp} (e : Same H H') {l : Addr} (h : H' l = Option.none) : H l = Option.none := by
  cases q : H l with
  | none => rfl
  | some o =>
    rw [e l o q] at h
    cases h
theorem Same.seq {K : PySem.W.Frag} {H H' : Hp} {a : Addr} {xs : List V} (e : Same H H') (h : SqL K H a xs) : SqL K H' a xs := by
  rcases h with (h | ⟨o, h⟩) | h
  · exact .inl (.inl (e _ _ h))
  · exact .inl (.inr ⟨o, e _ _ h⟩)
  · exact .inr h

end L2
namespace L2
open PySem PySem.Spec PyProof.Rows

/-! ### a comprehension's block -/
/-! the cells of a block: its own, then the closure's -/
section
variable {M : Model} {A : Around} {E : Value → Shared → Prop} {s : Shared}
end
section
variable {prog : Program} {w : World} {A : Around} {R : Result → Shared → Prop} {s : Shared}
end
end L2
namespace L2
open PySem PySem.Spec PyProof.Rows

/-- the names of a block: ix tells of each the outer slot that it is read from, or none (its own) -/
structure CompScope (X : Cx) (Nc : List Str) (ix : List (Option Nat)) (scope : Scope) : Prop where
  kind : scope.kind = .function
  nd : Nc.Nodup
  len : ix.length = Nc.length
  loc : ∀ x ∈ scope.names, x.2 = .local → scope.names.lookup x.1 = some .local
  free : ∀ x ∈ scope.names, x.2 = .free → X.env.kindOf x.1 = some .cell ∨ X.env.kindOf x.1 = some .free
  once : ∀ x, (x, NameKind.free) ∈ scope.names → (x, NameKind.cell) ∉ scope.names
  out : ∀ (i j : Nat) (x : Str), ix[i]? = some (some j) → Nc[i]? = some x → X.N[j]? = some x ∧ scope.names.lookup x = some .free

section
variable {X : Cx} {pins : List (Addr × Obj)} {σ : St} {H : Hp} {s : Shared} {Nc : List Str} {ix : List (Option Nat)} {scope : Scope} {fp : List Addr}

theorem CompScope.cells (S : CompScope X Nc ix scope) (I : Inv X pins σ H s) : ∀ x ∈ scope.names, x.2 = .free → ∃ c, X.env.cells.lookup x.1 = some c := fun x hx hf => I.ok.has x.1 (S.free x hx hf)

end

section
variable {X : Cx} {tg elt iter : Expr} {ifs : List Expr} {scope : Scope} {pos : Pos} {wi : TI} {g : TG} {tt : TT} {te : TE} {Nc : List Str} {ix : List (Option Nat)}

end
end L2
namespace L2
open PySem PySem.Spec PyProof.Rows

/-! ### exceptions of one's own classes: raised, passed on, caught -/
/-- an exception of the class at C, its object at a, has left all frames but those of outer. B: what stood at the raise, but the frames -/
structure Thrown (P : Program) (w : World) (outer : List Env) (H : Hp) (s : Shared) (a C : Addr) (a0 : Value) (B : Heap) (H' : Hp) (s' : Shared) : Prop where
  os : s'.os = s.os
  bare : AllBare s'.gens
  un : Un (frs outer) [] H H' s.heap s'.heap
  hok : HOk P w H' s'.heap
  fly : Heap.FlyingW B outer a (.ref C) a0 s'.heap
  cov : ∀ b o, s.heap.get? b = some o → b ∉ frs outer → ∃ o', B.get? b = some o'
  trk : ∀ b u, H' b = some u → ∃ o', B.get? b = some o'
def CX1 (P : Program) (w : World) : CXT := fun outer H s E e s' => ∃ (a C : Addr) (a0 : Value) (B : Heap) (H' : Hp), e = .ref a ∧ Thrown P w outer H s a C a0 B H' s' ∧ E (.ref C) none H'

theorem frs_mem {l : List Env} {b : Addr} {base h : Heap} (F : h.FunFrames base l) (hb : b ∈ frs l) : base.get? b = none ∧ ∃ o, h.get? b = some o ∧ ∀ vs, o.data ≠ .fields vs := F.mem hb

/-- from a heap in which B stands to a later one -/
theorem un_later {outer : List Env} {H H' : Hp} {h h1 h2 B : Heap} (u : Un (frs outer) [] H H' h h1) (F : h1.FunFrames B outer) (hB1 : B.StaysIn h1) (hB2 : B.StaysIn h2) (up : h1.UpToSlots h2)
    (cov : ∀ b o, h.get? b = some o → b ∉ frs outer → ∃ o', B.get? b = some o') : Un (frs outer) [] H H' h h2 := by
  have at2 : ∀ b o, h.get? b = some o → b ∉ frs outer → ∀ o1, h1.get? b = some o1 → h2.get? b = some o1 := fun b o e hb o1 e1 => by
    obtain ⟨o', eB⟩ := cov b o e hb
    have q := hB1 b o' eB
    rw [e1] at q; cases q
    exact hB2 b _ eB
  refine ⟨fun b o e n hb hx => at2 b o e hb o (u.keep b o e n hb hx), fun b o e n hb hx => ?_, u.free, fun b o e hx => ?_, u.tups, u.frzs, u.tbls⟩
  · obtain ⟨sl, e1⟩ := u.slot b o e n hb hx
    obtain ⟨_, o1, q1, q2⟩ := frs_mem F hb
    rw [e1] at q1; cases q1
    obtain ⟨sl2, e2⟩ := up b _ e1 q2
    exact ⟨sl2, e2⟩
  · obtain ⟨o1, e1⟩ := u.there b o e hx
    by_cases hb : b ∈ frs outer
    · obtain ⟨_, o2, q1, q2⟩ := frs_mem F hb
      obtain ⟨sl2, e2⟩ := up b _ q1 q2
      exact ⟨_, e2⟩
    · exact ⟨o1, at2 b o e hb o1 e1⟩
theorem hok_later {P : Program} {w : World} {H : Hp} {h1 h2 B : Heap} (x : HOk P w H h1) (hB1 : B.StaysIn h1) (hB2 : B.StaysIn h2) (trk : ∀ b u, H b = some u → ∃ o', B.get? b = some o') : HOk P w H h2 := fun b o e => by
  refine (x b o e).stay (fun c u hc q => ?_) (fun _ q => q) fun _ _ q => q
  have ht : ∃ o', B.get? c = some o' := by
    rcases hc with z | z
    · rw [z]; exact trk b o e
    · exact trk c _ z
  obtain ⟨o', eB⟩ := ht
  have q1 := hB1 c o' eB
  rw [q] at q1; cases q1
  exact hB2 c _ eB

/-- a def's body as its exceptions see it -/
structure Body (X : Cx) (E : XK) : Prop where
  xe : X.xe = fun e s' => wpAny (model X.prog X.w) X.A (leaving X.env e) (fun _ s'' => CX1 X.prog X.w X.outer X.H₀ X.s₀ E e s'') (fun e' s'' => CX1 X.prog X.w X.outer X.H₀ X.s₀ E e' s'') s'
  stk : X.stack = X.env :: X.outer
  fr : X.env.frame = some X.env.locals
  ex : X.ex = []
section
variable {X : Cx} {E : XK} {pins : List (Addr × Obj)} {σ : St} {H : Hp} {s : Shared}
theorem Inv.old (I : Inv X pins σ H s) {b : Addr} {o : Obj} (e : X.s₀.heap.get? b = some o) : b ≠ X.env.locals := Nat.ne_of_lt (Nat.lt_of_lt_of_le (Heap.lt_size e) I.ok.above)
theorem Body.base (Bd : Body X E) (I : Inv X pins σ H s) : Un X.fs [] X.H₀ H X.s₀.heap s.heap := by
  have q := I.base
  rw [Bd.ex] at q
  exact q
theorem Body.notin (Bd : Body X E) {b : Addr} (h1 : b ≠ X.env.locals) (h2 : b ∉ frs X.outer) : b ∉ frs X.stack := by
  rw [Bd.stk]
  intro z
  obtain ⟨env, he, hf⟩ := List.mem_filterMap.mp z
  rcases List.mem_cons.mp he with rfl | he
  · rw [Bd.fr] at hf; exact h1 (Option.some.inj hf).symm
  · exact h2 (List.mem_filterMap.mpr ⟨env, he, hf⟩)

/-- an exception of a callee passes through this body -/
theorem pass1 (Bd : Body X E) : Passes (CX1 X.prog X.w) X E := by
  intro pins σ H s e s' I h
  obtain ⟨a, C, a0, B, H', rfl, T, q⟩ := h
  rw [Bd.xe]
  have hfr : X.A.frames = some (X.env :: X.outer) := by rw [← Bd.stk]; exact I.ok.frames
  have fly := T.fly
  rw [Bd.stk] at fly
  refine wpAny_leaves_onW hfr Bd.fr fly fun h' fly' up => ?_
  have cov : ∀ b o, X.s₀.heap.get? b = some o → b ∉ frs X.outer → ∃ o', B.get? b = some o' := fun b o e hb => by
    obtain ⟨o1, e1⟩ := (Bd.base I).there b o e (by simp)
    exact T.cov b o1 e1 (Bd.notin (I.old e) hb)
  have u1 : Un (frs X.outer) [] X.H₀ H' X.s₀.heap s'.heap := by
    have ub := Bd.base I
    refine ⟨fun b o e n hb hx => T.un.keep b o (ub.keep b o e n hb hx) (ub.free b o e n hx) (Bd.notin (I.old e) hb) (by simp), fun b o e n hb hx => ?_, fun b o e n hx => ?_, fun b o e hx => ?_, fun b xs e => T.un.tups b xs (ub.tups b xs e),
      fun b o xs e => T.un.frzs b o xs (ub.frzs b o xs e), fun b ps e => ?_⟩
    · obtain ⟨sl, e1⟩ := ub.slot b o e n hb hx
      obtain ⟨sl', e2⟩ := T.un.any e1 (ub.free b o e n hx) (by simp)
      exact ⟨sl', e2⟩
    · obtain ⟨o1, e1⟩ := ub.there b o e hx
      exact T.un.free b o1 e1 (ub.free b o e n hx) (by simp)
    · obtain ⟨o1, e1⟩ := ub.there b o e hx
      exact T.un.there b o1 e1 (by simp)
    · obtain ⟨m1, e1⟩ := ub.tbls b ps e
      obtain ⟨m2, e2⟩ := T.un.tbls b _ e1
      exact ⟨m1 ++ m2, by rw [e2, Array.append_assoc]⟩
  have F' : s'.heap.FunFrames B X.outer := by obtain ⟨_, _, ⟨_, _, k⟩, _⟩ := fly; exact k
  exact ⟨a, C, a0, B, H', rfl, ⟨T.os.trans I.os, T.bare, un_later u1 F' fly.1 fly'.1 up cov, hok_later T.hok fly.1 fly'.1 T.trk, fly', cov, T.trk⟩, q⟩

/-- an own exception class, as the written part has it -/
theorem own_of_K {K : PySem.W.Frag} {h : Heap} {mg : Str → Option Value} {x : Str} {C : Addr} {bmB : List Value} {newId : String} (KX : K.In h) (hm : mg x = some (.ref C)) (q : PySem.W.excIn K C bmB newId = true) : OwnCls x C bmB newId mg h := by
  refine ⟨hm, ?_⟩
  unfold PySem.W.excIn at q
  split at q
  · rename_i dd cd sl ho
    split at q
    · rename_i C' bm k0 k1 k2 k3 n k5 hm' hs
      simp only [Bool.and_eq_true, beq_iff_eq, Bool.not_eq_true'] at q
      obtain ⟨⟨⟨⟨⟨rfl, rfl⟩, hdel⟩, ht⟩, hok⟩, hni⟩ := q
      obtain ⟨nm, bs, mro, ns, qn, hd, sn, sub, ab, col, del⟩ := cd
      dsimp only at hm' hdel hok hni
      subst hm' hdel
      have hsl : sl = #[k0, k1, k2, k3, some (.builtin n), k5] := by
        obtain ⟨l⟩ := sl
        simp only at hs
        rw [hs]
      subst hsl
      exact ⟨bm, ns, nm, qn, bs, hd, sn, sub, ab, col, dd, k0, k1, k2, k3, k5, _, KX _ _ ho, .of_isNs (PySem.W.isNs_of_in KX hok), PySem.W.nsMap_none_of_in KX hok hni, PySem.W.tail_of_in KX ht⟩
    · cases q
  · cases q

/-- raise C(e, ..) -/
def tRaise (C : Addr) (E : XK) (t : TA) : TS := fun _ σ H => t σ H fun vs H1 => vs.length ≤ sizeLine ∧ E (.ref C) none H1
theorem ps_raise {x : Str} {np cpos pos : Pos} {e : Expr} {es : List Expr} {t : TA} {C : Addr} {bmB : List Value} {B newId initId : String} (Bd : Body X E) (hc : X.calm = true) (hg : Gl X x) (hm : X.mg x = some (.ref C))
    (hk : PySem.W.excIn X.K C bmB newId = true) (FB : ExcBaseFacts B newId initId bmB) (ha : PA X (e :: es) t)
    (he : starEach (e :: es) X.env = (false, eval e X.env) :: starEach es X.env := by rfl) (hpl : (backTo cpos (starEach es X.env)).any (·.1) = false := by rfl) (hdb : (x == ("__debug__" : Str)) = false := by decide) :
    PS X (.Raise (some (.Call (.Name x np) (e :: es) [] cpos)) none pos) (tRaise C E t) := by
  intro pins s σ H D I h
  have O := own_of_K (I.mod.kin) hm hk
  obtain ⟨tl, N, nm, q, bs, hdct, sn, sub, ab, col, dd, k0, k1, k2, k3, k5, mN, hC, hN, hni, T⟩ := O.obj
  refine wpAny_Raise_call_subT (C := C) (nm := nm) (q := q) (N := N) (bs := bs) (bm := tl) (hdct := hdct) (sn := sn) (sub := sub) (ab := ab) (col := col) (dd := dd) (k0 := k0) (k1 := k1) (k2 := k2) (k3 := k3) (k5 := k5)
    FB (mN := mN) (T.hasType FB.hasBase) (I.ok.hd hc) (by rw [he]; show (false || (backTo cpos (starEach es X.env)).any (·.1)) = false; rw [hpl]; rfl) hni (ld_glob I hg hm ⟨rfl, ?_⟩ hdb)
  have hA := ha cpos pins s σ H _ I h
  rw [he] at hA ⊢
  refine Calls.evalArgs_plain (thn hA fun us s2 ⟨vs, H2, I2, r, hz, q2⟩ => ?_)
  refine ⟨rfl, by rw [← r.length]; exact hz, I2.bk _ _ hC, hN.keeps I2.bk, T.keeps I2.bk, fun h' a hx => ?_⟩
  rw [Bd.xe]
  have hfr : X.A.frames = some (X.env :: X.outer) := by rw [← Bd.stk]; exact I.ok.frames
  have hin : ∀ env ∈ X.stack, ∀ b, env.frame = some b → b ∈ frs X.stack := fun env he b hb => List.mem_filterMap.mpr ⟨env, he, hb⟩
  have F0 : s2.heap.FunFrames (PySem.W.hideAll s2.heap (frs X.stack)) X.stack := PySem.W.funFrames_hide I2.stack hin
  have F1 : s2.heap.FunFrames (PySem.W.hideAll s2.heap (frs X.stack)) (X.env :: X.outer) := by rw [← Bd.stk]; exact F0
  have hB0 : (PySem.W.hideAll s2.heap (frs X.stack)).StaysIn s2.heap := fun b o q => PySem.W.of_hideAll _ q
  have hBget : ∀ b o, s2.heap.get? b = some o → b ∉ frs X.stack → (PySem.W.hideAll s2.heap (frs X.stack)).get? b = some o := fun b o e hb => PySem.W.hideAll_get _ e hb
  refine wpAny_leaves_madeW hfr Bd.fr hB0 F1 hx fun h'' t fly tup tn up => ?_
  have cov : ∀ b o, X.s₀.heap.get? b = some o → b ∉ frs X.outer → ∃ o', (PySem.W.hideAll s2.heap (frs X.stack)).get? b = some o' := fun b o e hb => by
    obtain ⟨o1, e1⟩ := (Bd.base I2).there b o e (by simp)
    exact ⟨o1, hBget b o1 e1 (Bd.notin (I2.old e) hb)⟩
  have trk : ∀ b u, H2 b = some u → ∃ o', (PySem.W.hideAll s2.heap (frs X.stack)).get? b = some o' := fun b u e => by
    have hb : b ∉ frs X.stack := fun z => by rw [I2.stkFree b z] at e; cases e
    have hlt := I2.hok.lt e
    obtain ⟨o1, e1⟩ : ∃ o1, s2.heap.get? b = some o1 := by
      cases hq : s2.heap.get? b with
      | some o1 => exact ⟨o1, rfl⟩
      | none => exact absurd hq (objOk_there (I2.hok b u e))
    exact ⟨o1, hBget b o1 e1 hb⟩
  have F2 : s2.heap.FunFrames (PySem.W.hideAll s2.heap (frs X.stack)) X.outer := by obtain ⟨_, _, k⟩ := F1; exact k
  have up2 : s2.heap.UpToSlots h'' := (Heap.UpToSlots.of_keeps hx.keeps).trans up
  exact ⟨a, C, .ref t, _, H2, rfl, ⟨I2.os, I2.bare, un_later (Bd.base I2) F2 hB0 fly.1 up2 cov, hok_later I2.hok hB0 fly.1 trk, fly, cov, trk⟩, q2⟩
where
  objOk_there {P : Program} {w : World} {H : Hp} {h : Heap} {a : Addr} {o : HO} (x : ObjOk P w H h a o) : h.get? a ≠ none := by
    cases o with
    | lst xs => obtain ⟨_, _, _, _, e⟩ := x; rw [e]; simp
    | tup xs => obtain ⟨_, _, _, ob, e, _⟩ := x; rw [e]; simp
    | dK kvs => obtain ⟨_, _, _, _, o, _, _, e, _⟩ := x; rw [e]; simp
    | dT kvs => obtain ⟨_, _, _, _, o, _, _, e, _⟩ := x; rw [e]; simp
    | set S n => obtain ⟨o, _, _, _, e, _⟩ := x; rw [e]; simp
    | ins C dx fs => obtain ⟨_, _, _, e, _⟩ := x; rw [e]; simp
    | own y => obtain ⟨_, e⟩ := x; rw [e]; simp
    | xd fs => obtain ⟨_, ⟨_, _, _, e, _⟩, _⟩ := x; rw [e]; simp
    | rng lo hi => obtain ⟨_, _, _, e⟩ := x; rw [e]; simp
    | frz ob u => obtain ⟨e, _⟩ := x; rw [e]; simp
    | tbl ps => have e : h.get? a = some _ := x; rw [e]; simp
    | met f y => have e : h.get? a = some _ := x; rw [e]; simp
    | ext φ => obtain ⟨_, ⟨_, e⟩, _⟩ := x; rw [e]; simp
end
end L2
namespace L2
open PySem PySem.Spec PyProof.Rows

def ExcAt (a C : Addr) (h : Heap) : Prop := ∃ oe vs, h.get? a = some oe ∧ oe.cls = .ref C ∧ oe.data = .fields vs
theorem ExcAt.mono {a C : Addr} {h1 h2 : Heap} (x : ExcAt a C h1) (k : ∀ o, h1.get? a = some o → h2.get? a = some o) : ExcAt a C h2 := let ⟨oe, vs, e, c, d⟩ := x; ⟨oe, vs, k _ e, c, d⟩

/-- an own class that may be named in an except -/
structure Catch (K : PySem.W.Frag) (C : Addr) : Prop where
  ty : PySem.W.typeIn K (.ref C) = some (.type "type")
  cls : (PySem.W.clsIn K C).isSome = true
  base : PySem.W.subIn K (.ref C) (.type "BaseException") = some true
section
variable {X : Cx} {E : XK} {pins : List (Addr × Obj)} {σ : St} {H : Hp} {s : Shared} {a : Addr}
theorem Un.ext {fs : List Addr} {H H' : Hp} {h h' : Heap} {a : Addr} {o : HO} (u : Un fs [] H H' h h') (ha : h.get? a = none) (hn : H' a = none) : Un fs [] H (upd H' a o) h h' where
  keep := u.keep
  slot := u.slot
  free := fun b ob e n hx => by rw [upd_ne (fun z => by rw [z, ha] at e; cases e)]; exact u.free b ob e n hx
  there := u.there
  tups := fun b xs e => by have q := u.tups b xs e; rw [upd_ne (ne_of_none q hn)]; exact q
  frzs := fun b ob xs e => by have q := u.frzs b ob xs e; rw [upd_ne (ne_of_none q hn)]; exact q
  tbls := fun b ps e => by obtain ⟨m, q⟩ := u.tbls b ps e; exact ⟨m, by rw [upd_ne (ne_of_none q hn)]; exact q⟩

end
end L2
namespace L2
open PySem PySem.Spec PyProof.Rows
/-! ### isinstance of an exception of one's own -/
structure ExcCls (K : PySem.W.Frag) (C : Addr) : Prop where
  ga : PySem.W.findIn K (.ref C) "__getattribute__" = some (some (.builtin "BaseException.__getattribute__"))
  nga : PySem.W.findIn K (.ref C) "__getattr__" = some none
  at_ : PySem.W.findIn K (.ref C) "__class__" = some (some (.builtin "object.__class__"))
  cls : (PySem.W.clsIn K C).isSome = true
  obj : PySem.W.mroIn K C (.type "object") = some true
  base : PySem.W.subIn K (.ref C) (.type "BaseException") = some true
section
variable {prog : Program} {w : World} {A : Around} {E : Value → Shared → Prop} {h : Heap} {g : Array GenState} {d : Drawn} {t : Nat} {os : OsState} {K : PySem.W.Frag} {a C : Addr}
theorem ExcAt.type {M : Model} (x : ExcAt a C h) : PySem.W.Looks M h (typeOf (.ref a)) (.ref C) := by
  obtain ⟨oe, vs, he, hc, hd⟩ := x
  exact hc ▸ (PySem.W.Looks.ld he).andThen .now
end
end L2
namespace L2
open PySem PySem.Spec PyProof.Rows
/-! ### f-strings -/
abbrev TJ := Str → St → Hp → VK → Prop
/-- the parts of an f-string behind what stands already -/
def PJ (X : Cx) (es : List Expr) (t : TJ) : Prop :=
  ∀ (out : Str) (pins : List (Addr × Obj)) (s : Shared) (σ : St) (H : Hp) (Q : VK), Inv X pins σ H s → t out σ H Q → wpAny (model X.prog X.w) X.A (joinParts out (evalEach es X.env)) (EP X pins σ Q) X.xe s
section
variable {X : Cx} {e : Expr} {es : List Expr} {te : TE} {t : TJ} {pos : Pos}
def jNil : TJ := fun out _ H Q => out.length ≤ sizeLine ∧ Q (.str out) H
theorem pj_nil : PJ X [] jNil := fun out pins s σ H Q I h => joinParts_nil (show EP X pins σ Q (.str out s.toks) { s with toks := s.toks + 1 } from ⟨.str out, H, I.tok _, ⟨_, rfl⟩, h.2⟩) h.1
/-- a part whose value is a text -/
def jCons (te : TE) (t : TJ) : TJ := fun out σ H Q => te σ H fun v H1 => ∃ y, v = .str y ∧ (out ++ y).length ≤ sizeLine ∧ t (out ++ y) σ H1 Q
theorem pj_cons (he : PE X e te) (hr : PJ X es t) : PJ X (e :: es) (jCons te t) := by
  intro out pins s σ H Q I h
  refine joinParts_consE (joinParts_cons (thn (he pins s σ H _ I h) fun v s1 ⟨x, H1, I1, r1, y, ex, hz, q⟩ => ?_))
  subst ex
  obtain ⟨tk, rfl⟩ := r1
  exact ⟨hz, hr _ pins s1 σ H1 Q I1 q⟩
theorem pe_fstr {e1 e2 : Expr} {rest : List Expr} (h : PJ X (e1 :: e2 :: rest) t) : PE X (.JoinedStr (e1 :: e2 :: rest) pos) (fun σ H Q => t Str.empty σ H Q) := fun pins s σ H Q I hw => JoinedStr_many (h Str.empty pins s σ H Q I hw)
/-- {e}, an int -/
def tFmtI (te : TE) : TE := fun σ H Q => te σ H fun v H1 => ∃ i, v = .int i ∧ i.natAbs.log2 < 1920 ∧ Q (.str (toString i)) H1
theorem pe_fmtI (he : PE X e te) : PE X (.FormattedValue e (-1) none pos) (tFmtI te) := by
  intro pins s σ H Q I h
  refine FormattedValue_plain (thn (he pins s σ H _ I h) fun v s1 ⟨x, H1, I1, r1, i, ex, hi, q⟩ => ?_)
  subst ex
  obtain ⟨tk, rfl⟩ := r1
  exact formatField_int_small hi ⟨.str _, H1, I1.tok _, ⟨_, rfl⟩, q⟩
/-- {e!r}, a text -/
def tFmtR (te : TE) : TE := fun σ H Q => te σ H fun v H1 => ∃ y, v = .str y ∧ (reprText y).length ≤ sizeLine ∧ Q (.str (reprText y)) H1
theorem pe_fmtR (he : PE X e te) : PE X (.FormattedValue e 114 none pos) (tFmtR te) := by
  intro pins s σ H Q I h
  refine wpAny_FormattedValue_repr (thn (he pins s σ H _ I h) fun v s1 ⟨x, H1, I1, r1, y, ex, hi, q⟩ => ?_)
  subst ex
  obtain ⟨tk, rfl⟩ := r1
  refine pyReprObj_str ?_ hi
  exact formatField_str (fun t' tk => ⟨.str _, H1, (I1.tok _).tok _, ⟨_, rfl⟩, q⟩) hi
theorem log_lt {i : Int} {n : Nat} (h : i.natAbs < 2 ^ n) (hn : n ≤ 1920) (h0 : 0 < n) : i.natAbs.log2 < 1920 := by
  by_cases z : i.natAbs = 0
  · rw [z]; decide
  · have := (Nat.log2_lt z).mpr h
    omega
end
end L2
namespace L2
open PySem PySem.Spec PyProof.Rows
theorem PS.nox {X : Cx} {st : Stmt} {t : TS} (h : PS X.nox st t) : PS X st t := fun pins s σ H D I hw =>
  wpAny_mono (h pins s σ H D (I.wish _) hw) (fun _ _ q => q.unwish) fun _ _ z => False.elim z
/-- no exception is wanted of a callee -/
theorem passN {X : Cx} : Passes (CX1 X.prog X.w) X E0 := fun _ _ _ _ _ _ _ h => by obtain ⟨_, _, _, _, _, _, _, q⟩ := h; exact q.elim
/-- a def of the text, with its promise -/
structure Def (P : Program) (w : World) (K : PySem.W.Frag) (mg : Str → Option Value) (base : Heap) (k : Nat) (x : Str) (ps : List Str) (sp : Sp) : Prop where
  ex : ∃ (f : Addr) (fd : FuncData), FnOk P w K mg base (CX1 P w) k f fd ps sp ∧ mg x = some (.ref f) ∧ PySem.W.keepIn K (.ref f) = true ∧ Binds K fd ps []
section
variable {P : Program} {w : World} {K : PySem.W.Frag} {mg : Str → Option Value} {base : Heap}
theorem Def.mono {j k : Nat} {x : Str} {ps : List Str} {sp : Sp} (D : Def P w K mg base j x ps sp) (h : j ≤ k) : Def P w K mg base k x ps sp := let ⟨f, fd, a, r⟩ := D.ex; ⟨f, fd, a.mono h, r⟩
/-- where a def stands behind the top -/
structure Site (K : PySem.W.Frag) (mg : Str → Option Value) (x : Str) (st : Stmt) : Prop where
  ex : ∃ (f : Addr) (fd : FuncData), Fun K x x st f fd ∧ mg x = some (.ref f)
theorem Site.mk' {h : Heap} {x : Str} {st : Stmt} {f : Addr} {oc : Value} {od an : Option Addr} {osl : Array (Option Value)} {kV doc pm cdv ct : Value} (KX : K.In h) (G : h.Ns mainGlobals mg)
    (a : PySem.W.nsIn K mainGlobals x = some (some (.ref f))) (l : K.lookup f = some ⟨oc, od, .func (PySem.W.fnOf x x (defArgs st) (defBody st) (defScope st) .none kV doc pm an cdv ct), osl⟩)
    (c : PySem.W.codeIn K cdv x = true) (k : PySem.W.keepIn K (.ref f) = true) : Site K mg x st := ⟨f, _, fun_mk l c k, PySem.W.mg_of KX G a⟩
abbrev cx1 (P : Program) (w : World) (K : PySem.W.Frag) (mg : Str → Option Value) (base : Heap) (N : List Str) (x : Str) (st : Stmt) (f : Addr) (cdv : Value) (A : Around) (outer : List Env) (s : Shared) (H : Hp) (E : XK) : Cx :=
  cxOf (CX1 P w) P w K mg base N x (defScope st) f cdv A outer s H E
theorem cx1_body {N : List Str} {x : Str} {st : Stmt} {f : Addr} {cdv : Value} {A : Around} {outer : List Env} {s : Shared} {H : Hp} {E : XK} : Body (cx1 P w K mg base N x st f cdv A outer s H E) E := ⟨rfl, rfl, rfl, rfl⟩
/-- THE RULE for a def -/
theorem Site.def {x : Str} {st : Stmt} {N ps : List Str} {k : Nat} {sp : Sp} (F : Site K mg x st) (S : FnScope N ps (defScope st))
    (hb : ∀ (kV doc pm : Value) (an : Option Addr) (cdv ct : Value) (us : List Value), us.length = ps.length → bindArgs (PySem.W.fnOf x x (defArgs st) (defBody st) (defScope st) .none kV doc pm an cdv ct) ⟨us, []⟩ = pure (ps.zip us))
    (len : ∀ vs H Q E, sp vs H Q E → vs.length = ps.length)
    (hbody : ∀ (f : Addr) (cdv : Value) (A : Around) (outer : List Env) (s : Shared) (H : Hp) (vs : List V) (Q : VK) (E : XK), Room k (A.deeper (envOfC x (defScope st) s.heap.objs.size f cdv)) → sp vs H Q E →
      ∃ t, PSs (cx1 P w K mg base N x st f cdv A outer s H E) (defBody st) t ∧ t { nx := fun _ H' => Q .non H', rt := Q } (start N vs) H) : Def P w K mg base (k + 1) x ps sp := by
  obtain ⟨f, fd, F1, hm⟩ := F.ex
  have b := F1.binds hb
  have kp := F1.kp
  obtain ⟨oc, od, kV, doc, pm, an, cdv, ct, osl, rfl, lk, hcd⟩ := F1.ex
  exact ⟨f, _, fn_of lk hcd S len fun A outer s H vs Q E hr hsp => hbody f cdv A outer s H vs Q E hr hsp, hm, kp, b⟩
end
section
variable {X : Cx} {k : Nat} {ps : List Str} {sp : Sp} {E : XK} {x : Str} {p pos : Pos} {e : Expr} {es : List Expr} {t : TA}
/-- f(e, ..) of a def of the text -/
theorem pe_def (D : Def X.prog X.w X.K X.mg X.base k x ps sp) (hr : Room k X.A) (hx : Passes (CX1 X.prog X.w) X E) (ha : PA X (e :: es) t) (hg : Gl X x := by rfl) (hdb : (x == ("__debug__" : Str)) = false := by decide)
    (he : starEach (e :: es) X.env = (false, eval e X.env) :: starEach es X.env := by rfl) (hpl : (backTo pos (starEach es X.env)).any (·.1) = false := by rfl) :
    PE X (.Call (.Name x p) (e :: es) [] pos) (tCall sp [] E t) := by
  obtain ⟨f, fd, F, hm, hk, hb⟩ := D.ex
  exact pe_call F hr hg hm hk hb .nil hx ha hdb he hpl
end
end L2
namespace L2
open PySem PySem.Spec PyProof.Rows
section
variable {X : Cx}
/-! ### xs + ys of lists that are read -/
def rCatS (K : PySem.W.Frag) : R2 := fun x y H Q => ∃ l b xs zs, x = .ref l ∧ y = .ref b ∧ SqL K H l xs ∧ SqL K H b zs ∧ xs.length + zs.length ≤ sizeLine ∧ ∀ p, H p = none → Q (.ref p) (upd H p (.lst (xs ++ zs)))
theorem op_catS : OpR X (binaryOp .Add) (rCatS X.K) := by
  intro pins s σ H x y v u Q I rx ry h
  obtain ⟨l, b, xs, zs, rfl, rfl, hH, hB, hz, q⟩ := h
  cases rx
  cases ry
  obtain ⟨its, r, pl, _⟩ := I.list hH
  obtain ⟨its2, r2, pl2, _⟩ := I.list hB
  obtain ⟨⟨cls, dd, data, sl⟩, ho, hc, n, hd⟩ := id pl.isList
  obtain ⟨⟨cls2, dd2, data2, sl2⟩, ho2, hc2, n2, hd2⟩ := id pl2.isList
  simp only at hc hd hc2 hd2
  subst hc hd hc2 hd2
  have e : its.toArray ++ its2.toArray = (its ++ its2).toArray := by simp
  have hsz : its.toArray.size + its2.toArray.size ≤ sizeLine := by
    rw [List.size_toArray, List.size_toArray, ← r.length, ← r2.length]; exact hz
  refine concat_meets ⟨_, ho, rfl⟩ ⟨_, ho2, rfl⟩ noFill_list_add seq_list_add PySem.F.slot_list_add PySem.F.entry_list_add (PySem.F.args_list_add_2 _ _) (list_addW l b its.toArray its2.toArray n n2 dd dd2 sl sl2 hsz) ⟨ho, ho2, ?_⟩
  rw [e]
  exact ⟨.ref _, _, I.lnew (t' := s.toks) (r.append r2) (by rw [List.length_append]; exact hz), rfl, q _ I.fresh⟩
/-! ### isinstance -/
/-- what isinstance may be asked of: TyOf's, or an exception of one's own -/
inductive TyX (K : PySem.W.Frag) (H : Hp) : V → Value → Prop where
  | of {x : V} {t : Value} : TyOf K H x t → TyX K H x t
  | exc {a C : Addr} : H a = some (.ext (ExcAt a C)) → ExcCls K C → TyX K H (.ref a) (.ref C)
end
end L2
namespace L2
open PySem PySem.Spec PyProof.Rows
end L2
namespace L2
open PySem PySem.Spec PyProof.Rows
/-- law's promise: a list of at most 63 ints is handed in, True comes out -/
def spLaw (K : PySem.W.Frag) : Sp := fun vs H Q _ => ∃ (a : Addr) (ns : List Int), vs = [.ref a] ∧ SqL K H a (ns.map V.int) ∧ ns.length ≤ 63 ∧ ∀ H', Q (.bl true) H'
section
variable {P : Program} {w : World} {K : PySem.W.Frag} {mg : Str → Option Value} {base : Heap}
theorem Fun.ok1 {x : Str} {st : Stmt} {f : Addr} {fd : FuncData} {N ps : List Str} {k : Nat} {sp : Sp} (F : Fun K x x st f fd) (S : FnScope N ps (defScope st)) (len : ∀ vs H Q E, sp vs H Q E → vs.length = ps.length)
    (hbody : ∀ (f : Addr) (cdv : Value) (A : Around) (outer : List Env) (s : Shared) (H : Hp) (vs : List V) (Q : VK) (E : XK), Room k (A.deeper (envOfC x (defScope st) s.heap.objs.size f cdv)) → sp vs H Q E →
      ∃ t, PSs (cx1 P w K mg base N x st f cdv A outer s H E) (defBody st) t ∧ t { nx := fun _ H' => Q .non H', rt := Q } (start N vs) H) : FnOk P w K mg base (CX1 P w) (k + 1) f fd ps sp := by
  obtain ⟨oc, od, kV, doc, pm, an, cdv, ct, osl, rfl, lk, hcd⟩ := F.ex
  exact fn_of lk hcd S len fun A outer s H vs Q E hr hsp => hbody f cdv A outer s H vs Q E hr hsp
theorem law_site {st : Stmt} {fa : Addr} {k : Nat} (S : Site K mg "law" st)
    (hb : ∀ (kV doc pm : Value) (an : Option Addr) (cdv ct : Value) (us : List Value), us.length = 1 → bindArgs (PySem.W.fnOf "law" "law" (defArgs st) (defBody st) (defScope st) .none kV doc pm an cdv ct) ⟨us, []⟩ = pure ((["script"] : List Str).zip us))
    (hmg : mg "law" = some (.ref fa)) (hF : ∀ (f : Addr) (fd : FuncData) (base : Heap), Fun K "law" "law" st f fd → FnOk P w K mg base (CX1 P w) k f fd ["script"] (spLaw K)) :
    ∃ fd : FuncData, (∀ (s : Shared) (u : Value), BindsTo s fd ⟨[u], []⟩ [("script", u)]) ∧ ∀ base : Heap, K.In base → base.Ns mainGlobals mg → FnOk P w K mg base (CX1 P w) k fa fd ["script"] (spLaw K) := by
  obtain ⟨f, fd, F, hm⟩ := S.ex
  rw [hmg] at hm
  cases hm
  refine ⟨fd, ?_, fun base _ _ => hF fa fd base F⟩
  obtain ⟨oc, od, kV, doc, pm, an, cdv, ct, osl, rfl, lk, hcd⟩ := F.ex
  exact fun s u => .of_eq (hb kV doc pm an cdv ct [u] rfl)
end
theorem walk_ofS {l : PySem.W.OpenLaw} {k : Nat} {q : Program} {loose : List Str} {XP : (Str → Option Value) → Heap → Prop} {YP : World → Heap → Prop} {d : DefRec} {K : Params → PySem.W.Frag}
    (hr : Room k callerA) (hn : l.most = some 63) (hdf : d.params.defaults = [])
    (hY : ∀ (w : World) (h : Heap), YP w h → (K w.params).In h)
    (F : ∀ (w : World) (mg : Str → Option Value) (fa : Addr) (h : Heap), (K w.params).In h → h.Ns mainGlobals mg → mg d.name = some (.ref fa) →
      ∃ fd : FuncData, (∀ (s : Shared) (u : Value), BindsTo s fd ⟨[u], []⟩ [("script", u)]) ∧
        ∀ base : Heap, (K w.params).In base → base.Ns mainGlobals mg → FnOk l.prog w (K w.params) mg base (CX1 l.prog w) k fa fd ["script"] (spLaw (K w.params))) :
    PySem.W.WalkO q loose XP YP l.row.toRowW d [] (fun f vs => PySem.call f vs) :=
  walk_of (n := 63) (k := k) (x := "script") (CX := fun w => CX1 l.prog w) (sp := fun w => spLaw (K w.params)) hn (by decide) hdf hr hY F (fun _ _ a ns hl _ hS => ⟨a, ns, rfl, hS, hl, fun _ => rfl⟩)
    fun _ _ _ _ _ h => by obtain ⟨_, _, _, _, _, _, _, q⟩ := h; exact q.elim
/-! ### globals -/
theorem pe_gint {X : Cx} {x : Str} {n : Int} {pos : Pos} (h : ∃ tk, X.mg x = some (.int n tk)) (hg : Gl X x := by rfl) (hd : (x == ("__debug__" : Str)) = false := by decide) : PE X (.Name x pos) (tC (.int n)) := by
  obtain ⟨tk, e⟩ := h
  exact pe_glob hg e ⟨tk, rfl⟩ hd
end L2
namespace L2
open PySem
theorem iteN {p A B : Prop} [Decidable p] (hp : ¬ p) (h : B) : if decide p = true then A else B := by rw [decide_eq_false hp]; exact iteF h
theorem iteY {p A B : Prop} [Decidable p] (hp : p) (h : A) : if decide p = true then A else B := by rw [decide_eq_true hp]; exact iteT h
theorem iteNN {p A B : Prop} [Decidable p] (hp : p) (h : B) : if (!decide p) = true then A else B := by rw [decide_eq_true hp]; exact iteF h
theorem iteNY {p A B : Prop} [Decidable p] (hp : ¬ p) (h : A) : if (!decide p) = true then A else B := by rw [decide_eq_false hp]; exact iteT h
theorem small_abs {n : Int} (h : -1000 ≤ n) (h2 : n ≤ 1000) : n.natAbs < 2 ^ 1000 := by
  have : n.natAbs ≤ 1000 := by omega
  exact Nat.lt_of_le_of_lt this (by decide)
theorem far_abs {n : Int} (h : -(10 ^ 60) ≤ n) (h2 : n ≤ 10 ^ 60) : n.natAbs < 2 ^ 1000 := by
  have : n.natAbs ≤ 10 ^ 60 := by omega
  exact Nat.lt_of_le_of_lt this (by decide)
theorem cell_of {ns : List Int} {i : Nat} {y : V} (h : ((0 :: ns).map V.int)[i]? = some y) : ∃ z, y = V.int z := by
  rw [List.getElem?_map] at h
  cases e : (0 :: ns)[i]? with
  | none => rw [e] at h; cases h
  | some z => rw [e] at h; exact ⟨z, (Option.some.inj h).symm⟩
/-- one more object -/
theorem Same.put {H H' : Hp} {p : Addr} {o : HO} (s : Same H H') (hp : H p = none) : Same H (upd H' p o) := fun b u e => by rw [upd_ne (ne_of_none e hp)]; exact s b u e
theorem Same.new {H H' : Hp} {p : Addr} {o : HO} (s : Same H H') (hp : H' p = none) : Same H (upd H' p o) := s.put (s.free hp)
end L2
namespace L2
open PySem
end L2
namespace L2
open PySem PySem.Spec PyProof.Rows
/-! ### a loop whose body may raise -/
theorem own1 {X : Cx} {E : XK} (Bd : Body X E) : PassesOwn (model X.prog X.w) X.A X.env X.xe := by
  rw [Bd.xe]
  exact PassesOwn.leaving
/-! ### lists compared -/
/-- alike, lists within lists to the depth n -/
inductive Alike (K : PySem.W.Frag) (H : Hp) : Nat → V → V → Prop where
  | int {n : Nat} (i : Int) : Alike K H n (.int i) (.int i)
  | bl {n : Nat} (i : Bool) : Alike K H n (.bl i) (.bl i)
  | str {n : Nat} (i : Str) : Alike K H n (.str i) (.str i)
  | non {n : Nat} : Alike K H n .non .non
  | lst {n : Nat} {a b : Addr} {xs ys : List V} (ha : SqL K H a xs) (hb : SqL K H b ys) (hl : xs.length = ys.length) (h : ∀ (j : Nat) (x y : V), xs[j]? = some x → ys[j]? = some y → Alike K H n x y) : Alike K H (n + 1) (.ref a) (.ref b)
section
variable {X : Cx} {pins : List (Addr × Obj)} {σ : St} {H : Hp} {s : Shared}
theorem rel_at {xs : List V} {its : List Value} (r : Vals xs its) (j : Nat) (h : j < its.toArray.size) : ∃ x, xs[j]? = some x ∧ RelV x its.toArray[j] := by
  have hj : j < its.length := by simpa using h
  have hl := r.length
  have hx : xs[j]? = some xs[j] := by simp [show j < xs.length by omega]
  obtain ⟨u, hu, ru⟩ := r.get hx
  refine ⟨_, hx, ?_⟩
  have e : its.toArray[j] = u := by
    have := hu
    rw [List.getElem?_eq_getElem hj] at this
    simpa using Option.some.inj this
  rw [e]
  exact ru
end
section
variable {X : Cx}
theorem hu16 {A : Around} {k : Nat} (hr : Room k A) : A.units + 16 < cLine := by have := hr.un; omega
/-! ### all([..]) of bools -/
end
end L2
namespace L2
open PySem PySem.Spec PyProof.Rows
/-! ### list(x) of an iterator whose length is asked for in silence -/
section
variable {prog : Program} {w : World} {A : Around} {s : Shared} {R : Result → Shared → Prop} {I S : Addr} {fp wr : List Addr} {G : Array GenState → Array GenState → Prop} {n : Nat} {P : Nat → Value → Prop} {St : Nat → Shared → Prop} {T : String}
theorem ext_walk (W : WalksS prog w A.in1 I fp wr G n P St) (hT : ∀ i s, St i s → s.TypeIs (.ref I) T) (t1 : (Value.type T == Value.type "list") = false) (t2 : (Value.type T == Value.type "tuple") = false)
    (hh : ∀ (s : Shared) (Q : Bool → Shared → Prop) (E : Value → Shared → Prop), St 0 s → Q false s → wpAny (model prog w) A.in1 (Builtin.List.listLengthHint (.ref I)) Q E s)
    (res : Value) (c0 : Nat) (hst : St 0 s) (hSf : S ∉ fp) (hI : I ∈ fp) (hS : s.heap.get? S = some { cls := .type "list", data := .seq #[] c0 }) (hn : n ≤ sizeLine)
    (hR : ∀ s' acc' c', Moved (S :: wr) G s s' → s'.heap.get? S = some { cls := .type "list", dict := none, data := .seq acc' c', slots := #[] } → ItemsOf P acc' n → R (.ok (.ret res)) s') :
    wpAny (model prog w) A.in1 (Builtin.List.listExtendWith (.ref S) (.ref I) res)
      (fun fin s' => match fin with | .done f => R (.ok f) s' | .again c' => c'.quiet = true ∧ codeAny (model prog w) A c' R s') (fun e s' => R (.error e) s') s := by
  have ne : S ≠ I := fun e => hSf (by rw [e]; exact hI)
  have h1 : Builtin.List.listSameRef (.ref S) (.ref I) = false := by simp [Builtin.List.listSameRef, ne]
  unfold Builtin.List.listExtendWith
  refine wpAny_bind (wpAny_typeOf (hT 0 s hst) ?_)
  simp only [h1, t1, t2, Bool.or_false, Bool.false_eq_true, if_false]
  refine wpAny_bind (W.self 0 s _ _ hst (wpAny_bind (wpAny_holding (hh s _ _ hst ?_))))
  refine wpAny_ite_split (fun _ => ?_) (fun _ => ?_)
  · refine wpAny_bind (wpAny_rule (wpAny_bind ?_))
    show wpAny _ A.in1 (updateSeq S (·.push .none) >>= fun _ => updateSeq S (·.pop)) _ _ s
    refine wpAny_bind (wpAny_updateSeq hS rfl ?_)
    have hS2 := Heap.get?_update_self (Obj.mapSeq (·.push Value.none)) hS rfl
    refine wpAny_updateSeq (hz := by seq_fits) hS2 rfl ?_
    have hS3 := Heap.get?_update_self (Obj.mapSeq (·.pop)) hS2 rfl
    have kp : ∀ b o, b ≠ S → s.heap.get? b = some o → ((s.heap.update S (Obj.mapSeq (·.push Value.none))).update S (Obj.mapSeq (·.pop))).get? b = some o := fun b o hb e => by
      rw [Heap.get?_update_other _ _ (Ne.symm hb), Heap.get?_update_other _ _ (Ne.symm hb)]; exact e
    exact wpAny_pure ⟨plainId_quiet F.plain_extend_loop _, codeAny_extend_loopS W hn S hSf res n 0 _ _ _ rfl (Nat.zero_le n) (W.frame 0 s _ s.toks hst (Nat.le_refl _) fun b hb o e => kp b o (fun z => hSf (by rw [← z]; exact hb)) e) hS3 (ItemsOf.nil P)
      fun s' acc' c' hm hS' hacc => hR s' acc' c' (Moved.trans W.gtrans ((Moved.refl W.grefl).then_heap (Nat.le_refl _) fun b o hb e => kp b o (fun z => hb (by rw [z]; exact List.mem_cons_self)) e) hm) hS' hacc⟩
  · exact wpAny_pure ⟨plainId_quiet F.plain_extend_loop _, codeAny_extend_loopS W hn S hSf res n 0 s #[] c0 rfl (Nat.zero_le n) hst hS (ItemsOf.nil P) fun s' acc' c' hm hS' hacc => hR s' acc' c' hm hS' hacc⟩
theorem list_walk {E : Value → Shared → Prop} {Q : Value → Shared → Prop} (W : WalksS prog w A.in1.in1 I fp wr G n P St) (hT : ∀ i s, St i s → s.TypeIs (.ref I) T) (t1 : (Value.type T == Value.type "list") = false) (t2 : (Value.type T == Value.type "tuple") = false)
    (hh : ∀ (s : Shared) (Q : Bool → Shared → Prop) (E : Value → Shared → Prop), St 0 s → Q false s → wpAny (model prog w) A.in1.in1 (Builtin.List.listLengthHint (.ref I)) Q E s)
    (hst : St 0 s) (hfp : ∀ b ∈ fp, b < s.heap.objs.size) (hI : I ∈ fp) (hn : n ≤ sizeLine)
    (hQ : ∀ s' acc' c', Moved (s.heap.objs.size :: wr) G { s with heap := s.heap.push { cls := .type "list", data := .seq #[] } } s' →
      s'.heap.get? s.heap.objs.size = some { cls := .type "list", dict := none, data := .seq acc' c', slots := #[] } → ItemsOf P acc' n → Q (.ref s.heap.objs.size) s') :
    wpAny (model prog w) A (call (.type "list") [.ref I]) Q E s := by
  have nf : s.heap.objs.size ∉ fp := fun z => absurd (hfp _ z) (Nat.lt_irrefl _)
  refine callType_codes (Q₁ := fun obj z => obj = .ref s.heap.objs.size ∧ z = { s with heap := s.heap.push { cls := .type "list", data := .seq #[] } }) F.called_list (F.typeCall_list_1 _) F.entry_list_init (code_list_new _ ⟨rfl, rfl⟩) fun obj z hz => ?_
  obtain ⟨rfl, rfl⟩ := hz
  have hS : (s.heap.push { cls := .type "list", data := .seq #[] }).get? s.heap.objs.size = some { cls := .type "list", data := .seq #[] } := Heap.get?_push_size _ rfl
  refine ⟨⟨_, hS, rfl⟩, F.args_list_init_2 _ _, ?_⟩
  have hst1 := W.frame 0 s (s.heap.push { cls := .type "list", data := .seq #[] }) s.toks hst (Nat.le_refl _) fun b _ o e => Heap.get?_push_of_some _ e
  show wpAny _ A.in1.in1 (do let old ← Builtin.List.listItems (.ref s.heap.objs.size); Builtin.List.listUpdate (.ref s.heap.objs.size) (fun _ => #[]); letGo old.toList.reverse; Builtin.List.listExtendWith (.ref s.heap.objs.size) (.ref I) .none) _ _ _
  refine wpAny_bind ?_
  unfold Builtin.List.listItems
  refine wpAny_bind (wpAny_seqItems hS rfl (wpAny_pure (wpAny_bind (wpAny_updateSeq hS rfl ?_))))
  have hS2 := Heap.get?_update_self (Obj.mapSeq (fun _ => (#[] : Array Value))) hS rfl
  have kp : ∀ b o, b ≠ s.heap.objs.size → (s.heap.push { cls := .type "list", data := .seq #[] }).get? b = some o → ((s.heap.push { cls := .type "list", data := .seq #[] }).update s.heap.objs.size (Obj.mapSeq (fun _ => (#[] : Array Value)))).get? b = some o :=
    fun b o hb e => (Heap.get?_update_other _ _ (Ne.symm hb)).trans e
  refine wpAny_bind (wpAny_letGo ?_)
  refine ext_walk W hT t1 t2 hh .none _ (W.frame 0 _ _ s.toks hst1 (Nat.le_refl _) fun b hb o e => kp b o (fun z => nf (by rw [← z]; exact hb)) e) nf hI hS2 hn fun s' acc' c' hm hS' hacc => ?_
  exact ⟨rfl, hQ s' acc' c' (Moved.trans W.gtrans ((Moved.refl W.grefl).then_heap (Nat.le_refl _) fun b o hb e => kp b o (fun z => hb (by rw [z]; exact List.mem_cons_self)) e) hm) hS' hacc⟩
end
/-! ### list(reversed(xs)) -/
theorem rev_nolen : typeLookup (.type "list_reverseiterator") "__len__" = pure none := by rw [typeLookup_type, builtinLookup_eq_fast]; kernel_rfl
theorem rev_hint : typeLookup (.type "list_reverseiterator") "__length_hint__" = pure (some (.builtin "list_reverseiterator.__length_hint__")) := by rw [typeLookup_type, builtinLookup_eq_fast]; kernel_rfl
theorem hint_rev {prog : Program} {w : World} {A : Around} {s : Shared} {E : Value → Shared → Prop} {Q : Bool → Shared → Prop} {it l : Addr} {i : Int} (hit : s.heap.IsRevIter it l i) (h : Q false s) :
    wpAny (model prog w) A (Builtin.List.listLengthHint (.ref it)) Q E s := by
  unfold Builtin.List.listLengthHint
  refine wpAny_bind (wpAny_specialOf hit.typeIs rev_nolen ?_)
  show wpAny _ A (specialOf (Value.ref it) (Str.ofString "__length_hint__") >>= _) _ _ _
  refine wpAny_bind (wpAny_specialOf hit.typeIs rev_hint ?_)
  generalize hid : ("list_reverseiterator.__length_hint__" : String) = id0
  wp_delta
  rw [show splitId id0 = some ("list_reverseiterator", "__length_hint__") from by subst hid; decide +kernel]
  subst hid
  refine wpAny_bind (wpAny_isInstance (T := "list_reverseiterator") (b := true) hit.typeIs (by rw [isSubtype_type]; kernel_rfl) ?_)
  refine wpAny_ite_split (fun z => absurd z (by decide)) (fun _ => ?_)
  refine wpAny_ite_split (fun _ => ?_) (fun z => absurd (by decide +kernel) z)
  exact wpAny_ite_split (fun z => absurd z (by decide +kernel)) (fun _ => wpAny_pure h)
section
variable {X : Cx}
def tRevL (K : PySem.W.Frag) (te : TE) : TE := fun σ H Q => te σ H fun v H1 => ∃ l xs, v = .ref l ∧ SqL K H1 l xs ∧ ∀ q, H1 q = none → Q (.ref q) (upd H1 q (.lst xs.reverse))
theorem pe_list_reversed {e : Expr} {te : TE} {p p2 pos pos2 : Pos} (hc : X.calm = true) (hml : X.mg "list" = none) (hmr : X.mg "reversed" = none) (he : PE X e te) (hgl : Gl X "list" := by rfl) (hgr : Gl X "reversed" := by rfl)
    (hs : starEach [e] X.env = [(false, eval e X.env)] := by rfl) (hs2 : starEach [Expr.Call (.Name "reversed" p2) [e] [] pos2] X.env = [(false, eval (Expr.Call (.Name "reversed" p2) [e] [] pos2) X.env)] := by rfl) :
    PE X (.Call (.Name "list" p) [.Call (.Name "reversed" p2) [e] [] pos2] [] pos) (tRevL X.K te) := by
  intro pins s σ H Q I h
  refine wpAny_Call_Name_kw (ld_blt I hgl hml boot_list ?_ (by decide) (by decide))
  refine PyProof.Rows.callWith_type1 ?_ hs2 rfl
  rw [hs2]
  show wpAny _ _ (spliced [(false, eval (Expr.Call (.Name "reversed" p2) [e] [] pos2) X.env)]) _ _ s
  refine Calls.spliced_cons (wpAny_Call_Name_kw (ld_blt I hgr hmr boot_reversed ?_ (by decide) (by decide)))
  refine PyProof.Rows.callWith_type1 ?_ hs rfl
  rw [hs]
  show wpAny _ _ (spliced [(false, eval e X.env)]) _ _ s
  refine Calls.spliced_cons (thn (he pins s σ H _ I h) fun v s1 ⟨x, H1, I1, r1, q1⟩ => Calls.spliced_nil ?_)
  obtain ⟨l, xs, rfl, hq, q⟩ := q1
  cases r1
  obtain ⟨its, rv, pl, hz⟩ := I1.list hq
  have hlen := rv.length
  refine call_reversed_list pl.isList (Calls.spliced_nil ?_)
  have hlt : l < s1.heap.objs.size := by
    obtain ⟨o, n, ho, _⟩ := pl
    exact Heap.lt_size ho
  have hlne : l ≠ s1.heap.objs.size := Nat.ne_of_lt hlt
  have W := (Walks.listRev (prog := X.prog) (w := X.w) (A := X.A.in1.in1) (I.ok.hd hc) s1.heap.objs.size l hlne its.toArray).toS
  have psz : (s1.heap.push (revObj l ((its.toArray.size : Int) - 1))).objs.size = s1.heap.objs.size + 1 := Heap.size_push ..
  have pl2 : (s1.heap.push (revObj l ((its.toArray.size : Int) - 1))).IsList l its.toArray := pl.isList.at fun o e => Heap.get?_push_of_some _ e
  refine list_walk W (T := "list_reverseiterator") (fun i s' st => st.2.1.typeIs) (by decide) (by decide) (fun s' Q' E' st hq' => hint_rev st.2.1 hq') ⟨Nat.zero_le _, ⟨_, Heap.get?_push_size _ rfl, rfl, by unfold revObj; simp⟩, pl2⟩ (fun b hb => ?_) (by simp) (by simp; omega) fun s' acc' c' hm hS' hacc => ?_
  · have hb' : b = s1.heap.objs.size ∨ b = l := by simpa using hb
    show b < (s1.heap.push (revObj l ((its.toArray.size : Int) - 1))).objs.size
    rw [psz]
    rcases hb' with rfl | rfl
    · exact Nat.lt_succ_self _
    · exact Nat.lt_succ_of_lt hlt
  · have ea : acc' = its.reverse.toArray := by
      obtain ⟨a1, a2⟩ := hacc
      apply Array.ext'
      apply List.ext_getElem?
      intro j
      by_cases hj : j < its.length
      · have hj' : j < acc'.size := by rw [a1]; simpa using hj
        have g := a2 j acc'[j] (by simp [hj'])
        have e1 : acc'.toList[j]? = some acc'[j] := by simp [hj']
        rw [e1]
        simp only [List.getElem?_toArray, List.size_toArray] at g
        show _ = its.reverse[j]?
        rw [List.getElem?_reverse hj, g]
      · have : acc'.toList[j]? = none := by simp; rw [a1]; simp; omega
        rw [this]
        simp
        omega
    subst ea
    rw [Moved.eq_with hm]
    have kp : ∀ b o, s1.heap.get? b = some o → s'.heap.get? b = some o := fun b o eb => by
      have hbl := Heap.lt_size eb
      refine hm.heap b o (fun z => ?_) (Heap.get?_push_of_some _ (Heap.get?_push_of_some _ eb))
      have z' : b = (s1.heap.push (revObj l ((its.toArray.size : Int) - 1))).objs.size ∨ b = s1.heap.objs.size := by simpa using z
      rw [psz] at z'
      rcases z' with z' | z'
      · exact absurd hbl (by rw [z']; exact Nat.not_lt.mpr (Nat.le_succ _))
      · exact absurd hbl (by rw [z']; exact Nat.lt_irrefl _)
    refine ⟨.ref _, _, I1.laid (t' := s'.toks) (o := .lst xs.reverse) (a := (s1.heap.push (revObj l ((its.toArray.size : Int) - 1))).objs.size) kp (by rw [psz]; omega) ?_, rfl, q _ (I1.hok.fresh (by rw [psz]; omega))⟩
    exact ⟨by rw [List.length_reverse]; exact hz, its.reverse, c', rv.reverse, hS'⟩
end
end L2
namespace L2
open PySem PySem.Spec PyProof.Rows
/-! ### the scope of a comprehension, looked at -/
end L2
namespace L2
open PySem PySem.Spec PyProof.Rows
/-! ### the forms of a comprehension that one uses -/
section
variable {K : PySem.W.Frag} {g : TG} {tt : TT} {te : TE} {D : Addr} {σ : St} {H : Hp} {Q : VK}
end
theorem item_of {ns : List Int} {i : Nat} {y : V} (h : (ns.map V.int)[i]? = some y) : ∃ z, ns[i]? = some z ∧ y = V.int z := by
  rw [List.getElem?_map] at h
  cases e : ns[i]? with
  | none => rw [e] at h; cases h
  | some z => rw [e] at h; exact ⟨z, rfl, (Option.some.inj h).symm⟩
theorem take_succ {α : Type} {l : List α} {i : Nat} {x : α} (h : l[i]? = some x) : l.take (i + 1) = l.take i ++ [x] := by
  rw [List.take_succ, h]; rfl
end L2
namespace L2
open PySem
end L2
namespace L2
open PySem
end L2
namespace L2
open PySem PySem.Spec PyProof.Rows
/-! ### zip(xs, ys) walked with two names -/
section
variable {X : Cx} {pins : List (Addr × Obj)} {σ : St} {H : Hp} {s : Shared} {h' : Heap}
/-- several objects of an iterator have turned, and one may have been laid -/
theorem Inv.turnedL {ch : List Addr} {t' : Nat} (I : Inv X pins σ H s) (k : ∀ b o, b ∉ ch → s.heap.get? b = some o → h'.get? b = some o) (hf : ∀ b ∈ ch, FpOk X pins H b) : Inv X pins σ H { s with heap := h', toks := t' } := by
  have nin : ∀ b u, H b = some u → b ∉ ch := fun b u e z => by rw [(hf b z).1] at e; cases e
  refine I.call' (s' := { s with heap := h', toks := t' }) (ch := ch) rfl ⟨fun b o e _ _ hx => k b o hx e, fun b o e _ _ hx => ⟨o.slots, k b o hx e⟩, fun _ _ _ n _ => n, fun b o e hx => ⟨o, k b o hx e⟩, fun _ _ e => e, fun _ _ _ e => e, fun b ps e => ⟨#[], by rw [e]; simp⟩⟩ ?_ I.bare fun b hb => ?_
  · intro b o e
    refine (I.hok b o e).stay (fun c u hc q => k c u ?_ q) (fun _ q => q) fun _ _ q => q
    rcases hc with z | z
    · rw [z]; exact nin b o e
    · exact nin c _ z
  · obtain ⟨_, q1, _, q3, q4, q5⟩ := hf b hb
    exact ⟨q3, q1, q4, q5⟩
theorem Inv.turnedNew {ch : List Addr} {T : Addr} {o : HO} {t' : Nat} (I : Inv X pins σ H s) (k : ∀ b o, b ∉ ch → s.heap.get? b = some o → h'.get? b = some o) (hf : ∀ b ∈ ch, FpOk X pins H b) (hT : s.heap.objs.size ≤ T)
    (new : ObjOk X.prog X.w (upd H T o) h' T o) : Inv X pins σ (upd H T o) { s with heap := h', toks := t' } := by
  have nin : ∀ b u, H b = some u → b ∉ ch := fun b u e z => by rw [(hf b z).1] at e; cases e
  have hn := I.hok.fresh hT
  have old : ∀ b u, s.heap.get? b = some u → b ≠ T := fun b u e => Nat.ne_of_lt (Nat.lt_of_lt_of_le (Heap.lt_size e) hT)
  refine I.call' (s' := { s with heap := h', toks := t' }) (ch := ch) rfl ⟨fun b o e _ _ hx => k b o hx e, fun b o e _ _ hx => ⟨o.slots, k b o hx e⟩, fun b u e n _ => by rw [upd_ne (old b u e)]; exact n, fun b o e hx => ⟨o, k b o hx e⟩,
    fun b xs e => by rw [upd_ne (ne_of_none e hn)]; exact e, fun b o u e => by rw [upd_ne (ne_of_none e hn)]; exact e, fun b ps e => ⟨#[], by rw [upd_ne (ne_of_none e hn), e]; simp⟩⟩ ?_ I.bare fun b hb => ?_
  · intro b u e
    by_cases hb : b = T
    · subst hb
      rw [upd_same] at e
      cases e
      exact new
    · rw [upd_ne hb] at e
      refine (I.hok b u e).stay (fun c v hc q => k c v ?_ q) (fun c q => by rw [upd_ne (ne_of_none q hn)]; exact q) fun c xs q => by rw [upd_ne (ne_of_none q hn)]; exact q
      rcases hc with z | z
      · rw [z]; exact nin b u e
      · exact nin c _ z
  · obtain ⟨_, q1, _, q3, q4, q5⟩ := hf b hb
    exact ⟨q3, q1, q4, q5⟩
end
section
variable {X : Cx}
/-- a, b = .. -/
theorem pg_two {i j : Nat} {x y : Str} {px py pos : Pos} {k : Nat} (hc : X.calm = true) (hN : X.N.Nodup) (hi : X.N[i]? = some x) (hj : X.N[j]? = some y) (lx : Loc X.env.scope x) (ly : Loc X.env.scope y)
    (fx : X.fn x = true ∨ X.env.scope.names.lookup x = some .local := by first | exact .inl rfl | exact .inr rfl) (fy : X.fn y = true ∨ X.env.scope.names.lookup y = some .local := by first | exact .inl rfl | exact .inr rfl)
    (hs : (assignEach [.Name x px, .Name y py] X.env).map (·.2) = [assign (.Name x px) X.env, assign (.Name y py) X.env] := by rfl) (hs2 : (assignEach [.Name y py] X.env).map (·.2) = [assign (.Name y py) X.env] := by rfl) (hs0 : (assignEach [] X.env).map (·.2) = [] := by rfl)
    (hn : (assignEach [.Name x px, .Name y py] X.env).length = 2 := by rfl) (hst : (assignEach [.Name x px, .Name y py] X.env).findIdx? (·.1) = none := by rfl) :
    PG X (.Tuple [.Name x px, .Name y py] k pos) (gTup X.K 2 (gCons (gName i) (gCons (gName j) gNil))) :=
  pg_tup hc (pgs_cons (pg_name hN hi lx fx) (pgs_cons (pg_name hN hj ly fy) pgs_nil (by rw [hs2, hs0])) (by rw [hs, hs2])) hn hst
end
end L2
namespace L2
open PySem PySem.Spec PyProof.Rows
section
variable {K : PySem.W.Frag} {g : TG} {tt : TT} {te : TE} {D : Addr} {σ : St} {H : Hp} {Q : VK}
end
/-! ### sum of a list of ints -/
section
variable {X : Cx}
/-! ### xs.remove(x): the item at k is x itself, those ahead are lists of ints unlike it -/
end
end L2
namespace L2
open PySem PySem.Spec PyProof.Rows
/-! ### lists by places -/
def tabV (n : Nat) (f : Nat → V) : List V := (List.range n).map f
abbrev tabI (n : Nat) (f : Nat → Int) : List V := tabV n fun j => V.int (f j)
abbrev tabR (n : Nat) (f : Nat → Addr) : List V := tabV n fun j => V.ref (f j)
theorem tab_congr {n : Nat} {f g : Nat → V} (h : ∀ i, i < n → f i = g i) : tabV n f = tabV n g := by
  unfold tabV
  apply List.map_congr_left
  intro i hi
  exact h i (List.mem_range.mp hi)
/-- a grid of ints: m rows of n -/
def Grid (K : PySem.W.Frag) (H : Hp) (l : Addr) (m n : Nat) (a : Nat → Nat → Int) : Prop := ∃ as : Nat → Addr, SqL K H l (tabR m as) ∧ ∀ i, i < m → SqL K H (as i) (tabI n (a i))
theorem Same.grid {K : PySem.W.Frag} {H H' : Hp} {l : Addr} {m n : Nat} {a : Nat → Nat → Int} (s : Same H H') (g : Grid K H l m n a) : Grid K H' l m n a := let ⟨as, h1, h2⟩ := g; ⟨as, s.seq h1, fun i hi => s.seq (h2 i hi)⟩
theorem Grid.congr {K : PySem.W.Frag} {H : Hp} {l : Addr} {m n : Nat} {a b : Nat → Nat → Int} (g : Grid K H l m n a) (h : ∀ i j, i < m → j < n → a i j = b i j) : Grid K H l m n b := by
  obtain ⟨as, h1, h2⟩ := g
  refine ⟨as, h1, fun i hi => ?_⟩
  have e : tabI n (a i) = tabI n (b i) := tab_congr fun j hj => by rw [h i j hi hj]
  rw [← e]
  exact h2 i hi
end L2
namespace L2
open PySem PySem.Spec PyProof.Rows
section
variable {K : PySem.W.Frag} {g : TG} {tt : TT} {te : TE} {D : Addr} {σ : St} {H : Hp} {Q : VK}
end
end L2
namespace L2
open PySem
end L2
namespace L2
open PySem
/-- a shadow of the heap, one object more -/
theorem Same.both {B H : Hp} {p : Addr} {o : HO} (s : Same B H) (h : H p = some o) : Same (upd B p o) H := fun b u e => by
  by_cases z : b = p
  · subst z
    rw [upd_same] at e
    cases e
    exact h
  · rw [upd_ne z] at e
    exact s b u e
theorem Same.grow {B : Hp} {p : Addr} {o : HO} (h : B p = none) : Same B (upd B p o) := (Same.refl B).new h
end L2
namespace L2
theorem at_zero (x : V) (L : List V) : atI (x :: L) 0 = some x := by
  unfold atI ixN
  rw [if_pos (by decide), if_pos (by simp)]
  rfl
end L2
namespace L2
open PySem PySem.Spec PyProof.Rows
/-- what holds behind a statement, said once for all its ways -/
def tCut (t : TS) : TS := fun D σ H => ∃ R : St → Hp → Prop, t { D with nx := R } σ H ∧ ∀ σ' H', R σ' H' → D.nx σ' H'
theorem ps_cut {X : Cx} {st : Stmt} {t : TS} (h : PS X st t) : PS X st (tCut t) := by
  intro pins s σ H D I ⟨R, h1, h2⟩
  refine wpAny_mono (h pins s σ H { D with nx := R } I h1) (fun f s' q => ?_) fun _ _ z => z
  cases f with
  | next => obtain ⟨σ', H', I', q⟩ := q; exact ⟨σ', H', I', h2 σ' H' q⟩
  | brk => exact q
  | cont => exact q
  | ret u => exact q
end L2
namespace L2
open PySem PySem.Spec PyProof.Rows
/-! ### the rules with the written part named, for blocks within which the context is bound -/
section
variable {X : Cx} (K : PySem.W.Frag)
theorem ix_listK (hK : X.K = K := by rfl) : IxR X (rIxL K) := by subst hK; exact ix_list
theorem ix_tupK (hK : X.K = K := by rfl) : IxR X (rIxT K) := by subst hK; exact ix_tup
theorem sl_listK (hK : X.K = K := by rfl) : SlR X (rSlL K) := by subst hK; exact sl_list
theorem call_lenK (hK : X.K = K := by rfl) : CallR X (.builtin "len") (fun xs H Q => ∃ p ys, xs = [.ref p] ∧ (SqL K H p ys ∨ SqT K H p ys) ∧ Q (.int ys.length) H) := by subst hK; exact call_len_seq
theorem call_listK (hK : X.K = K := by rfl) : CallR X (.type "list") (fun xs H Q => ∃ p ys, xs = [.ref p] ∧ (SqL K H p ys ∨ SqT K H p ys) ∧ ∀ l, H l = none → Q (.ref l) (upd H l (.lst ys))) := by subst hK; exact call_list_of
theorem op_catK (hK : X.K = K := by rfl) : OpR X (binaryOp .Add) (rCatS K) := by subst hK; exact op_catS
theorem pi_listK {tg l : Expr} {tl : TE} (hl : PE X l tl) (hK : X.K = K := by rfl) : PI X tg l (iList K tl) := by subst hK; exact pi_list hl
theorem pg_twoK {i j : Nat} {x y : Str} {px py pos : Pos} {k : Nat} (hc : X.calm = true) (hN : X.N.Nodup) (hi : X.N[i]? = some x) (hj : X.N[j]? = some y) (lx : Loc X.env.scope x) (ly : Loc X.env.scope y) (hK : X.K = K := by rfl)
    (fx : X.fn x = true ∨ X.env.scope.names.lookup x = some .local := by first | exact .inl rfl | exact .inr rfl) (fy : X.fn y = true ∨ X.env.scope.names.lookup y = some .local := by first | exact .inl rfl | exact .inr rfl)
    (hs : (assignEach [.Name x px, .Name y py] X.env).map (·.2) = [assign (.Name x px) X.env, assign (.Name y py) X.env] := by rfl) (hs2 : (assignEach [.Name y py] X.env).map (·.2) = [assign (.Name y py) X.env] := by rfl) (hs0 : (assignEach [] X.env).map (·.2) = [] := by rfl)
    (hn : (assignEach [.Name x px, .Name y py] X.env).length = 2 := by rfl) (hst : (assignEach [.Name x px, .Name y py] X.env).findIdx? (·.1) = none := by rfl) :
    PG X (.Tuple [.Name x px, .Name y py] k pos) (gTup K 2 (gCons (gName i) (gCons (gName j) gNil))) := by
  subst hK
  exact pg_two hc hN hi hj lx ly fx fy hs hs2 hs0 hn hst
theorem pe_bmK {o e : Expr} {es : List Expr} {to : TE} {t : TA} {name : Str} {apos cpos : Pos} {T id : String} {r : V → List V → Hp → VK → Prop} (pa : PlainAttrs T) (slot : Slot T name id) (hty : typeOf (.builtin id) = pure (.type "method_descriptor")) (hm : MtR X id r) (ho : PE X o to) (ha : PA X (e :: es) t) (hK : X.K = K := by rfl)
    (hbase : attributeBase o name X.env (eval o X.env) = eval o X.env := by rfl)
    (hfew : ((backTo cpos (starEach (e :: es) X.env)).all (fun x => !x.1) && (backToKw cpos (keywordEach [] X.env)).all (fun x => x.1.isSome)
      && decide ((e :: es).length + ([] : List Keyword).length + (if ([] : List Keyword).isEmpty then 0 else 1) < 30)) = true := by rfl)
    (hline : (apos.endLine == cpos.line) = true := by rfl) (hs : starEach (e :: es) X.env = (false, eval e X.env) :: starEach es X.env := by rfl) (hplain : (backTo cpos (starEach es X.env)).any (·.1) = false := by rfl) :
    PE X (.Call (.Attribute o name apos) (e :: es) [] cpos) (tBM K T r to t) := by subst hK; exact pe_bm pa slot hty hm ho ha hbase hfew hline hs hplain
end
end L2
namespace L2
open PySem PySem.Spec PyProof.Rows
/-! ### two lists of ints compared, whatever they hold -/
section
variable {X : Cx}
end
end L2
namespace L2
open PySem PySem.Spec PyProof.Rows
/-! ### zip of a list and a tuple, the list no longer than the tuple -/
section
variable {prog : Program} {w : World} {A : Around} {E : Value → Shared → Prop} {s : Shared}
end
section
variable {prog : Program} {w : World} {A : Around} {E : Value → Shared → Prop} {s : Shared}
end
section
variable {X : Cx}
end
section
variable {K : PySem.W.Frag} {g : TG} {tt : TT} {te : TE} {D : Addr} {σ : St} {H : Hp} {Q : VK}
end
end L2
namespace L2
open PySem
/-- a tuple that stands in the module -/
structure TupK (K : PySem.W.Frag) (a : Addr) (xs : List V) : Prop where
  ex : ∃ (o : Obj) (its : Array Value) (n : Nat), K.lookup a = some o ∧ o.cls = .type "tuple" ∧ o.data = .seq its n ∧ its.size ≤ sizeLine ∧ Vals xs its.toList
theorem TupK.sq {K : PySem.W.Frag} {a : Addr} {xs : List V} (h : TupK K a xs) (H : Hp) : SqT K H a xs := .inr h.ex
end L2
namespace L2
open PySem PySem.Spec PyProof.Rows
/-! ### enumerate(xs) walked with two names -/
def Ite (K : PySem.W.Frag) (a : Addr) : It :=
  ⟨fun i H => ∃ xs x, SqL K H a xs ∧ xs[i]? = some x,
   fun i H v H' => ∃ p x, H p = none ∧ v = .ref p ∧ H' = upd H p (.tup [.int (i : Nat), x]) ∧ ∀ xs, SqL K H a xs → xs[i]? = some x,
   fun i H => ∃ xs, SqL K H a xs ∧ xs.length ≤ i⟩
theorem turn_enum {P : Program} {w : World} {K : PySem.W.Frag} {elts : List Expr} {x1 : Nat} {pos : Pos} {e it l : Addr} (hne : e ≠ it) :
    Turn P w K (.Tuple elts x1 pos) (Ite K l) [e, it] e (fun i h => (∃ old, IsEnum h e it ((i : Nat) : Int) old) ∧ h.IsListIter it l i) where
  mem := by simp
  obj := fun i h st b hb => by
    obtain ⟨⟨old, he⟩, ⟨o1, e1, c1, d1⟩⟩ := st
    simp only [List.mem_cons, List.not_mem_nil, or_false] at hb
    rcases hb with rfl | rfl
    · exact ⟨_, he, fun v q => by cases q⟩
    · exact ⟨_, e1, fun v q => by rw [d1] at q; cases q⟩
  keep := fun i h h' st k => by
    obtain ⟨⟨old, he⟩, h1⟩ := st
    exact ⟨⟨old, k e (by simp) _ he⟩, h1.at fun o q => k it (by simp) o q⟩
  item := by
    intro X hP hw hK hc i pins s σ H E I hf st hg
    subst hP hw hK
    obtain ⟨⟨old, he⟩, h1⟩ := st
    obtain ⟨xs, x, hx, ex⟩ := hg
    obtain ⟨its, rv, p, hzx⟩ := I.list hx
    obtain ⟨u, hu, ru⟩ := rv.get ex
    refine wpAny_pyNext_enum_item he h1 p.isList (x := u) (by simpa using hu) hne fun h' a1 a2 a3 a4 kk => ⟨_, rfl, ?_⟩
    refine wpAny_letOwnedTupleGo_enum a1 fun h2' he' hs' => ?_
    have lt : ∀ {c o}, s.heap.get? c = some o → s.heap.objs.size ≠ c := fun q => Nat.ne_of_gt (Heap.lt_size q)
    have k2 : ∀ c o, c ∉ [e, it] → s.heap.get? c = some o → h2'.get? c = some o := fun c o hc q => by
      simp only [List.mem_cons, List.not_mem_nil, or_false, not_or] at hc
      exact hs'.extBut _ _ hc.1 (kk c o hc.1 hc.2 q)
    have tup : ObjOk X.prog X.w (upd H s.heap.objs.size (.tup [.int (i : Nat), x])) h2' s.heap.objs.size (.tup [.int (i : Nat), x]) :=
      ⟨by show 2 ≤ sizeLine; decide, [.int (i : Nat) s.toks, u], .cons ⟨_, rfl⟩ (.cons ru .nil), ⟨_, hs'.extBut _ _ (lt he) a3, rfl, _, rfl⟩⟩
    have hn := I.hok.fresh (Nat.le_refl s.heap.objs.size)
    have e1 : ((i : Nat) : Int) + 1 = ((i + 1 : Nat) : Int) := by omega
    rw [e1] at he'
    refine ⟨.ref s.heap.objs.size, _, I.turnedNew (t' := s.toks + 1) k2 hf (Nat.le_refl _) tup, rfl, ⟨_, x, hn, rfl, rfl, fun zs hq => by rw [I.list_inj hq hx]; exact ex⟩, ⟨⟨_, he'⟩, a2.extBut hs'.extBut (Ne.symm hne)⟩, fun c hc => ?_⟩
    have hcn : c ≠ s.heap.objs.size := by
      simp only [List.mem_cons, List.not_mem_nil, or_false] at hc
      obtain ⟨o1, q1, _⟩ := h1
      rcases hc with rfl | rfl
      · exact (lt he).symm
      · exact (lt q1).symm
    rw [upd_ne hcn]
    exact (hf c hc).1
  done := by
    intro X hP hw hK hc i pins s σ H E I hf st hg
    subst hP hw hK
    obtain ⟨⟨old, he⟩, h1⟩ := st
    obtain ⟨xs, hx, hle⟩ := hg
    obtain ⟨its, rv, p, hzx⟩ := I.list hx
    have l1' := rv.length
    refine wpAny_pyNext_enum_end (I.ok.hd hc) he h1 p.isList (by simp; omega) fun h' kk => ⟨rfl, ?_⟩
    refine I.turnedL (t' := s.toks) (ch := [e, it]) (fun c o hc q => ?_) hf
    simp only [List.mem_cons, List.not_mem_nil, or_false, not_or] at hc
    exact kk c o hc.2 q
  self := fun _ _ _ _ _ ⟨⟨old, he⟩, _⟩ h => wpAny_pyIter_enum he h
section
variable {X : Cx}
def iEnum (K : PySem.W.Frag) (ta : TA) : TI := fun σ H R => ta σ H fun vs H1 => ∃ a xs, vs = [.ref a] ∧ H1 a = some (.lst xs) ∧ R (Ite K a) H1
theorem pi_enumerateK (K : PySem.W.Frag) {e1 : Expr} {ta : TA} {p pos tpos : Pos} {elts : List Expr} {x1 : Nat} (hg : Gl X "enumerate") (hm : X.mg "enumerate" = none) (ha : PA X [e1] ta) (hK : X.K = K := by rfl) (hs : starEach [e1] X.env = [(false, eval e1 X.env)] := by rfl) (hpl : (backTo pos (starEach [] X.env)).any (·.1) = false := by rfl) :
    PI X (.Tuple elts x1 tpos) (.Call (.Name "enumerate" p) [e1] [] pos) (iEnum K ta) := by
  subst hK
  intro pins s σ H R I h
  refine wpAny_Call_Name_kw (ld_blt I hg hm boot_enumerate ?_ (by decide) (by decide))
  refine PyProof.Rows.callWith_type1 (thn (ha pos pins s σ H _ I h) fun us s1 ⟨vs, H1, I1, r1, q1⟩ => ?_) hs hpl
  obtain ⟨a, xs, rfl, hx, q⟩ := q1
  obtain ⟨u, rfl, ru⟩ := r1.one
  cases ru
  obtain ⟨z, its, n, rv, hl, e⟩ := I1.lstM hx
  refine call_enumerate_1 e fun h' he h1 hsz kk => ?_
  refine wpAny_pyIter_enum he ?_
  have I2 : Inv X pins σ H1 { s1 with heap := h' } := I1.kept (t' := s1.toks) fun b o q => kk b o q
  refine ⟨s1.heap.objs.size + 1, [s1.heap.objs.size + 1, s1.heap.objs.size], _, _, H1, rfl, I2, turn_enum (Nat.succ_ne_self _), ⟨⟨_, he⟩, h1⟩, fun c hc => ?_, q⟩
  have hle : s1.heap.objs.size ≤ c := by
    simp only [List.mem_cons, List.not_mem_nil, or_false] at hc
    rcases hc with rfl | rfl
    · exact Nat.le_add_right _ _
    · exact Nat.le_refl _
  exact I1.fpOk (H' := H1) hle (I1.hok.fresh hle)
end
section
variable {K : PySem.W.Frag} {g : TG} {tt : TT} {te : TE} {D : Addr} {σ : St} {H : Hp} {Q : VK}
theorem for_enum {a : Addr} {xs : List V} {tb : TS} {D : Ends} (Pv : Nat → St → Hp → Prop) (h0 : Pv 0 σ H) (hl : ∀ i σ H, i ≤ xs.length → Pv i σ H → SqL K H a xs)
    (hs : ∀ i x p σ H, xs[i]? = some x → Pv i σ H → H p = none → g (.ref p) σ (upd H p (.tup [.int (i : Nat), x])) fun σ2 H2 => tb { D with nx := Pv (i + 1), ct := Pv (i + 1), bk := D.nx } σ2 H2) (hd : ∀ σ H, Pv xs.length σ H → D.nx σ H) :
    ∃ W : Nat → Nat → St → Hp → Prop, (∃ m, W 0 m σ H) ∧ ∀ i m σ H, W i m σ H →
      ((Ite K a).stop i H ∧ D.nx σ H) ∨ ((Ite K a).go i H ∧ ∃ N : St → Hp → Prop, (∀ σ' H', N σ' H' → ∃ m', m' < m ∧ W (i + 1) m' σ' H') ∧ ∀ x H', (Ite K a).yld i H x H' → g x σ H' fun σ2 H2 => tb { D with nx := N, ct := N, bk := D.nx } σ2 H2) := by
  refine ⟨fun i m σ H => m = xs.length - i ∧ i ≤ xs.length ∧ Pv i σ H, ⟨xs.length, by simp, Nat.zero_le _, h0⟩, ?_⟩
  rintro i m σ H ⟨rfl, hi, p⟩
  have q := hl i σ H hi p
  by_cases hlt : i < xs.length
  · refine .inr ⟨⟨xs, xs[i], q, by simp [hlt]⟩, Pv (i + 1), fun σ' H' p' => ⟨xs.length - (i + 1), by omega, rfl, hlt, p'⟩, fun x H' y => ?_⟩
    obtain ⟨pp, x1, hn, rfl, rfl, ex⟩ := y
    exact hs i x1 pp σ _ (ex xs q) p hn
  · have e : i = xs.length := by omega
    subst e
    exact .inl ⟨⟨xs, q, Nat.le_refl _⟩, hd σ H p⟩
/-- a, b taken of a pair -/
theorem take_two {i j : Nat} {x y : V} {p : Addr} {A : St → Hp → Prop} (hp : SqT K H p [x, y]) (h : A ((σ.set i (some x)).set j (some y)) H) : gTup K 2 (gCons (gName i) (gCons (gName j) gNil)) (.ref p) σ H A :=
  ⟨p, [x, y], rfl, hp, rfl, x, _, rfl, y, _, rfl, rfl, h⟩
end
end L2
namespace L2
open PySem PySem.Spec PyProof.Rows
section
variable {K : PySem.W.Frag} {g : TG} {tt : TT} {te : TE} {D : Addr} {σ : St} {H : Hp} {Q : VK}
end
/-! a def that is never called with what is at hand -/
section
variable {P : Program} {w : World} {K : PySem.W.Frag} {mg : Str → Option Value} {base : Heap}
def spNo : Sp := fun _ _ _ _ => False
theorem Site.no {x : Str} {st : Stmt} {N ps : List Str} (F : Site K mg x st) (S : FnScope N ps (defScope st))
    (hb : ∀ (kV doc pm : Value) (an : Option Addr) (cdv ct : Value) (us : List Value), us.length = ps.length → bindArgs (PySem.W.fnOf x x (defArgs st) (defBody st) (defScope st) .none kV doc pm an cdv ct) ⟨us, []⟩ = pure (ps.zip us)) : Def P w K mg base 1 x ps spNo :=
  F.def S hb (fun _ _ _ _ h => h.elim) fun _ _ _ _ _ _ _ _ _ _ h => h.elim
end
end L2
namespace L2
open PySem PySem.Spec PyProof.Rows
theorem Same.tup {K : PySem.W.Frag} {H H' : Hp} {a : Addr} {xs : List V} (e : Same H H') (h : SqT K H a xs) : SqT K H' a xs := by
  rcases h with (h | ⟨o, h⟩) | h
  · exact .inl (.inl (e _ _ h))
  · exact .inl (.inr ⟨o, e _ _ h⟩)
  · exact .inr h
/-! ### what is never reached -/
/-! ### t[a:b], t + u: whichever object it is -/
section
variable {prog : Program} {w : World} {A : Around} {E : Value → Shared → Prop} {s : Shared}
end
section
variable {X : Cx}
/-! ### any([..]) of bools -/
end
/-! ### values alike, lists and tuples within -/
inductive Like (K : PySem.W.Frag) (H : Hp) : Nat → V → V → Prop where
  | flat {n : Nat} (x : V) : flatV x = true → Like K H n x x
  | same {n : Nat} (a : Addr) : Like K H n (.ref a) (.ref a)
  | lst {n : Nat} {a b : Addr} {xs ys : List V} (ha : SqL K H a xs) (hb : SqL K H b ys) (hl : xs.length = ys.length) (h : ∀ (j : Nat) (x y : V), xs[j]? = some x → ys[j]? = some y → Like K H n x y) : Like K H (n + 1) (.ref a) (.ref b)
  | tup {n : Nat} {a b : Addr} {xs ys : List V} (ha : SqT K H a xs) (hb : SqT K H b ys) (hl : xs.length = ys.length) (h : ∀ (j : Nat) (x y : V), xs[j]? = some x → ys[j]? = some y → Like K H n x y) : Like K H (n + 1) (.ref a) (.ref b)
section
variable {X : Cx} {pins : List (Addr × Obj)} {σ : St} {H : Hp} {s : Shared}
end
section
variable {X : Cx}
/-! ### the tuple's rules, the written part named -/
theorem call_tupleK (K : PySem.W.Frag) (hK : X.K = K := by rfl) : CallR X (.type "tuple") (fun xs H Q => ∃ p ys, xs = [.ref p] ∧ ((SqL K H p ys ∧ ∀ l, H l = none → Q (.ref l) (upd H l (.tup ys))) ∨ (SqT K H p ys ∧ Q (.ref p) H))) := by subst hK; exact call_tuple_of
end
section
variable {K : PySem.W.Frag} {g : TG} {tt : TT} {te : TE} {D : Addr} {σ : St} {H : Hp} {Q : VK}
end
end L2
/-! THE HAND LAYER, for ints, bools, texts, own classes, DICTS (int and text keys), calls, loops. Paste it whole ahead of your own text; what your proof does not reach may be deleted. -/
namespace L2
open PySem PySem.Spec PyProof.Rows

end L2

namespace L2
open PySem PySem.Spec PyProof.Rows

section
variable (P : Program) (w : World)
end

section
variable {P : Program} {w : World} {H H' : Hp} {h h' : Heap} {a : Addr} {o : HO}
end

section
variable {P : Program} {w : World} {H : Hp} {h h' : Heap} {x e : Addr} {o' : HO}
end

/-! ### kept unless tracked; of the frames at fs (the callers') the slots may change (an exception that passes writes there); of the records at ex (iterators) nothing is said -/
section
variable {fs fs' ex ex' : List Addr} {H H1 H2 : Hp} {h h1 h2 h' : Heap} {a x e : Addr} {o : HO}
end

/-! ### the heap without what is tracked -/
/-! ### OpenK's ledger, filled with every new object but one -/
end L2

namespace L2
open PySem PySem.Spec PyProof.Rows

section
variable {X : Cx} {pins : List (Addr × Obj)} {σ : List (Option V)} {H H' : Hp} {s : Shared} {h' : Heap}

end

/-! ### the judgements -/
end L2

namespace L2
open PySem PySem.Spec PyProof.Rows
section
variable {X : Cx}

/-! ### names and constants -/
/-! ### arithmetic -/
variable {a b : Expr} {ta tb : TE} {pos : Pos}
/-! ### comparisons -/
/-! ### and, or, not -/
variable {tA tB' : TT} {rest : List Expr}
end
end L2

namespace L2
open PySem PySem.Spec PyProof.Rows

/-! ### a list, a tuple that is read: tracked, frozen, or an object of the module -/
section
variable {X : Cx} {pins : List (Addr × Obj)} {σ : St} {H : Hp} {s : Shared} {a : Addr} {xs ys : List V}
end

/-! ### another wish about exceptions -/
section
variable {X : Cx} {pins : List (Addr × Obj)} {σ : St} {H : Hp} {s : Shared} {E : Value → Shared → Prop}
end

/-! ### blocks and small statements -/
section
variable {X : Cx} {st : Stmt} {rest : List Stmt} {t u : TS} {e : Expr} {te : TE} {pos : Pos}
end

/-! ### targets -/
section
variable {X : Cx} {pos : Pos}
end

/-! ### while -/
section
variable {X : Cx} {pos : Pos}
end

/-! ### what a loop or a comprehension walks -/
end L2

namespace L2
open PySem PySem.Spec PyProof.Rows
section
variable {X : Cx} {tg : Expr}
/-! ### for -/
end

/-! ### the forms one uses -/
end L2

namespace L2
open PySem PySem.Spec PyProof.Rows

section
variable {X : Cx} {a b c : Expr} {ta tb tc : TE} {pos : Pos}

/-! ### ints -/
/-! ### bools among ints: n += (a < b) -/
end

/-! ### comparisons -/
section
variable {X : Cx} {a b c : Expr} {ta tb tc : TE} {pos : Pos}
/-! ### truth -/
/-! ### strs and bytes -/
/-! ### scalar builtins, by CallR -/
end
end L2

namespace L2
open PySem PySem.Spec PyProof.Rows

/-! ### an instance, its attributes a map -/
section
variable {prog : Program} {w : World} {A : Around} {E : Value → Shared → Prop} {s : Shared} {K : PySem.W.Frag} {x dx C f : Addr} {mA : Str → Option Value} {name : Str} {v : Value}

end

/-! ### the attributes as a list of pairs -/
section
variable {P : Program} {w : World} {H H' : Hp} {h h' : Heap} {a C dx : Addr} {fs fs' : List (Str × V)}
end

/-! ### what of the text a class must have -/
section
variable {X : Cx} {pins : List (Addr × Obj)} {σ : St} {H : Hp} {s : Shared} {a C dx : Addr} {fs : List (Str × V)} {f : Str} {v : V} {A : Around} {E : Value → Shared → Prop}

end

/-! ### readings and rules -/
section
variable {X : Cx} {o e value : Expr} {f : Str} {pos pos' tpos : Pos} {ta tv : TE}
end

/-! ### isinstance -/
section
variable {X : Cx} {pins : List (Addr × Obj)} {σ : St} {H : Hp} {s : Shared} {A : Around} {E : Value → Shared → Prop} {Q : Value → Shared → Prop} {c : Value} {b : Bool}
end
end L2

namespace L2
open PySem PySem.Spec PyProof.Rows

/-! ### room -/
/-! ### argument lists and displays -/
section
variable {X : Cx} {e : Expr} {es : List Expr} {te : TE} {t : TA} {pos : Pos}
end

/-! ### what a def promises -/
section
variable {X : Cx} {pins : List (Addr × Obj)} {σ : St} {H : Hp} {s s' : Shared}
end

/-! ### calls -/
section
variable {X : Cx} {CX : CXT} {k : Nat} {f C : Addr} {fd : FuncData} {ps : List Str} {sp : Sp} {dvs : List V} {ds : List Value} {E : XK} {x m : Str} {p pos apos : Pos} {e o : Expr} {es : List Expr} {ta : TE} {t : TA}

end

/-! ### keywords -/
section
variable {X : Cx} {CX : CXT} {k : Nat} {f C : Addr} {fd : FuncData} {ps ks : List Str} {sp : Sp} {E : XK} {x m : Str} {p pos apos kpos : Pos} {e o : Expr} {es : List Expr} {kws : List Keyword} {te ta : TE} {t tk : TA} {nm : Option Str}
variable {g : List Value → List Value → List Value} {gV : List V → List V → List V}
end

/-! ### a def's body keeps its promise -/
end L2

namespace L2
open PySem PySem.Spec PyProof.Rows
section
variable {X : Cx} {x : Str} {p pos : Pos} {e : Expr} {es : List Expr} {t : TA} {id T : String} {r : List V → Hp → VK → Prop}

end
end L2

namespace L2
open PySem PySem.Spec PyProof.Rows

/-! ### lists of pairs as tables -/
section
variable {κ : Type} [DecidableEq κ]
def valV (kvs : List (κ × V)) (k : κ) : Option V := (kvs.find? fun kv => decide (kv.1 = k)).map (·.2)
/-- in its place, or at the end -/
def putK (kvs : List (κ × V)) (k : κ) (v : V) : List (κ × V) :=
  if (kvs.any fun kv => decide (kv.1 = k)) = true then kvs.map (fun kv => if kv.1 = k then (kv.1, v) else kv) else kvs ++ [(k, v)]
def dropK (kvs : List (κ × V)) (k : κ) : List (κ × V) := kvs.filter fun kv => decide (kv.1 ≠ k)

theorem valV_pos {p : κ × V} {r : List (κ × V)} {k : κ} (e : p.1 = k) : valV (p :: r) k = some p.2 := by simp [valV, List.find?_cons, e]
theorem valV_neg {p : κ × V} {r : List (κ × V)} {k : κ} (e : ¬ p.1 = k) : valV (p :: r) k = valV r k := by simp [valV, List.find?_cons, e]
theorem valV_any (k : κ) : ∀ kvs : List (κ × V), (kvs.any fun kv => decide (kv.1 = k)) = (valV kvs k).isSome
  | [] => rfl
  | p :: r => by
    rw [List.any_cons]
    by_cases e : p.1 = k
    · simp only [valV_pos e, decide_eq_true e, Bool.true_or, Option.isSome_some]
    · rw [valV_neg e, decide_eq_false e, Bool.false_or]; exact valV_any k r
theorem RelO.isSome_eq {o : Option V} {u : Option Value} (r : RelO o u) : o.isSome = u.isSome := by
  cases o with
  | none => cases u with
    | none => rfl
    | some _ => exact (show False from r).elim
  | some _ => cases u with
    | none => exact (show False from r).elim
    | some _ => rfl
theorem RelO.getD {o : Option V} {u : Option Value} {d : V} {d' : Value} (r : RelO o u) (rd : RelV d d') : RelV (o.getD d) (u.getD d') := by
  cases o with
  | none => cases u with
    | none => exact rd
    | some _ => exact (show False from r).elim
  | some _ => cases u with
    | none => exact (show False from r).elim
    | some _ => exact r

/-- raw tables of the same keys -/
theorem KV.val {kvs : List (κ × V)} {vs : List (κ × Value)} (r : KV kvs vs) (k : κ) : RelO (valV kvs k) (valueAt vs k) := by
  unfold KV at r
  induction r with
  | nil => exact True.intro
  | @cons p q ps qs h t ih =>
    obtain ⟨h1, h2⟩ := h
    by_cases e : p.1 = k
    · have e' : q.1 = k := h1.symm.trans e
      have b : valueAt (q :: qs) k = some q.2 := by simp [valueAt, List.find?_cons, e']
      rw [valV_pos e, b]; exact h2
    · have e' : ¬ q.1 = k := fun z => e (h1.trans z)
      have b : valueAt (q :: qs) k = valueAt qs k := by simp [valueAt, List.find?_cons, e']
      rw [valV_neg e, b]; exact ih
theorem KV.any {kvs : List (κ × V)} {vs : List (κ × Value)} (r : KV kvs vs) (k : κ) : (kvs.any fun kv => decide (kv.1 = k)) = vs.any fun kv => decide (kv.1 = k) := by
  unfold KV at r
  induction r with
  | nil => rfl
  | cons h t ih => rw [List.any_cons, List.any_cons, ih, h.1]
theorem KV.repl {kvs : List (κ × V)} {vs : List (κ × Value)} (r : KV kvs vs) (k : κ) {y : V} {u : Value} (ry : RelV y u) :
    KV (kvs.map fun kv => if kv.1 = k then (kv.1, y) else kv) (vs.map fun kv => if kv.1 = k then (kv.1, u) else kv) := by
  unfold KV at r ⊢
  induction r with
  | nil => exact .nil
  | @cons p q ps qs h t ih =>
    rw [List.map_cons, List.map_cons]
    refine .cons ?_ ih
    obtain ⟨h1, h2⟩ := h
    by_cases e : p.1 = k
    · rw [if_pos e, if_pos (h1.symm.trans e)]; exact ⟨h1, ry⟩
    · rw [if_neg e, if_neg (fun z => e (h1.trans z))]; exact ⟨h1, h2⟩
theorem KV.put {kvs : List (κ × V)} {vs : List (κ × Value)} (r : KV kvs vs) (k : κ) {y : V} {u : Value} (ry : RelV y u) : KV (putK kvs k y) (stored vs k u) := by
  unfold putK stored
  rw [r.any k]
  by_cases e : (vs.any fun kv => decide (kv.1 = k)) = true
  · rw [if_pos e, if_pos e]; exact r.repl k ry
  · rw [if_neg e, if_neg e]; exact Paired.snoc r ⟨rfl, ry⟩
theorem KV.drop {kvs : List (κ × V)} {vs : List (κ × Value)} (r : KV kvs vs) (k : κ) : KV (dropK kvs k) (without vs k) := by
  unfold KV at r ⊢
  unfold dropK without
  induction r with
  | nil => exact .nil
  | @cons p q ps qs h t ih =>
    obtain ⟨h1, h2⟩ := h
    rw [List.filter_cons, List.filter_cons]
    by_cases e : p.1 = k
    · have a : ¬ decide (p.1 ≠ k) = true := by simp [e]
      have b : ¬ decide (q.1 ≠ k) = true := by simp [h1.symm.trans e]
      rw [if_neg a, if_neg b]; exact ih
    · have e' : ¬ q.1 = k := fun z => e (h1.trans z)
      have a : decide (p.1 ≠ k) = true := by simp [e]
      have b : decide (q.1 ≠ k) = true := by simp [e']
      rw [if_pos a, if_pos b]; exact .cons ⟨h1, h2⟩ ih
theorem KV.keys {kvs : List (κ × V)} {vs : List (κ × Value)} (r : KV kvs vs) : kvs.map (·.1) = vs.map (·.1) := by
  unfold KV at r
  induction r with
  | nil => rfl
  | cons h t ih => rw [List.map_cons, List.map_cons, ih, h.1]
theorem KV.length {kvs : List (κ × V)} {vs : List (κ × Value)} (r : KV kvs vs) : kvs.length = vs.length := Paired.length r
end


/-! ### a tracked dict, its keys ints and texts or tuples of these -/
/-- raw entries of a dict with tuple keys -/
abbrev KT (H : Hp) : List (List Key × V) → List (List Key × Addr × Value) → Prop := Paired fun p q => p.1 = q.1 ∧ H q.2.1 = some (.tup (p.1.map kV)) ∧ RelV p.2 q.2.2
theorem KT.val {H : Hp} {kvs : List (List Key × V)} {xs : List (List Key × Addr × Value)} (r : KT H kvs xs) (k : List Key) : RelO (valV kvs k) ((atKey xs k).map (·.2)) := by
  induction r with
  | nil => exact True.intro
  | @cons p q ps qs h t ih =>
    obtain ⟨h1, _, h2⟩ := h
    by_cases e : p.1 = k
    · have e' : q.1 = k := h1.symm.trans e
      have b : atKey (q :: qs) k = some q.2 := by simp [atKey, List.find?_cons, e']
      rw [valV_pos e, b]; exact h2
    · have e' : ¬ q.1 = k := fun z => e (h1.trans z)
      have b : atKey (q :: qs) k = atKey qs k := by simp [atKey, List.find?_cons, e']
      rw [valV_neg e, b]; exact ih
theorem KT.repl {H : Hp} {kvs : List (List Key × V)} {xs : List (List Key × Addr × Value)} (r : KT H kvs xs) (k : List Key) {y : V} {u : Value} (ry : RelV y u) :
    KT H (kvs.map fun kv => if kv.1 = k then (kv.1, y) else kv) (xs.map (putAt k u)) := by
  induction r with
  | nil => exact .nil
  | @cons p q ps qs h t ih =>
    rw [List.map_cons, List.map_cons]
    refine .cons ?_ ih
    obtain ⟨h1, h2, h3⟩ := h
    unfold putAt
    by_cases e : p.1 = k
    · rw [if_pos e, if_pos (h1.symm.trans e)]; exact ⟨h1, h2, ry⟩
    · rw [if_neg e, if_neg (fun z => e (h1.trans z))]; exact ⟨h1, h2, h3⟩
theorem KT.put {H : Hp} {kvs : List (List Key × V)} {xs : List (List Key × Addr × Value)} (r : KT H kvs xs) (k : List Key) {b : Addr} {y : V} {u : Value} (hb : H b = some (.tup (k.map kV))) (ry : RelV y u) :
    KT H (putK kvs k y) (storedH xs k b u) := by
  have e : (kvs.any fun kv => decide (kv.1 = k)) = (atKey xs k).isSome := by
    rw [valV_any, (r.val k).isSome_eq, Option.isSome_map]
  unfold putK storedH
  rw [e]
  by_cases q : (atKey xs k).isSome = true
  · rw [if_pos q, if_pos q]; exact r.repl k ry
  · rw [if_neg q, if_neg q]; exact Paired.snoc r ⟨rfl, hb, ry⟩
theorem KT.keeps {H H' : Hp} {kvs : List (List Key × V)} {xs : List (List Key × Addr × Value)} (r : KT H kvs xs) (ht : ∀ b ys, H b = some (.tup ys) → H' b = some (.tup ys)) : KT H' kvs xs :=
  Paired.mapP r fun _ _ z => ⟨z.1, ht _ _ z.2.1, z.2.2⟩

section
variable {P : Program} {w : World} {H : Hp} {h : Heap} {a : Addr}
end

/-- what the dict at a holds at the key y -/
def DGet (H : Hp) (a : Addr) (y : V) (r : Option V) : Prop :=
  (∃ kvs k, Rd H a (.dK kvs) ∧ y = kV k ∧ r = valV kvs k) ∨ ∃ kvs k b, Rd H a (.dT kvs) ∧ y = .ref b ∧ H b = some (.tup (k.map kV)) ∧ r = valV kvs k
/-- the heap behind a[y] = v -/
def DPut (H : Hp) (a : Addr) (y v : V) (H' : Hp) : Prop :=
  (∃ kvs k, H a = some (.dK kvs) ∧ y = kV k ∧ kvs.length < sizeLine ∧ H' = upd H a (.dK (putK kvs k v))) ∨
  ∃ kvs k b, H a = some (.dT kvs) ∧ y = .ref b ∧ H b = some (.tup (k.map kV)) ∧ kvs.length < sizeLine ∧ H' = upd H a (.dT (putK kvs k v))
theorem DGet.k {H : Hp} {a : Addr} {kvs : List (Key × V)} {k : Key} (e : H a = some (.dK kvs)) : DGet H a (kV k) (valV kvs k) := .inl ⟨kvs, k, .inl e, rfl, rfl⟩
theorem DGet.t {H : Hp} {a b : Addr} {kvs : List (List Key × V)} {k : List Key} (e : H a = some (.dT kvs)) (eb : H b = some (.tup (k.map kV))) : DGet H a (.ref b) (valV kvs k) := .inr ⟨kvs, k, b, .inl e, rfl, eb, rfl⟩
theorem DPut.k {H : Hp} {a : Addr} {kvs : List (Key × V)} {k : Key} {v : V} (e : H a = some (.dK kvs)) (hl : kvs.length < sizeLine) : DPut H a (kV k) v (upd H a (.dK (putK kvs k v))) := .inl ⟨kvs, k, e, rfl, hl, rfl⟩
theorem DPut.t {H : Hp} {a b : Addr} {kvs : List (List Key × V)} {k : List Key} {v : V} (e : H a = some (.dT kvs)) (eb : H b = some (.tup (k.map kV))) (hl : kvs.length < sizeLine) :
    DPut H a (.ref b) v (upd H a (.dT (putK kvs k v))) := .inr ⟨kvs, k, b, e, rfl, eb, hl, rfl⟩


section
variable {X : Cx} {pins : List (Addr × Obj)} {σ : St} {H : Hp} {s : Shared} {a : Addr} {y v : V} {u r : Value} {o : Option V} {A : Around} {E : Value → Shared → Prop}

end

section
variable {X : Cx} {pins : List (Addr × Obj)} {σ : St} {H : Hp} {s : Shared} {a : Addr} {kvs : List (Key × V)} {k : Key} {u : Value} {A : Around} {E : Value → Shared → Prop}
end


/-! ### readings and rules -/
section
variable {X : Cx} {o i e value : Expr} {pos pos' tpos : Pos} {td ty tv : TE}
end


/-! ### displays -/
section
variable {X : Cx} {pos : Pos}
end

/-! ### methods -/
/-- a method call o.m(e) of a built-in, with one argument: what must be seen of the text -/
structure M1 (X : Cx) (o : Expr) (m : Str) (apos : Pos) (e : Expr) (cpos : Pos) : Prop where
  base : attributeBase o m X.env (eval o X.env) = eval o X.env
  few : ((backTo cpos (starEach [e] X.env)).all (fun x => !x.1) && (backToKw cpos (keywordEach [] X.env)).all (fun x => x.1.isSome)
    && decide (([e] : List Expr).length + ([] : List Keyword).length + (if ([] : List Keyword).isEmpty then 0 else 1) < 30)) = true
  line : (apos.endLine == cpos.line) = true
  trees : backTo cpos (starEach [e] X.env) = [(false, eval e X.env)]
structure M2 (X : Cx) (o : Expr) (m : Str) (apos : Pos) (e f : Expr) (cpos : Pos) : Prop where
  base : attributeBase o m X.env (eval o X.env) = eval o X.env
  few : ((backTo cpos (starEach [e, f] X.env)).all (fun x => !x.1) && (backToKw cpos (keywordEach [] X.env)).all (fun x => x.1.isSome)
    && decide (([e, f] : List Expr).length + ([] : List Keyword).length + (if ([] : List Keyword).isEmpty then 0 else 1) < 30)) = true
  line : (apos.endLine == cpos.line) = true
  trees : backTo cpos (starEach [e, f] X.env) = [(false, eval e X.env), (false, eval f X.env)]

section
variable {X : Cx} {pins : List (Addr × Obj)} {σ : St} {H : Hp} {s : Shared} {a : Addr} {y d : V} {u r : Value} {o : Option V} {A : Around} {E : Value → Shared → Prop}
end

section
variable {X : Cx} {o e f : Expr} {apos cpos : Pos} {td ty tx : TE}
end

/-! ### dict(d): a copy -/
section
variable {X : Cx} {pins : List (Addr × Obj)} {σ : St} {H : Hp} {s : Shared} {a : Addr} {kvs : List (Key × V)} {A : Around} {E : Value → Shared → Prop}
end


section
variable {X : Cx} {pins : List (Addr × Obj)} {σ : St} {H : Hp} {s : Shared} {a : Addr} {y : V} {u : Value} {A : Around} {E : Value → Shared → Prop}
end
end L2

namespace Att
open PySem PySem.W PySem.Calls PyProof.Rows

/-! ### the script -/
/-! ### the attachment: holds_open's last premise (the goal 'hc' behind k_head) from a wpAny of the law's body -/
/-! ### rules over ANY heap (no ledger) from facts about the written part K: the library's own take a ledger (News) for what they write -/
section
variable {prog : Program} {w : World} {A : Around} {E : Value → Shared → Prop} {s : Shared} {K : Frag}

/-! the whole heap as the ledger: makes every rule that writes through a ledger a rule over any heap -/
end
end Att

namespace L2
open PySem PySem.Spec PyProof.Rows

end L2

namespace L2
open PySem PySem.Spec PyProof.Rows

end L2


/-! SHORT WORDS over the layer: a def of the text, its body, what a loop and a test want. -/
namespace L2
open PySem PySem.Spec PyProof.Rows

/-! ### the text by places -/
/-! ### no exception leaves a def -/
/-! ### a def (or method) of the text as it stands behind the top -/
section
variable {P : Program} {w : World} {K : PySem.W.Frag} {mg : Str → Option Value} {base : Heap}
end
/-! ### expressions in short: the name that stands in the i-th slot -/
section
variable {X : Cx}
end

/-! ### tests -/
/-! ### heaps -/
/-! ### a dict's pairs: keys that differ -/
section
variable {κ : Type} [DecidableEq κ]
end
end L2
namespace L2
open PySem PySem.Spec PyProof.Rows
/-! ### for k in d: while it is walked the dict stands as the very one it is (its epoch too); thawed behind it -/
section
variable {X : Cx}
end
section
variable {g : TG} {tt : TT} {te : TE} {D : Addr} {σ : St} {H : Hp} {Q : VK}
end
end L2
namespace L2
open PySem PySem.Spec PyProof.Rows
/-! ### d.setdefault(k, x); d.values(), d.items() walked; the dict thawed behind a walk -/
section
variable {X : Cx}
end
section
variable {g : TG} {tt : TT} {te : TE} {D : Addr} {σ : St} {H : Hp} {Q : VK}
end
section
variable {X : Cx} {o e value : Expr} {f : Str} {pos pos' : Pos} {ta tv : TE}
theorem pe_fldK (K : PySem.W.Frag) (he : PE X e ta) (hb : attributeBase e f X.env (eval e X.env) = eval e X.env) (hK : X.K = K := by rfl) : PE X (.Attribute e f pos) (tFld K ta f) := by subst hK; exact pe_fld he hb
theorem ps_fldK (K : PySem.W.Frag) (ha : PE X o ta) (hv : PE X value tv) (hs : swapsWith value (some (.Attribute o f pos')) pos.line X.env = pure false) (hK : X.K = K := by rfl) : PS X (.Assign [.Attribute o f pos'] value pos) (sFld K ta tv f) := by subst hK; exact ps_fld ha hv hs
end
end L2
namespace L2
open PySem PySem.Spec PyProof.Rows
/-! ### a tuple times an int, two or more -/
section
variable {X : Cx}
end
/-! ### nested written tuples: readings in a box, so that nothing is unfolded on the way (unfolded, a written tuple's reading grows with its depth) -/
structure PEx (X : Cx) (e : Expr) (t : TE) : Prop where
  out : PE X e t
structure PAx (X : Cx) (es : List Expr) (t : TA) : Prop where
  out : PA X es t
section
variable {X : Cx} {te : TE} {t : TA} {es es1 : List Expr}
theorem star_bin {l r : Expr} {o : Operator} {p1 : Pos} {env : Env} : starEach (.BinOp l o r p1 :: es) env = (false, eval (.BinOp l o r p1) env) :: starEach es env := rfl
theorem star_con {c : Const} {k1 : Nat} {p1 : Pos} {env : Env} : starEach (.Constant c k1 p1 :: es) env = (false, eval (.Constant c k1 p1) env) :: starEach es env := rfl
theorem x_int {i : Int} {j : Nat} {pos : Pos} : PEx X (.Constant (.int i) j pos) (tC (.int i)) := ⟨pe_int⟩
theorem x_of {e : Expr} (h : PE X e te) : PEx X e te := ⟨h⟩
theorem x_nil : PAx X [] tNil := ⟨pa_nil⟩
theorem x_consB {l r : Expr} {o : Operator} {p1 : Pos} (ha : PEx X (.BinOp l o r p1) te) (hr : PAx X es t) : PAx X (.BinOp l o r p1 :: es) (tCons te t) := ⟨pa_cons ha.out hr.out star_bin⟩
theorem x_consC {c : Const} {k1 : Nat} {p1 : Pos} (ha : PEx X (.Constant c k1 p1) te) (hr : PAx X es t) : PAx X (.Constant c k1 p1 :: es) (tCons te t) := ⟨pa_cons ha.out hr.out star_con⟩
end
end L2
namespace L2
open PySem PySem.Spec PyProof.Rows
/-! ### rows of numbers and None, and what is made of them, compared -/
def ent : Option Int → V
  | none => .non
  | some n => .int n
theorem ent_flat (e : Option Int) : flatV (ent e) = true := by cases e <;> rfl
theorem ent_eqV (x y : Option Int) : eqV (ent x) (ent y) = decide (x = y) := by
  cases x <;> cases y
  · rfl
  · rfl
  · rfl
  · rename_i a b
    show (a == b) = _
    by_cases h : a = b <;> simp [h]
theorem ents_all : ∀ (x y : List (Option Int)), ((List.range (min x.length y.length)).all (fun j => decide ((x[j]?).getD none = (y[j]?).getD none)) && (x.length == y.length)) = decide (x = y)
  | x, y => by
    by_cases h : x = y
    · subst h; simp
    · rw [decide_eq_false h]
      by_cases hl : x.length = y.length
      · rw [Bool.and_eq_false_iff]
        left
        rw [List.all_eq_false]
        apply Classical.byContradiction
        intro hn
        apply h
        apply List.ext_getElem? 
        intro j
        by_cases hj : j < x.length
        · have hj' : j < y.length := by omega
          have := Classical.byContradiction fun hz => hn ⟨j, List.mem_range.mpr (by omega), hz⟩
          have e := of_decide_eq_true this
          simp only [List.getElem?_eq_getElem hj, List.getElem?_eq_getElem hj', Option.getD_some] at e ⊢
          rw [e]
        · rw [List.getElem?_eq_none (by omega), List.getElem?_eq_none (by omega)]
      · simp [hl]
section
variable {X : Cx} {pins : List (Addr × Obj)} {σ : St} {H : Hp} {s : Shared}
end
section
variable {X : Cx}
end
end L2
namespace L2
open PySem PySem.Spec PyProof.Rows
/-! ### rows of numbers and None, and stands, as keys -/
structure Std where
  ah : Int
  rs : Int
  se : List (Option Int)
  to : List (Option Int)
deriving DecidableEq
structure IsStd (K : PySem.W.Frag) (H : Hp) (a : Addr) (s : Std) : Prop where
  ex : ∃ b c, SqT K H a [.int s.ah, .int s.rs, .ref b, .ref c] ∧ SqT K H b (s.se.map ent) ∧ SqT K H c (s.to.map ent)
theorem IsStd.same {K : PySem.W.Frag} {H H' : Hp} {a : Addr} {s : Std} (h : IsStd K H a s) (e : Same H H') : IsStd K H' a s := by
  obtain ⟨b, c, h1, h2, h3⟩ := h.ex
  exact ⟨b, c, e.tup h1, e.tup h2, e.tup h3⟩
def IsRowH (h : Heap) (x : List (Option Int)) (a : Addr) : Prop := ∃ its : List Value, Vals (x.map ent) its ∧ h.IsTuple a its.toArray
def IsStdH (h : Heap) (s : Std) (a : Addr) : Prop := ∃ (b c : Addr) (t t' : Tok), h.IsTuple a #[.int s.ah t, .int s.rs t', .ref b, .ref c] ∧ IsRowH h s.se b ∧ IsRowH h s.to c
def noneHash : Int := 0xFCA86420
def entHash : Option Int → Int
  | some k => hashInt k
  | none => noneHash
def rowHash (x : List (Option Int)) : Int := reduceHash (Builtin.Tuple.tupleHashOf (x.map entHash))
def stdHash (s : Std) : Int := reduceHash (Builtin.Tuple.tupleHashOf [hashInt s.ah, hashInt s.rs, rowHash s.se, rowHash s.to])
theorem tup_inj {h : Heap} {a : Addr} {x y : Array Value} (hx : h.IsTuple a x) (hy : h.IsTuple a y) : x = y := by
  obtain ⟨o, ho, _, n, hd⟩ := hx
  obtain ⟨o', ho', _, n', hd'⟩ := hy
  rw [ho] at ho'
  obtain rfl := Option.some.inj ho'
  rw [hd] at hd'
  injection hd' with h1 _
theorem ents_rel : ∀ {x y : List (Option Int)} {vs : List Value}, Vals (x.map ent) vs → Vals (y.map ent) vs → x = y
  | [], [], _, _, _ => rfl
  | [], _ :: _, _, .nil, h => by cases h
  | _ :: _, [], _, h, .nil => by cases h
  | a :: x, b :: y, _, .cons r t, .cons r' t' => by
    rw [ents_rel t t']
    congr 1
    cases a with
    | none =>
      cases b with
      | none => rfl
      | some j => cases (show _ = Value.none from r); obtain ⟨_, e⟩ := (show ∃ t, Value.none = Value.int j t from r'); cases e
    | some i =>
      obtain ⟨u, rfl⟩ := (show ∃ t, _ = Value.int i t from r)
      cases b with
      | none => have e := (show Value.int i u = Value.none from r'); cases e
      | some j => obtain ⟨_, e⟩ := (show ∃ t, Value.int i u = Value.int j t from r'); cases e; rfl
theorem IsRowH.inj {h : Heap} {a : Addr} {x y : List (Option Int)} (hx : IsRowH h x a) (hy : IsRowH h y a) : x = y := by
  obtain ⟨its, r, ht⟩ := hx
  obtain ⟨its', r', ht'⟩ := hy
  have e := tup_inj ht ht'
  have e' : its = its' := by simpa using congrArg Array.toList e
  subst e'
  exact ents_rel r r'
theorem IsStdH.inj {h : Heap} {a : Addr} {x y : Std} (hx : IsStdH h x a) (hy : IsStdH h y a) : x = y := by
  obtain ⟨b, c, t, t', ht, h1, h2⟩ := hx
  obtain ⟨b', c', u, u', hu, k1, k2⟩ := hy
  have e := congrArg Array.toList (tup_inj ht hu)
  simp only [List.cons.injEq, and_true, Value.int.injEq, Value.ref.injEq] at e
  obtain ⟨⟨e1, _⟩, ⟨e2, _⟩, rfl, rfl⟩ := e
  have e3 := h1.inj k1
  have e4 := h2.inj k2
  cases x; cases y
  simp only at e1 e2 e3 e4
  rw [e1, e2, e3, e4]
theorem tup_keep {h h' : Heap} {a d : Addr} {x : Array Value} {o : Obj} {es ep} (hx : h.IsTuple a x) (ho : h.get? d = some o) (hd : o.data = .dict es ep) (hs : Heap.SameBut d h h') : h'.IsTuple a x := by
  obtain ⟨o', ho', hc, n, hd'⟩ := hx
  have hne : a ≠ d := by
    rintro rfl
    rw [ho] at ho'
    obtain rfl := Option.some.inj ho'
    rw [hd] at hd'
    exact nomatch hd'
  exact ⟨o', (hs.2 a hne).trans ho', hc, n, hd'⟩
section
variable {prog : Program} {w : World} {A : Around} {E : Value → Shared → Prop} {s : Shared}
theorem pyHash_none {Q : Int → Shared → Prop} (h : Q noneHash { s with toks := s.toks + 1 }) : wpAny (model prog w) A (pyHash .none) Q E s := by
  have hT := typeIs_none s
  unfold pyHash
  unfold pyHashByItsType
  have hv : [Value.none].any Value.onHeap = false := rfl
  refine wpAny_bind ?_
  rw [cRoomFor, if_neg (by rw [hv]; exact Bool.false_ne_true)]; refine wpAny_pure ?_
  refine wpAny_bind (wpAny_specialOf hT F.slot_NoneType_hash.lookup ?_)
  refine (show wpAny _ _ (if (some (Value.builtin "NoneType.__hash__") == some Value.none) = true then _ else _) Q E s from ?_)
  rw [if_neg (by rw [beq_builtin_none]; exact Bool.false_ne_true)]
  refine wpAny_bind (wpAny_specialOf hT F.slot_NoneType_hash.lookup ?_)
  refine (show wpAny _ _ (callSpecialIfBoundUnlessNone? Value.none "__hash__" _ >>= _) Q E s from ?_)
  refine wpAny_bind (wpAny_callSpecialIfBoundUnlessNone?_slot hT F.slot_NoneType_hash (wpAny_call_entry F.slot_NoneType_hash hT F.entry_NoneType_hash ?_ (F.args_NoneType_hash_1 _)))
  refine (show wpAny _ _ (do ret (← mkInt 0xFCA86420)) _ _ s from wpAny_ret_mkInt ?_)
  exact wpAny_pure h
/-- the hash of a tuple, by its items' -/
theorem pyHash_items {a : Addr} {all : List (Value × Int × Nat)} {Q : Int → Shared → Prop} (hu : A.units < cLine) (ht : s.heap.IsTuple a (all.map (·.1)).toArray)
    (hi : ∀ x ∈ all, ∀ (tk : Nat) (Q : Int → Shared → Prop), Q x.2.1 { s with toks := tk + x.2.2 } → wpAny (model prog w) A.in1 (pyHash x.1) Q E { s with toks := tk })
    (h : Q (reduceHash (Builtin.Tuple.tupleHashOf (all.map (·.2.1)))) { s with toks := s.toks + ((all.map (·.2.2)).sum + 1) }) : wpAny (model prog w) A (pyHash (.ref a)) Q E s := by
  have hT : s.TypeIs (.ref a) "tuple" := let ⟨o, ho, hc, _⟩ := ht; ⟨o, ho, hc⟩
  obtain ⟨o, ho, _, n, hd⟩ := ht
  unfold pyHash
  unfold pyHashByItsType
  refine wpAny_bind (wpAny_cRoomFor_or (.inr hu) ?_)
  refine wpAny_bind (wpAny_specialOf hT F.slot_tuple_hash.lookup ?_)
  refine (show wpAny _ _ (if (some (Value.builtin "tuple.__hash__") == some Value.none) = true then _ else _) Q E s from ?_)
  rw [if_neg (by rw [beq_builtin_none]; exact Bool.false_ne_true)]
  refine wpAny_bind (wpAny_specialOf hT F.slot_tuple_hash.lookup ?_)
  refine (show wpAny _ _ (callSpecialIfBoundUnlessNone? (.ref a) "__hash__" _ >>= _) Q E s from ?_)
  refine wpAny_bind (wpAny_callSpecialIfBoundUnlessNone?_slot hT F.slot_tuple_hash (wpAny_call_entry F.slot_tuple_hash hT F.entry_tuple_hash ?_ (F.args_tuple_hash_1 _)))
  refine (show wpAny _ _ (Builtin.Tuple.tupleItemsOf (.ref a) >>= _) _ _ s from wpAny_bind (wpAny_tupleItemsOf ho hd (wpAny_bind ?_)))
  rw [← Array.forIn_toList]
  refine wpAny_forIn_list _
    (fun rest (b : Array Int) s' => ∃ done left, all = done ++ left ∧ rest = left.map (·.1) ∧ b.toList = done.map (·.2.1) ∧ s' = { s with toks := s.toks + (done.map (·.2.2)).sum })
    _ ?_ ?_ _ _ ⟨[], all, rfl, by simp, rfl, rfl⟩
  · rintro x rest b s' ⟨done, left, rfl, hl, hb, rfl⟩
    match left, hl with
    | y :: left', hl =>
      rw [List.map_cons] at hl
      obtain ⟨rfl, rfl⟩ := List.cons.inj hl
      refine wpAny_bind (hi y (by simp) _ _ ?_)
      first
        | exact wpAny_pure ⟨done ++ [y], left', by simp, rfl, by simp [hb], by simp [Nat.add_assoc]⟩
        | exact wpAny_bind (wpAny_pure (wpAny_pure ⟨done ++ [y], left', by simp, rfl, by simp [hb], by simp [Nat.add_assoc]⟩))
  · rintro b s' ⟨done, left, rfl, hl, hb, rfl⟩
    have : left = [] := List.map_eq_nil_iff.mp hl.symm
    subst this
    rw [List.append_nil] at h
    refine (show wpAny _ _ (retInt (Builtin.Tuple.tupleHashOf b.toList)) _ _ _ from ?_)
    rw [hb]
    refine wpAny_ret_mkInt ?_
    refine (show wpAny _ _ (if (decide (-(2 : Int) ^ 63 ≤ Builtin.Tuple.tupleHashOf (done.map (·.2.1))) && decide (Builtin.Tuple.tupleHashOf (done.map (·.2.1)) < 2 ^ 63)) = true then _ else _) Q E _ from ?_)
    unfold reduceHash at h
    by_cases hr : (decide (-(2 : Int) ^ 63 ≤ Builtin.Tuple.tupleHashOf (done.map (·.2.1))) && decide (Builtin.Tuple.tupleHashOf (done.map (·.2.1)) < 2 ^ 63)) = true
    · rw [if_pos hr]
      rw [if_pos hr] at h
      exact wpAny_pure (by simpa [Nat.add_assoc] using h)
    · rw [if_neg hr]
      rw [if_neg hr] at h
      exact wpAny_bind (wpAny_rule (wpAny_pure (by simpa [Nat.add_assoc] using h)))
theorem pyHash_row {x : List (Option Int)} {a : Addr} {Q : Int → Shared → Prop} (hu : A.units < cLine) (hx : IsRowH s.heap x a) (h : Q (rowHash x) { s with toks := s.toks + (x.length + 1) }) : wpAny (model prog w) A (pyHash (.ref a)) Q E s := by
  obtain ⟨its, r, ht⟩ := hx
  have hl := r.length
  rw [List.length_map] at hl
  have sums : ∀ {x : List (Option Int)} {its : List Value}, Vals (x.map ent) its → ∃ all : List (Value × Int × Nat), all.map (·.1) = its ∧ all.map (·.2.1) = x.map entHash ∧ (all.map (·.2.2)).sum = x.length ∧ ∀ y ∈ all, y.2.2 = 1 ∧ ((y.1 = .none ∧ y.2.1 = noneHash) ∨ ∃ i t, y.1 = .int i t ∧ y.2.1 = hashInt i) := by
    intro x
    induction x with
    | nil => intro its r; cases r; exact ⟨[], rfl, rfl, rfl, fun y hy => by cases hy⟩
    | cons e x ih =>
      intro its r
      cases r with
      | cons r t =>
        obtain ⟨all, a1, a2, a3, a4⟩ := ih t
        cases e with
        | none =>
          cases (show _ = Value.none from r)
          refine ⟨(.none, noneHash, 1) :: all, by simp [a1], by simp [a2, entHash], by simp [a3]; omega, fun y hy => ?_⟩
          rcases List.mem_cons.mp hy with rfl | hy
          · exact ⟨rfl, .inl ⟨rfl, rfl⟩⟩
          · exact a4 y hy
        | some i =>
          obtain ⟨u, rfl⟩ := (show ∃ t, _ = Value.int i t from r)
          refine ⟨(.int i u, hashInt i, 1) :: all, by simp [a1], by simp [a2, entHash], by simp [a3]; omega, fun y hy => ?_⟩
          rcases List.mem_cons.mp hy with rfl | hy
          · exact ⟨rfl, .inr ⟨i, u, rfl, rfl⟩⟩
          · exact a4 y hy
  obtain ⟨all, a1, a2, a3, a4⟩ := sums r
  refine pyHash_items (all := all) hu (by rw [a1]; exact ht) (fun y hy tk Q' hq => ?_) (by rw [a2, a3]; exact h)
  obtain ⟨e1, e2⟩ := a4 y hy
  rw [e1] at hq
  rcases e2 with ⟨e3, e4⟩ | ⟨i, t, e3, e4⟩
  · rw [e3]; rw [e4] at hq; exact pyHash_none hq
  · rw [e3]; rw [e4] at hq; exact wpAny_pyHash_int hq
theorem pyHash_std {x : Std} {a : Addr} {Q : Int → Shared → Prop} (hu : A.units + 1 < cLine) (hx : IsStdH s.heap x a) (h : Q (stdHash x) { s with toks := s.toks + (x.se.length + x.to.length + 5) }) : wpAny (model prog w) A (pyHash (.ref a)) Q E s := by
  obtain ⟨b, c, t, t', ht, h1, h2⟩ := hx
  refine pyHash_items (all := [(.int x.ah t, hashInt x.ah, 1), (.int x.rs t', hashInt x.rs, 1), (.ref b, rowHash x.se, x.se.length + 1), (.ref c, rowHash x.to, x.to.length + 1)]) (by omega) ht (fun y hy tk Q' hq => ?_) ?_
  · simp only [List.mem_cons, List.not_mem_nil, or_false] at hy
    rcases hy with rfl | rfl | rfl | rfl
    · exact wpAny_pyHash_int hq
    · exact wpAny_pyHash_int hq
    · exact pyHash_row (by show A.units + 1 < cLine; exact hu) h1 hq
    · exact pyHash_row (by show A.units + 1 < cLine; exact hu) h2 hq
  · have e : (([(.int x.ah t, hashInt x.ah, 1), (.int x.rs t', hashInt x.rs, 1), (.ref b, rowHash x.se, x.se.length + 1), (.ref c, rowHash x.to, x.to.length + 1)] : List (Value × Int × Nat)).map (·.2.2)).sum + 1 = x.se.length + x.to.length + 5 := by simp; omega
    rw [e]
    exact h
theorem rowAt {x y : List (Option Int)} {a b : Addr} (hu : A.units < cLine) (hx : IsRowH s.heap x a) (hy : IsRowH s.heap y b) : SeqAt.EqAt A s (.ref a) (.ref b) (decide (x = y)) := by
  by_cases hab : a = b
  · subst hab
    rw [decide_eq_true (hx.inj hy)]
    exact SeqAt.EqAt.same _
  · obtain ⟨its, r1, p1⟩ := hx
    obtain ⟨its2, r2, p2⟩ := hy
    have l1 := r1.length
    have l2 := r2.length
    rw [List.length_map] at l1 l2
    refine SeqAt.EqAt.of_refs hab ?_
    have q := SeqAt.RcAt.tuples (A := A) (s := s) (e := fun j => decide ((x[j]?).getD none = (y[j]?).getD none)) p1 p2 hu fun j h1 h2 => ?_
    · rw [List.size_toArray, List.size_toArray, ← l1, ← l2, ents_all] at q
      exact q
    · obtain ⟨u, hx, rx⟩ := rel_at r1 j h1
      obtain ⟨v, hy, ry⟩ := rel_at r2 j h2
      rw [List.getElem?_map] at hx hy
      cases ex : x[j]? with
      | none => rw [ex] at hx; cases hx
      | some eu =>
        cases ey : y[j]? with
        | none => rw [ey] at hy; cases hy
        | some ev =>
          rw [ex] at hx
          rw [ey] at hy
          obtain rfl : ent eu = u := Option.some.inj hx
          obtain rfl : ent ev = v := Option.some.inj hy
          have := eqAt_V (A := A.in1) (s := s) rx ry (ent_flat eu) (ent_flat ev)
          rw [ent_eqV] at this
          exact this
theorem stdAt {x y : Std} {a b : Addr} (hu : A.units + 1 < cLine) (hx : IsStdH s.heap x a) (hy : IsStdH s.heap y b) : SeqAt.EqAt A s (.ref a) (.ref b) (decide (x = y)) := by
  by_cases hab : a = b
  · subst hab
    rw [decide_eq_true (hx.inj hy)]
    exact SeqAt.EqAt.same _
  · obtain ⟨b1, c1, t1, u1, p1, g1, g2⟩ := hx
    obtain ⟨b2, c2, t2, u2, p2, k1, k2⟩ := hy
    refine SeqAt.EqAt.of_refs hab ?_
    have q := SeqAt.RcAt.tuples (A := A) (s := s) (e := fun j => if j = 0 then (x.ah == y.ah) else if j = 1 then (x.rs == y.rs) else if j = 2 then decide (x.se = y.se) else decide (x.to = y.to)) p1 p2 (by omega) fun j h1 h2 => ?_
    · have e : ((List.range (min 4 4)).all (fun j => if j = 0 then (x.ah == y.ah) else if j = 1 then (x.rs == y.rs) else if j = 2 then decide (x.se = y.se) else decide (x.to = y.to)) && ((4 : Nat) == 4)) = decide (x = y) := by
        have e4 : List.range (min 4 4) = [0, 1, 2, 3] := rfl
        rw [e4]
        cases x; cases y
        rw [Bool.eq_iff_iff]
        simp
      exact e ▸ q
    · match j, h1, h2 with
      | 0, _, _ => exact SeqAt.EqAt.int_int _ _ _ _
      | 1, _, _ => exact SeqAt.EqAt.int_int _ _ _ _
      | 2, _, _ => exact rowAt (by show A.units + 1 < cLine; exact hu) g1 k1
      | 3, _, _ => exact rowAt (by show A.units + 1 < cLine; exact hu) g2 k2
      | j + 4, h1, _ => exact absurd h1 (by show ¬ (j + 4 < 4); omega)
theorem quiet_items (n : Nat) {a : Addr} {items : Array Value} {Q : Bool → Shared → Prop} (ht : s.heap.IsTuple a items) (hi : ∀ v ∈ items.toList, ∀ Q : Bool → Shared → Prop, Q true s → wpAny (model prog w) A (eqIsQuiet n v) Q E s) (h : Q true s) : wpAny (model prog w) A (eqIsQuiet (n + 1) (.ref a)) Q E s := by
  have hT : s.TypeIs (.ref a) "tuple" := let ⟨o, ho, hc, _⟩ := ht; ⟨o, ho, hc⟩
  obtain ⟨o, ho, _, m, hd⟩ := ht
  unfold eqIsQuiet
  refine wpAny_bind (wpAny_specialOf hT F.slot_tuple_eq.lookup ?_)
  refine (show wpAny _ _ (isInstance (.ref a) (.type "tuple") >>= _) _ _ s from wpAny_bind (wpAny_isInstance hT isSubtype_tuple_tuple ?_))
  simp only [Bool.not_true, Bool.false_eq_true, if_false]
  refine wpAny_bind (wpAny_seqItems ho hd (wpAny_bind ?_))
  refine (show wpAny _ _ (forIn items _ _) _ _ s from ?_)
  rw [← Array.forIn_toList]
  refine wpAny_forIn_list _ (fun rest r s' => r.1 = none ∧ s' = s ∧ ∀ v ∈ rest, v ∈ items.toList) _ ?_ ?_ _ _ ⟨rfl, rfl, fun v hv => hv⟩
  · rintro v rest r s' ⟨hr, rfl, hall⟩
    refine wpAny_bind (hi v (hall v List.mem_cons_self) _ ?_)
    simp only [Bool.not_true, Bool.false_eq_true, if_false]
    exact wpAny_pure ⟨rfl, rfl, fun u hu' => hall u (List.mem_cons_of_mem _ hu')⟩
  · rintro ⟨r1, r2⟩ s' ⟨hr, rfl, _⟩
    simp only at hr
    subst hr
    exact wpAny_pure h
theorem quiet_row (n : Nat) {x : List (Option Int)} {a : Addr} {Q : Bool → Shared → Prop} (hx : IsRowH s.heap x a) (h : Q true s) : wpAny (model prog w) A (eqIsQuiet (n + 1) (.ref a)) Q E s := by
  obtain ⟨its, r, ht⟩ := hx
  refine quiet_items n ht (fun v hv Q' hq => ?_) h
  have hb : carriedByValue v = true := by
    have hv' : v ∈ its := by simpa using hv
    clear hv
    have all : ∀ {x : List (Option Int)} {its : List Value}, Vals (x.map ent) its → ∀ v ∈ its, carriedByValue v = true := by
      intro x
      induction x with
      | nil => intro its r v hv; cases r; cases hv
      | cons e x ih =>
        intro its r v hv
        cases r with
        | cons r t =>
          rcases List.mem_cons.mp hv with rfl | hv
          · cases e with
            | none => cases (show v = Value.none from r); rfl
            | some i => obtain ⟨u, rfl⟩ := (show ∃ t, v = Value.int i t from r); rfl
          · exact ih t v hv
    exact all r v hv'
  rw [eqIsQuiet_byValue _ hb]
  exact wpAny_pure hq
theorem quiet_std {x : Std} {a : Addr} {Q : Bool → Shared → Prop} (hx : IsStdH s.heap x a) (h : Q true s) : wpAny (model prog w) A (eqIsQuiet 8 (.ref a)) Q E s := by
  obtain ⟨b, c, t, t', ht, h1, h2⟩ := hx
  refine quiet_items 7 ht (fun v hv Q' hq => ?_) h
  simp only [List.mem_cons, List.not_mem_nil, or_false] at hv
  rcases hv with rfl | rfl | rfl | rfl
  · rw [eqIsQuiet_byValue _ rfl]; exact wpAny_pure hq
  · rw [eqIsQuiet_byValue _ rfl]; exact wpAny_pure hq
  · exact quiet_row 6 h1 hq
  · exact quiet_row 6 h2 hq
end
def stdKind (prog : Program) (w : World) : HeapKind prog w Std where
  is := IsStdH
  hash := stdHash
  draws := fun x => x.se.length + x.to.length + 5
  room := fun A => A.units + 1 < cLine
  inj := fun hx hy => hx.inj hy
  keeps := fun {h h' k a d o es ep} hx ho hd hs => by
    obtain ⟨b, c, t, t', ht, ⟨i1, r1, p1⟩, ⟨i2, r2, p2⟩⟩ := hx
    exact ⟨b, c, t, t', tup_keep ht ho hd hs, ⟨i1, r1, tup_keep p1 ho hd hs⟩, ⟨i2, r2, tup_keep p2 ho hd hs⟩⟩
  pyHash := fun hu hk h => pyHash_std hu hk h
  eqBool := fun hu hx hy h => stdAt hu hx hy _ _ _ _ h
  quiet := fun hk h => quiet_std hk h
end L2
namespace L2
open PySem PySem.Spec PyProof.Rows
/-! ### a dict whose keys are stands -/
abbrev SX := List (Std × Addr × V)
def stdEntry (q : Std × Addr × Value) : DictEntry := ⟨stdHash q.1, .ref q.2.1, q.2.2⟩
abbrev P3 : SX → List (Std × Addr × Value) → Prop := Paired fun p q => p.1 = q.1 ∧ p.2.1 = q.2.1 ∧ RelV p.2.2 q.2.2
def DSφ (a : Addr) (xs : SX) (h : Heap) : Prop := xs.length ≤ sizeLine ∧ (a == sysModules) = false ∧ (xs.map (·.1)).Nodup ∧ ∃ vs : List (Std × Addr × Value), P3 xs vs ∧ ∃ o es ep, h.get? a = some o ∧ o.ExactDict ∧ o.data = .dict es ep ∧ es.toList = vs.map stdEntry
def DS (a : Addr) (xs : SX) : HO := .ext (DSφ a xs)
/-- what the dict holds at a key -/
def valS (xs : SX) (k : Std) : Option V := (xs.find? fun x => decide (x.1 = k)).map (·.2.2)
def putS (xs : SX) (k : Std) (b : Addr) (v : V) : SX := if (valS xs k).isSome then xs.map (fun x => if x.1 = k then (x.1, x.2.1, v) else x) else xs ++ [(k, b, v)]
theorem P3.val {xs : SX} {vs : List (Std × Addr × Value)} (r : P3 xs vs) (k : Std) : RelO (valS xs k) ((atKey vs k).map (·.2)) := by
  induction r with
  | nil => exact True.intro
  | @cons p q ps qs h t ih =>
    obtain ⟨h1, _, h2⟩ := h
    by_cases e : p.1 = k
    · have e' : q.1 = k := h1.symm.trans e
      have b : atKey (q :: qs) k = some q.2 := by simp [atKey, List.find?_cons, e']
      have b' : valS (p :: ps) k = some p.2.2 := by simp [valS, List.find?_cons, e]
      rw [b', b]; exact h2
    · have e' : ¬ q.1 = k := fun z => e (h1.trans z)
      have b : atKey (q :: qs) k = atKey qs k := by simp [atKey, List.find?_cons, e']
      have b' : valS (p :: ps) k = valS ps k := by simp [valS, List.find?_cons, e]
      rw [b', b]; exact ih
theorem P3.repl {xs : SX} {vs : List (Std × Addr × Value)} (r : P3 xs vs) (k : Std) {y : V} {u : Value} (ry : RelV y u) :
    P3 (xs.map fun x => if x.1 = k then (x.1, x.2.1, y) else x) (vs.map (putAt k u)) := by
  induction r with
  | nil => exact .nil
  | @cons p q ps qs h t ih =>
    rw [List.map_cons, List.map_cons]
    refine .cons ?_ ih
    obtain ⟨h1, h2, h3⟩ := h
    unfold putAt
    by_cases e : p.1 = k
    · rw [if_pos e, if_pos (h1.symm.trans e)]; exact ⟨h1, h2, ry⟩
    · rw [if_neg e, if_neg (fun z => e (h1.trans z))]; exact ⟨h1, h2, h3⟩
theorem P3.put {xs : SX} {vs : List (Std × Addr × Value)} (r : P3 xs vs) (k : Std) (b : Addr) {y : V} {u : Value} (ry : RelV y u) : P3 (putS xs k b y) (storedH vs k b u) := by
  have e : (valS xs k).isSome = (atKey vs k).isSome := by rw [(r.val k).isSome_eq, Option.isSome_map]
  unfold putS storedH
  rw [e]
  by_cases q : (atKey vs k).isSome = true
  · rw [if_pos q, if_pos q]; exact r.repl k ry
  · rw [if_neg q, if_neg q]; exact Paired.snoc r ⟨rfl, rfl, ry⟩
theorem P3.keys {xs : SX} {vs : List (Std × Addr × Value)} (r : P3 xs vs) : xs.map (·.1) = vs.map (·.1) := by
  induction r with
  | nil => rfl
  | cons h t ih => rw [List.map_cons, List.map_cons, ih, h.1]
/-- the dict at a, read: its keys are stands -/
structure SD (K : PySem.W.Frag) (H : Hp) (a : Addr) (xs : SX) : Prop where
  at_ : H a = some (DS a xs)
  keys : ∀ p ∈ xs, IsStd K H p.2.1 p.1
section
variable {X : Cx} {pins : List (Addr × Obj)} {σ : St} {H : Hp} {s : Shared} {a : Addr} {xs : SX} {A : Around} {E : Value → Shared → Prop}
theorem row_h (I : Inv X pins σ H s) {b : Addr} {x : List (Option Int)} (h : SqT X.K H b (x.map ent)) : IsRowH s.heap x b := by
  obtain ⟨its, r, ht, _⟩ := I.tuple h
  exact ⟨its, r, ht⟩
theorem std_h (I : Inv X pins σ H s) {b : Addr} {k : Std} (h : IsStd X.K H b k) : IsStdH s.heap k b := by
  obtain ⟨p, q, h1, h2, h3⟩ := h.ex
  obtain ⟨its, r, ht, _⟩ := I.tuple h1
  cases r with
  | cons r1 r =>
    cases r with
    | cons r2 r =>
      cases r with
      | cons r3 r =>
        cases r with
        | cons r4 r =>
          cases r
          obtain ⟨t, rfl⟩ := r1
          obtain ⟨t', rfl⟩ := r2
          cases r3
          cases r4
          exact ⟨p, q, t, t', ht, row_h I h2, row_h I h3⟩
theorem IsStd.inj (I : Inv X pins σ H s) {b : Addr} {k k' : Std} (h : IsStd X.K H b k) (h' : IsStd X.K H b k') : k = k' := (std_h I h).inj (std_h I h')
theorem SD.raw (I : Inv X pins σ H s) (d : H a = some (DS a xs)) : DSφ a xs s.heap := (I.hok a _ d).1
theorem SD.dict (I : Inv X pins σ H s) (d : SD X.K H a xs) : xs.length ≤ sizeLine ∧ (a == sysModules) = false ∧ (xs.map (·.1)).Nodup ∧ ∃ vs, P3 xs vs ∧ s.heap.DictOfH (stdKind X.prog X.w) a vs := by
  obtain ⟨z, hd, hn, vs, r, o, es, ep, h1, h2, h3, h4⟩ := SD.raw I d.at_
  refine ⟨z, hd, hn, vs, r, o, es, ep, h1, h2, h3, h4, ?_, by rw [← r.keys]; exact hn⟩
  have all : ∀ {l : SX} {m : List (Std × Addr × Value)}, P3 l m → (∀ p ∈ l, IsStd X.K H p.2.1 p.1) → ∀ x ∈ m, (stdKind X.prog X.w).is s.heap x.1 x.2.1 := by
    intro l m q
    induction q with
    | nil => intro _ x hx; exact nomatch hx
    | @cons p q ps qs hq t ih =>
      intro hl x hx
      rcases List.mem_cons.mp hx with e | hx
      · subst e
        rw [← hq.1, ← hq.2.1]
        exact std_h I (hl p List.mem_cons_self)
      · exact ih (fun p hp => hl p (List.mem_cons_of_mem _ hp)) x hx
  exact all r d.keys
end
/-! ### d[k], k in d, k not in d -/
section
variable {X : Cx}
variable {o i value : Expr} {pos pos' : Pos} {td ty tv : TE}
end
end L2
namespace L2
open PySem PySem.Spec PyProof.Rows
/-! ### a dict by its entries: its length, its keys as a list -/
def DRaw (d : Addr) (es : Array DictEntry) (ep : Nat) (h : Heap) : Prop := ∃ o, h.get? d = some o ∧ o.ExactDict ∧ o.data = .dict es ep
theorem DRaw.typeIs {s : Shared} {d : Addr} {es : Array DictEntry} {ep : Nat} (x : DRaw d es ep s.heap) : s.TypeIs (.ref d) "dict" := let ⟨o, ho, hc, _⟩ := x; ⟨o, ho, hc.1⟩
theorem DRaw.lt {h : Heap} {d : Addr} {es : Array DictEntry} {ep : Nat} (x : DRaw d es ep h) : d < h.objs.size := let ⟨_, ho, _⟩ := x; Heap.lt_size ho
theorem DRaw.at_ {h h' : Heap} {d : Addr} {es : Array DictEntry} {ep : Nat} (x : DRaw d es ep h) (e : ∀ o, h.get? d = some o → h'.get? d = some o) : DRaw d es ep h' := let ⟨o, ho, r⟩ := x; ⟨o, e _ ho, r⟩
section
variable {prog : Program} {w : World} {A : Around} {E : Value → Shared → Prop} {s : Shared} {d : Addr} {es : Array DictEntry} {ep : Nat}
end
section
variable {prog : Program} {w : World} {A : Around} {E : Value → Shared → Prop} {s : Shared} {d : Addr} {es : Array DictEntry} {ep : Nat}
end
section
variable {X : Cx}
end
end L2
namespace L2
open PySem PySem.Spec PyProof.Rows
/-! ### dict(pairs) of a list of pairs, the first of each a stand -/
theorem IsRowH.at_ {h h' : Heap} {x : List (Option Int)} {a : Addr} (r : IsRowH h x a) (k : ∀ b o, h.get? b = some o → h'.get? b = some o) : IsRowH h' x a := by
  obtain ⟨its, r, o, ho, z⟩ := r
  exact ⟨its, r, o, k _ _ ho, z⟩
theorem IsStdH.at_ {h h' : Heap} {x : Std} {a : Addr} (r : IsStdH h x a) (k : ∀ b o, h.get? b = some o → h'.get? b = some o) : IsStdH h' x a := by
  obtain ⟨b, c, t, t', ⟨o, ho, z⟩, h1, h2⟩ := r
  exact ⟨b, c, t, t', ⟨o, k _ _ ho, z⟩, h1.at_ k, h2.at_ k⟩
abbrev RQ := Addr × Std × Addr × Value
section
variable {prog : Program} {w : World} {A : Around} {h0 : Heap} {d it l : Addr} {L : List RQ}
end
section
variable {X : Cx} {pins : List (Addr × Obj)} {σ : St} {H : Hp} {s : Shared}
end
end L2
namespace L2
open PySem PySem.Spec PyProof.Rows
/-! ### a stand in a list of stands; list.insert -/
theorem SD.same {K : PySem.W.Frag} {H H' : Hp} {a : Addr} {xs : SX} (h : SD K H a xs) (e : Same H H') : SD K H' a xs := ⟨e _ _ h.at_, fun p hp => (h.keys p hp).same e⟩
/-- what is no tuple changes -/
theorem tup_upd {K : PySem.W.Frag} {H : Hp} {l a : Addr} {o' o : HO} {xs : List V} (hl : H l = some o') (hn : ∀ ys, o' ≠ .tup ys) (hf : ∀ u ys, o' ≠ .frz u (.tup ys)) (h : SqT K H a xs) : SqT K (upd H l o) a xs := by
  rcases h with (h | ⟨u, h⟩) | h
  · exact .inl (.inl (by rw [upd_ne (fun z => by rw [z, hl] at h; exact hn _ (Option.some.inj h))]; exact h))
  · exact .inl (.inr ⟨u, by rw [upd_ne (fun z => by rw [z, hl] at h; exact hf _ _ (Option.some.inj h))]; exact h⟩)
  · exact .inr h
theorem IsStd.updD {K : PySem.W.Frag} {H : Hp} {l a : Addr} {ys : SX} {o : HO} {s : Std} (h : IsStd K H a s) (hl : H l = some (DS l ys)) : IsStd K (upd H l o) a s := by
  obtain ⟨b, c, h1, h2, h3⟩ := h.ex
  have n1 : ∀ zs, DS l ys ≠ .tup zs := fun _ e => nomatch e
  have n2 : ∀ u zs, DS l ys ≠ .frz u (.tup zs) := fun _ _ e => nomatch e
  exact ⟨b, c, tup_upd hl n1 n2 h1, tup_upd hl n1 n2 h2, tup_upd hl n1 n2 h3⟩
theorem putS_keys_are {K : PySem.W.Frag} {H : Hp} {xs : SX} {k : Std} {b : Addr} {v : V} (h : ∀ p ∈ xs, IsStd K H p.2.1 p.1) (hb : IsStd K H b k) : ∀ p ∈ putS xs k b v, IsStd K H p.2.1 p.1 := by
  intro p hp
  unfold putS at hp
  split at hp
  · rw [List.mem_map] at hp
    obtain ⟨q, hq, rfl⟩ := hp
    split
    · exact h q hq
    · exact h q hq
  · rcases List.mem_append.mp hp with hp | hp
    · exact h p hp
    · rw [List.mem_singleton.mp hp]; exact hb
theorem SD.put {K : PySem.W.Frag} {H : Hp} {a b : Addr} {xs : SX} {k : Std} {v : V} (h : SD K H a xs) (hb : IsStd K H b k) : SD K (upd H a (DS a (putS xs k b v))) a (putS xs k b v) :=
  ⟨upd_same, fun p hp => (putS_keys_are h.keys hb p hp).updD h.at_⟩
section
variable {X : Cx} {pins : List (Addr × Obj)} {σ : St} {H : Hp} {s : Shared}
end
section
variable {X : Cx}
end
end L2
namespace L2
open PySem PySem.Spec PyProof.Rows
/-! ### for k in d, the keys being tuples: while it is walked the dict stands by its very entries; thawed behind it -/
abbrev XT := List (List Key × Addr × Value)
structure DtOk (P : Program) (w : World) (H : Hp) (d : Addr) (kvs : List (List Key × V)) (u : HO) (bs : Nat → Addr) : Prop where
  z : kvs.length ≤ sizeLine
  sm : (d == sysModules) = false
  ks : ∀ i k v, kvs[i]? = some (k, v) → H (bs i) = some (.tup (k.map kV))
  ex : ∃ (xs : XT) (es : Array DictEntry) (ep : Nat), Paired (fun (p : List Key × V) (q : List Key × Addr × Value) => p.1 = q.1 ∧ H q.2.1 = some (.tup (p.1.map kV)) ∧ RelV p.2 q.2.2) kvs xs ∧
    es.toList = xs.map (entryOfKey (tupleKind (mixKind P w))) ∧ (xs.map (·.1)).Nodup ∧ (∀ i x, xs[i]? = some x → bs i = x.2.1) ∧ u = .ext (DRaw d es ep)
section
variable {X : Cx}
/-- the keys stand where tuples stand -/
theorem DtOk.keep {P : Program} {w : World} {H H' : Hp} {d : Addr} {kvs : List (List Key × V)} {u : HO} {bs : Nat → Addr} (h : DtOk P w H d kvs u bs) (k : ∀ a xs, H a = some (.tup xs) → H' a = some (.tup xs)) : DtOk P w H' d kvs u bs := by
  obtain ⟨xs, es, ep, r, q⟩ := h.ex
  refine ⟨h.z, h.sm, fun i a v e => k _ _ (h.ks i a v e), xs, es, ep, ?_, q⟩
  clear q h
  induction r with
  | nil => exact .nil
  | @cons p q ps qs hq t ih => exact .cons ⟨hq.1, k _ _ hq.2.1, hq.2.2⟩ ih
end
section
variable {g : TG} {σ : St} {H : Hp}
end
section
variable {X : Cx}
end
end L2
namespace L2
open PySem PySem.Spec PyProof.Rows
/-! ### exceptions made, not raised; their own __init__; their attributes -/
section
variable {X : Cx} {pins : List (Addr × Obj)} {σ : St} {H : Hp} {s : Shared}
/-- an exception as it is made, without a dict -/
def ExcNew (a C : Addr) (h : Heap) : Prop := ∃ t0 : Addr, h.get? a = some { cls := .ref C, data := .fields #[.ref t0, .none, .none, .none, .bool false, .none] }
/-- an exception with its dict at dx -/
def ExcDict (a C dx : Addr) (h : Heap) : Prop := ∃ t0 : Addr, h.get? a = some { cls := .ref C, dict := some dx, data := .fields #[.ref t0, .none, .none, .none, .bool false, .none] }
theorem ExcNew.mono {a C : Addr} (h1 h2 : Heap) (x : ExcNew a C h1) (k : ∀ o, h1.get? a = some o → h2.get? a = some o) : ExcNew a C h2 := let ⟨t, e⟩ := x; ⟨t, k _ e⟩
theorem ExcDict.mono {a C dx : Addr} (h1 h2 : Heap) (x : ExcDict a C dx h1) (k : ∀ o, h1.get? a = some o → h2.get? a = some o) : ExcDict a C dx h2 := let ⟨t, e⟩ := x; ⟨t, k _ e⟩
theorem ExcNew.at_ {a C : Addr} (h : Heap) (x : ExcNew a C h) : ExcAt a C h := let ⟨_, e⟩ := x; ⟨_, _, e, rfl, rfl⟩
theorem ExcDict.at_ {a C dx : Addr} (h : Heap) (x : ExcDict a C dx h) : ExcAt a C h := let ⟨_, e⟩ := x; ⟨_, _, e, rfl, rfl⟩
/-- what is known of an exception of the class C at a -/
def IsExc (H : Hp) (a C : Addr) : Prop := ∃ φ : Heap → Prop, H a = some (.ext φ) ∧ ∀ h, φ h → ExcAt a C h
theorem IsExc.same {H H' : Hp} {a C : Addr} (x : IsExc H a C) (s : Same H H') : IsExc H' a C := let ⟨φ, e, f⟩ := x; ⟨φ, s _ _ e, f⟩
/-! isinstance of one -/
end
end L2
namespace L2
open PySem PySem.Spec PyProof.Rows
abbrev bmVE : List Value := [.type "ValueError", .type "Exception", .type "BaseException", .type "object"]
/-- an exception class of one's own with an __init__ of its own, right under one without: what the written part must say -/
structure XInit (K : PySem.W.Frag) (C B f : Addr) : Prop where
  lk : ∃ nm q N bs sn sub ab col dd k0 k1 k2 k3 k5, K.lookup C = some (excClassObj nm q C N bs (.ref B :: bmVE) true sn sub ab col dd k0 k1 k2 k3 k5 "ValueError.__new__")
  par : PySem.W.excIn K B bmVE "ValueError.__new__" = true
  init : PySem.W.findIn K (.ref C) "__init__" = some (some (.ref f))
  fn : PySem.W.typeIn K (.ref f) = some (.type "function")
  kp : PySem.W.keepIn K (.ref C) = true
  sa : PySem.W.findIn K (.ref C) "__setattr__" = some (some (.builtin "object.__setattr__"))
theorem XInit.tail {K : PySem.W.Frag} {C B f : Addr} {h : Heap} (Z : XInit K C B f) (KX : K.In h) : OwnTail h bmVE (.ref B :: bmVE) := by
  obtain ⟨tl, N, nm, q0, bs, hdct, sn, sub, ab, col, dd, k0, k1, k2, k3, k5, mN, hC, hN, hni, T⟩ := (own_of_K (x := "") (mg := fun _ => some (.ref B)) KX rfl Z.par).obj
  exact .own hC hN hni .base
section
variable {prog : Program} {w : World} {A : Around} {E : Value → Shared → Prop} {h : Heap} {g : Array GenState} {d : Drawn} {t : Nat} {os : OsState} {K : PySem.W.Frag} {C B f : Addr}
end
section
variable {X : Cx} {CX : CXT} {k : Nat} {f C B : Addr} {fd : FuncData} {ps : List Str} {sp : Sp} {E : XK} {x : Str} {p pos : Pos} {e : Expr} {es : List Expr} {t : TA}
end
end L2
namespace L2
open PySem PySem.Spec PyProof.Rows
/-- B.__init__ is ValueError's -/
structure XUp (K : PySem.W.Frag) (B : Addr) : Prop where
  sp : PySem.W.specialIn K (.ref B) "__getattribute__" = some (some (.builtin "type.__getattribute__"))
  rd : PySem.W.readsIn K B (.type "type") = true
  fd : PySem.W.findCls K (.ref B) (.type "type") "__init__" = some (.val (.builtin "ValueError.__init__"))
section
variable {X : Cx} {pins : List (Addr × Obj)} {σ : St} {H : Hp} {s : Shared} {C B f a : Addr}
/-! self.f = v -/
end
/-! e.f -/
section
variable {prog : Program} {w : World} {A : Around} {E : Value → Shared → Prop} {h : Heap} {g : Array GenState} {d : Drawn} {t : Nat} {os : OsState} {K : PySem.W.Frag} {a C B f dx : Addr} {name : Str} {v : Value} {mA : Str → Option Value}
end
section
variable {X : Cx}
end
end L2
namespace L2
open PySem PySem.Spec PyProof.Rows
section
variable {P : Program} {w : World} {K : PySem.W.Frag} {mg : Str → Option Value} {base : Heap}
/-- a def within a class -/
theorem Fun.ok1q {x qual : Str} {st : Stmt} {f : Addr} {fd : FuncData} {N ps : List Str} {k : Nat} {sp : Sp} (F : Fun K x qual st f fd) (S : FnScope N ps (defScope st)) (len : ∀ vs H Q E, sp vs H Q E → vs.length = ps.length)
    (hbody : ∀ (f : Addr) (cdv : Value) (A : Around) (outer : List Env) (s : Shared) (H : Hp) (vs : List V) (Q : VK) (E : XK), Room k (A.deeper (envOfC qual (defScope st) s.heap.objs.size f cdv)) → sp vs H Q E →
      ∃ t, PSs (cx1 P w K mg base N qual st f cdv A outer s H E) (defBody st) t ∧ t { nx := fun _ H' => Q .non H', rt := Q } (start N vs) H) : FnOk P w K mg base (CX1 P w) (k + 1) f fd ps sp := by
  obtain ⟨oc, od, kV, doc, pm, an, cdv, ct, osl, rfl, lk, hcd⟩ := F.ex
  exact fn_of lk hcd S len fun A outer s H vs Q E hr hsp => hbody f cdv A outer s H vs Q E hr hsp
end
end L2
namespace L2
open PySem PySem.Spec PyProof.Rows
/-! ### a set of ints and texts, made of a list or a tuple; its length -/
def hasK (ks : List Key) (k : Key) : Bool := ks.any fun x => decide (x = k)
theorem hasK_iff {ks : List Key} {k : Key} : hasK ks k = true ↔ k ∈ ks := by
  unfold hasK
  rw [List.any_eq_true]
  exact ⟨fun ⟨x, h, e⟩ => by rw [← of_decide_eq_true e]; exact h, fun h => ⟨k, h, decide_eq_true rfl⟩⟩
theorem hasK_cons {ks : List Key} {k x : Key} : hasK (x :: ks) k = (hasK ks k || decide (k = x)) := by
  show (decide (x = k) || hasK ks k) = _
  rw [Bool.or_comm]
  exact congrArg _ (decide_eq_decide.mpr eq_comm)
def dd : List Key → List Key
  | [] => []
  | k :: ks => if hasK ks k = true then dd ks else k :: dd ks
theorem dd_len : ∀ (ks : List Key), (dd ks).length ≤ ks.length
  | [] => Nat.le_refl _
  | x :: ks => by
    have := dd_len ks
    unfold dd
    split
    · rw [List.length_cons]; omega
    · rw [List.length_cons, List.length_cons]; omega
theorem dd_nodup : ∀ (ks : List Key), (dd ks).length = ks.length ↔ ks.Nodup
  | [] => by simp [dd]
  | x :: ks => by
    have h := dd_len ks
    have ih := dd_nodup ks
    rw [List.nodup_cons]
    unfold dd
    split
    · rename_i hx
      have hx := hasK_iff.mp hx
      rw [List.length_cons]
      exact ⟨fun z => by omega, fun z => absurd hx z.1⟩
    · rename_i hx
      have hx : ¬ x ∈ ks := fun z => hx (hasK_iff.mpr z)
      rw [List.length_cons, List.length_cons]
      exact ⟨fun z => ⟨hx, ih.mp (by omega)⟩, fun z => by have := ih.mpr z.2; omega⟩
/-- the set at a has just the keys ks -/
def KSet (P : Program) (w : World) (a : Addr) (ks : List Key) : HO := .ext fun h => h.SetOf (mixKind P w) a (hasK ks) (dd ks).length
theorem mix_scan {prog : Program} {w : World} : ∀ {k : Key} {v : Value}, RelV (kV k) v → (mixKind prog w).is k v = true ∧ v.scannable = true
  | .inl i, _, ⟨t, e⟩ => by subst e; exact ⟨mixKind_int prog w i t, rfl⟩
  | .inr x, _, ⟨t, e⟩ => by subst e; exact ⟨mixKind_str prog w x t, rfl⟩
theorem set_more {prog : Program} {w : World} {h : Heap} {a : Addr} {k : Key} {ks : List Key}
    (q : h.SetOf (mixKind prog w) a (fun k' => hasK ks k' || decide (k' = k)) (if hasK ks k then (dd ks).length else (dd ks).length + 1)) : h.SetOf (mixKind prog w) a (hasK (k :: ks)) (dd (k :: ks)).length := by
  have e1 : (fun k' => hasK ks k' || decide (k' = k)) = hasK (k :: ks) := funext fun k' => hasK_cons.symm
  have e2 : (if hasK ks k then (dd ks).length else (dd ks).length + 1) = (dd (k :: ks)).length := by
    show _ = (if hasK ks k = true then dd ks else k :: dd ks).length
    split <;> rfl
  rw [e1, e2] at q
  exact q
section
variable {prog : Program} {w : World} {A : Around} {R : Result → Shared → Prop} {I : Addr} {fp wr : List Addr} {G : Array GenState → Array GenState → Prop} {St : Nat → Shared → Prop}
theorem set_loop (us : List Value) (ks : List Key) (hu : Vals (ks.map kV) us) (W : WalksS prog w A.in1 I fp wr G us.length (fun i v => us[i]? = some v) St) (S : Addr) (nS : S ∉ fp) (hb : us.length + 1 < scanBound) :
    ∀ (m i : Nat) (s : Shared), us.length - i = m → i ≤ us.length → St i s → s.heap.SetOf (mixKind prog w) S (hasK (ks.take i).reverse) (dd (ks.take i).reverse).length →
      (∀ s', Moved (S :: wr) G s s' → s'.heap.SetOf (mixKind prog w) S (hasK ks.reverse) (dd ks.reverse).length → R (.ok (.ret .none)) s') →
      codeAny (model prog w) A (.builtin "set.update.loop" ⟨[.ref S, .ref I], []⟩) R s := by
  have hlen : ks.length = us.length := by rw [← hu.length, List.length_map]
  have nw : S ∉ wr := fun z => nS (W.sub _ z)
  have sb : ∀ b ∈ wr, b ∈ S :: wr := fun b z => List.mem_cons_of_mem _ z
  have stays : ∀ {s s' : Shared} {f : Key → Bool} {n : Nat}, Moved wr G s s' → s.heap.SetOf (mixKind prog w) S f n → s'.heap.SetOf (mixKind prog w) S f n :=
    fun hm ⟨o, es, ep, t, ho, r⟩ => ⟨o, es, ep, t, hm.heap S _ nw ho, r⟩
  intro m
  induction m with
  | zero =>
    intro i s hm hi st hS hR
    obtain rfl : i = us.length := by omega
    refine codeAny_builtin F.entry_set_update_loop ?_
    rw [Around.under_plainId F.plain_set_update_loop _]
    refine wpAny_bind (m := pyNext (.ref I)) (W.done s _ _ st fun s' mv => ?_)
    refine wpAny_pure (hR s' (mv.mono sb) ?_)
    have e : ks.take us.length = ks := List.take_of_length_le (by omega)
    rw [e] at hS
    exact stays mv hS
  | succ m ih =>
    intro i s hm hi st hS hR
    have hlt : i < us.length := by omega
    refine codeAny_builtin F.entry_set_update_loop ?_
    rw [Around.under_plainId F.plain_set_update_loop _]
    refine wpAny_bind (m := pyNext (.ref I)) (W.item i s _ _ hlt st fun v s' hv st' mv => ?_)
    obtain ⟨k, hk, rk⟩ : ∃ k, ks[i]? = some k ∧ RelV (kV k) v := by
      have hi' : i < ks.length := by omega
      obtain ⟨u, e1, e2⟩ := hu.get (i := i) (x := kV ks[i]) (by rw [List.getElem?_map, List.getElem?_eq_getElem hi']; rfl)
      have hv' : us[i]? = some v := hv
      rw [e1] at hv'
      cases hv'
      exact ⟨_, List.getElem?_eq_getElem hi', e2⟩
    obtain ⟨k1, k2⟩ := mix_scan (prog := prog) (w := w) rk
    refine wpAny_bind (m := holding [v] (setAdd S v)) (wpAny_holding ?_)
    unfold setAdd
    refine wpAny_holding (wpAny_bind ((mixKind prog w).pyHash k1 ?_))
    have hS1 := stays mv hS
    have hroom : (dd (ks.take i).reverse).length + 1 < scanBound := by
      have := dd_len (ks.take i).reverse
      rw [List.length_reverse, List.length_take] at this
      omega
    refine wpAny_setAddHashed_of (knd := mixKind prog w) (s := { s' with toks := s'.toks + 1 }) k1 k2 hS1 hroom fun h' eq hS2 => ?_
    have e : (ks.take (i + 1)).reverse = k :: (ks.take i).reverse := by rw [List.take_succ, hk, List.reverse_append]; rfl
    have hS3 := set_more hS2
    rw [← e] at hS3
    refine wpAny_pure ⟨plainId_quiet F.plain_set_update_loop _, ih (i + 1) _ (by omega) hlt (W.frame _ s' _ _ st' (Nat.le_succ _) fun b z o eo => ?_) hS3 fun s2 mv2 hS4 => hR s2 (Moved.trans W.gtrans ((mv.mono sb).then_heap (Nat.le_succ _) fun b o z eo => ?_) mv2) hS4⟩
    · rw [eq.2 b (fun y : b = S => nS (by rw [← y]; exact z))]; exact eo
    · rw [eq.2 b (fun y : b = S => z (by rw [y]; exact List.mem_cons_self))]; exact eo
end
end L2
namespace L2
open PySem PySem.Spec PyProof.Rows
section
variable {prog : Program} {w : World} {A : Around} {E : Value → Shared → Prop} {s : Shared}

set_option maxHeartbeats 2000000 in
theorem set_called {u : Value} {Q : Value → Shared → Prop}
    (hn : ∀ led : Bool, wpAny (model prog w) A.in1.in1 (Builtin.«set.__init__» ⟨[.ref s.heap.objs.size, u], []⟩)
        (fun fin s' => match fin with | .done f => wants (fun r s2 => r = .none ∧ Q (.ref s.heap.objs.size) s2) E (.ok f) s' | .again c' => c'.quiet = true ∧ codeAny (model prog w) A.in1 c' (wants (fun r s2 => r = .none ∧ Q (.ref s.heap.objs.size) s2) E) s')
        (fun e s' => wants (fun r s2 => r = .none ∧ Q (.ref s.heap.objs.size) s2) E (.error e) s') { s with heap := s.heap.push { cls := .type "set", dict := none, data := .set #[] 0 (.fresh 0 0 led) } }) :
    wpAny (model prog w) A (call (.type "set") [u]) Q E s := by
  have ft := F.called_set
  obtain ⟨c0, tl0, hmro⟩ := ft.mro
  have g1 := ft.made; have g2 := ft.sub; have g3 := ft.notType; have g4 := ft.canCreate; have g5 := F.typeCall_set_1 u
  refine wpAny_call (codeAny_of_tree (wpAny_pure (a := _) ⟨Code.quiet_builtin _ (by decide +kernel), codeAny_builtin F.entry_type_call ?_⟩))
  rw [Around.under_plain (weight_type_call_type "set" [u] []) rfl]
  repeat (any_goals (first | assumption | (wp_step)))
  refine codeAny_mono (code_set_new_1 u (E := E) (Q₁ := fun obj z => ∃ led : Bool, obj = .ref s.heap.objs.size ∧ z = { s with heap := s.heap.push { cls := .type "set", dict := none, data := .set #[] 0 (.fresh 0 0 led) } }) fun led => ⟨led, rfl, rfl⟩) fun r s₁ hr => ?_
  cases r with
  | error e => exact hr
  | ok fl =>
    cases fl with
    | ret obj =>
      obtain ⟨led, rfl, rfl⟩ := hr
      have hT : Shared.TypeIs { s with heap := s.heap.push { cls := .type "set", dict := none, data := .set #[] 0 (.fresh 0 0 led) } } (.ref s.heap.objs.size) "set" := ⟨_, Heap.get?_push_size _ rfl, rfl⟩
      have g6 := ft.init.lookup; have g7 := ft.init.bind (.ref s.heap.objs.size)
      repeat (any_goals (first | assumption | (wp_step)))
      refine codeAny_mono (codeAny_call_builtin ft.init.plain F.entry_set_init (check_set_init_1 hT (hn led))) fun r2 s2 hr2 => ?_
      cases r2 with
      | error e => exact hr2
      | ok f2 =>
        cases f2 with
        | ret r =>
          obtain ⟨rfl, hq⟩ := hr2
          repeat (any_goals (first | assumption | (wp_step)))
        | _ => exact hr2.elim
    | _ => exact hr.elim
end
end L2
namespace L2
open PySem PySem.Spec PyProof.Rows
section
variable {prog : Program} {w : World} {A : Around} {E : Value → Shared → Prop} {s : Shared}
set_option maxHeartbeats 4000000 in
theorem set_of_seq {T : String} {l : Addr} {us : List Value} {ks : List Key} {Q : Value → Shared → Prop} (hh : A.handled = none) (hT : (T = "list" ∧ s.heap.IsList l us.toArray) ∨ (T = "tuple" ∧ s.heap.IsTuple l us.toArray))
    (hu : Vals (ks.map kV) us) (hb : us.length + 1 < scanBound)
    (h : ∀ (h' : Heap) (tk : Nat), h'.SetOf (mixKind prog w) s.heap.objs.size (hasK ks.reverse) (dd ks.reverse).length → (∀ b o, s.heap.get? b = some o → h'.get? b = some o) → Q (.ref s.heap.objs.size) { s with heap := h', toks := tk }) :
    wpAny (model prog w) A (call (.type "set") [.ref l]) Q E s := by
  refine set_called fun led => ?_
  have hS : (s.heap.push { cls := .type "set", dict := none, data := .set #[] 0 (.fresh 0 0 led) }).get? s.heap.objs.size = some { cls := .type "set", dict := none, data := .set #[] 0 (.fresh 0 0 led) } := Heap.get?_push_size _ rfl
  have z4 : A.in1.in1.in1.handled = none := by simp [hh]
  have hlt : l < s.heap.objs.size := by
    rcases hT with ⟨_, o, ho, _⟩ | ⟨_, o, ho, _⟩ <;> exact Heap.lt_size ho
  have nl : l ≠ (s.heap.push { cls := .type "set", dict := none, data := .set #[] 0 (.fresh 0 0 led) }).objs.size := by
    rw [Heap.size_push]; exact Nat.ne_of_lt (Nat.lt_succ_of_lt hlt)
  have nS : s.heap.objs.size ∉ [(s.heap.push { cls := .type "set", dict := none, data := .set #[] 0 (.fresh 0 0 led) }).objs.size, l] := by
    rw [Heap.size_push]
    intro z
    rcases List.mem_cons.mp z with z | z
    · exact absurd z (Nat.ne_of_lt (Nat.lt_succ_self _))
    · exact absurd (List.mem_singleton.mp z) (Nat.ne_of_gt hlt)
  have fin : ∀ (I : Obj) (G : Array GenState → Array GenState → Prop) (hG : ∀ a b, G a b → b = a) (St : Nat → Shared → Prop),
      WalksS prog w A.in1.in1.in1 (s.heap.push { cls := .type "set", dict := none, data := .set #[] 0 (.fresh 0 0 led) }).objs.size [(s.heap.push { cls := .type "set", dict := none, data := .set #[] 0 (.fresh 0 0 led) }).objs.size, l] [(s.heap.push { cls := .type "set", dict := none, data := .set #[] 0 (.fresh 0 0 led) }).objs.size] G us.length (fun i v => us[i]? = some v) St →
      St 0 { s with heap := (s.heap.push { cls := .type "set", dict := none, data := .set #[] 0 (.fresh 0 0 led) }).push I } →
      codeAny (model prog w) A.in1.in1 (.builtin "set.update.loop" ⟨[.ref s.heap.objs.size, .ref (s.heap.push { cls := .type "set", dict := none, data := .set #[] 0 (.fresh 0 0 led) }).objs.size], []⟩)
        (fun r s' => ∃ v, r = .ok (.ret v) ∧ Q (.ref s.heap.objs.size) s') { s with heap := (s.heap.push { cls := .type "set", dict := none, data := .set #[] 0 (.fresh 0 0 led) }).push I } := by
    intro I G hG St W st0
    refine set_loop us ks hu W s.heap.objs.size nS hb us.length 0 _ rfl (Nat.zero_le _) st0 ?_ fun s' hm hS' => ⟨_, rfl, ?_⟩
    · have hget : ((s.heap.push { cls := .type "set", dict := none, data := .set #[] 0 (.fresh 0 0 led) }).push I).get? s.heap.objs.size = some { cls := .type "set", dict := none, data := .set #[] 0 (.fresh 0 0 led) } := Heap.get?_push_of_some _ hS
      exact ⟨_, #[], 0, _, hget, ⟨rfl, rfl, rfl⟩, rfl, fun e he => by simp at he, fun k => by simp [hasK], by decide, rfl, rfl⟩
    · obtain ⟨h', g', d', tk', os'⟩ := s'
      have eg : g' = s.gens := hG _ _ hm.gens
      have ed : d' = s.drawn := hm.drawn
      have eo : os' = s.os := hm.os
      subst eg ed eo
      refine h h' tk' hS' fun b o e => ?_
      have hbl := Heap.lt_size e
      refine hm.heap b o (fun z => ?_) (Heap.get?_push_of_some _ (Heap.get?_push_of_some _ e))
      rcases List.mem_cons.mp z with z | z
      · rw [z] at hbl; exact Nat.lt_irrefl _ hbl
      · have z := List.mem_singleton.mp z
        rw [Heap.size_push] at z
        rw [z] at hbl
        exact absurd hbl (Nat.not_lt.mpr (Nat.le_succ _))
  unfold Builtin.«set.__init__» noKeywords Builtin.Frozenset.updateFrom
  have eP : (fun (i : Nat) (v : Value) => us.toArray[i]? = some v) = fun i v => us[i]? = some v := by funext i v; simp
  generalize hPI : pyIter = PI
  rcases hT with ⟨rfl, hl⟩ | ⟨rfl, hl⟩
  · obtain ⟨ol, hol, hcl, nl0, hdl⟩ := hl
    obtain ⟨ocls, odict, odata, oslots⟩ := ol
    simp only at hcl hdl
    subst hcl hdl
    have hol2 : (s.heap.push { cls := .type "set", dict := none, data := .set #[] 0 (.fresh 0 0 led) }).get? l = some { cls := .type "list", dict := odict, data := .seq us.toArray nl0, slots := oslots } := Heap.get?_push_of_some _ hol
    have y1 := F.sub_list_set; have y2 := F.sub_list_frozenset
    have y3 : (Value.type "list" == Value.type "dict") = false := by decide
    wp_walk
    subst hPI
    have hl1 : (s.heap.push { cls := .type "set", dict := none, data := .set #[] 0 (.fresh 0 0 led) }).IsList l us.toArray := ⟨_, hol2, rfl, nl0, rfl⟩
    refine wpAny_pyIter_list hl1 (wpAny_bind (wpAny_runValue ?_))
    have W := (Walks.list z4 _ l nl us.toArray).toS (prog := prog) (w := w)
    rw [eP, List.size_toArray] at W
    refine codeAny_mono (fin _ _ (fun a b e => e) _ W ⟨⟨_, Heap.get?_push_size _ rfl, rfl, rfl⟩, hl1.push _⟩) fun r s' hr => ?_
    obtain ⟨v, rfl, q⟩ := hr
    exact wpAny_pure (a := _) (wpAny_pure (a := _) ⟨rfl, q⟩)
  · obtain ⟨ol, hol, hcl, nl0, hdl⟩ := hl
    obtain ⟨ocls, odict, odata, oslots⟩ := ol
    simp only at hcl hdl
    subst hcl hdl
    have hol2 : (s.heap.push { cls := .type "set", dict := none, data := .set #[] 0 (.fresh 0 0 led) }).get? l = some { cls := .type "tuple", dict := odict, data := .seq us.toArray nl0, slots := oslots } := Heap.get?_push_of_some _ hol
    have y1 : isSubtype (.type "tuple") (.type "set") = pure false := by rw [isSubtype_type]; kernel_rfl
    have y2 : isSubtype (.type "tuple") (.type "frozenset") = pure false := by rw [isSubtype_type]; kernel_rfl
    have y3 : (Value.type "tuple" == Value.type "dict") = false := by decide
    wp_walk
    subst hPI
    have hl1 : (s.heap.push { cls := .type "set", dict := none, data := .set #[] 0 (.fresh 0 0 led) }).IsTuple l us.toArray := ⟨_, hol2, rfl, nl0, rfl⟩
    refine wpAny_pyIter_tuple hl1 (wpAny_bind (wpAny_runValue ?_))
    have W := (Walks.tuple z4 _ l nl us.toArray).toS (prog := prog) (w := w)
    rw [eP, List.size_toArray] at W
    refine codeAny_mono (fin _ _ (fun a b e => e) _ W ⟨⟨_, Heap.get?_push_size _ rfl, rfl, rfl⟩, hl1.push _⟩) fun r s' hr => ?_
    obtain ⟨v, rfl, q⟩ := hr
    exact wpAny_pure (a := _) (wpAny_pure (a := _) ⟨rfl, q⟩)
end
end L2
namespace L2
open PySem PySem.Spec PyProof.Rows
section
variable {X : Cx}
def rSet (P : Program) (w : World) (K : PySem.W.Frag) : List V → Hp → VK → Prop := fun xs H Q => ∃ (p : Addr) (ks : List Key), xs = [.ref p] ∧ (SqL K H p (ks.map kV) ∨ SqT K H p (ks.map kV)) ∧ ks.length + 1 < scanBound ∧ ∀ q, H q = none → Q (.ref q) (upd H q (KSet P w q ks.reverse))
theorem call_setK (K : PySem.W.Frag) (hK : X.K = K := by rfl) (hc : X.calm = true := by rfl) : CallR X (.type "set") (rSet X.prog X.w K) := by
  subst hK
  intro pins s σ H xs us Q I r h
  obtain ⟨p, ks, rfl, hs, hb, q⟩ := h
  obtain ⟨u, rfl, rx⟩ := vals1 r
  cases rx
  have hn : H s.heap.objs.size = none := I.hok.fresh (Nat.le_refl _)
  have fin : ∀ (h' : Heap) (tk : Nat), h'.SetOf (mixKind X.prog X.w) s.heap.objs.size (hasK ks.reverse) (dd ks.reverse).length → (∀ b o, s.heap.get? b = some o → h'.get? b = some o) → EP X pins σ Q (.ref s.heap.objs.size) { s with heap := h', toks := tk } := by
    intro h' tk hS kp
    have e0 := hS
    obtain ⟨o, _, _, _, ho, _⟩ := e0
    refine ⟨.ref s.heap.objs.size, _, I.laid (o := KSet X.prog X.w s.heap.objs.size ks.reverse) kp (Nat.le_refl _) ⟨hS, ⟨o, ho⟩, fun h1 h2 ⟨o, es, ep, t, ho, rr⟩ hk => ⟨o, es, ep, t, hk _ ho, rr⟩⟩, rfl, q _ hn⟩
  rcases hs with hs | hs
  · obtain ⟨its, rv, pl, hz⟩ := I.list hs
    have hl := rv.length
    rw [List.length_map] at hl
    exact set_of_seq (I.ok.hd hc) (.inl ⟨rfl, pl.isList⟩) rv (by omega) fin
  · obtain ⟨its, rv, pl, hz⟩ := I.tuple hs
    have hl := rv.length
    rw [List.length_map] at hl
    exact set_of_seq (I.ok.hd hc) (.inr ⟨rfl, pl⟩) rv (by omega) fin
def rLenSet (P : Program) (w : World) : List V → Hp → VK → Prop := fun xs H Q => ∃ (p : Addr) (ks : List Key), xs = [.ref p] ∧ H p = some (KSet P w p ks) ∧ Q (.int (dd ks).length) H
theorem call_lenKS : CallR X (.builtin "len") (rLenSet X.prog X.w) := by
  intro pins s σ H xs us Q I r h
  obtain ⟨p, ks, rfl, hp, q⟩ := h
  obtain ⟨u, rfl, rx⟩ := vals1 r
  cases rx
  obtain ⟨⟨o, es, ep, t, ho, hex, hd, hel, hmem, hb, hf, hn⟩, _⟩ := I.hok p _ hp
  refine PySem.call_len_set ho hex hd hf ?_ ⟨.int _, H, I.tok _, ⟨_, by rw [hn]⟩, q⟩
  have : scanBound < 2 ^ 63 := by decide
  omega
end
end L2
namespace L2
open PySem PySem.Spec PyProof.Rows
/-! ### a list or a tuple walked; range with a step -/
def SqB (b : Bool) (K : PySem.W.Frag) (H : Hp) (a : Addr) (xs : List V) : Prop := if b = true then SqL K H a xs else SqT K H a xs
theorem SqB.or {b : Bool} {K : PySem.W.Frag} {H : Hp} {a : Addr} {xs : List V} (h : SqB b K H a xs) : SqL K H a xs ∨ SqT K H a xs := by
  cases b
  · exact .inr h
  · exact .inl h
def ItS (b : Bool) (K : PySem.W.Frag) (a : Addr) (xs : List V) : It := ⟨fun i H => SqB b K H a xs ∧ i < xs.length, fun i H x H' => H' = H ∧ xs[i]? = some x, fun i H => SqB b K H a xs ∧ xs.length ≤ i⟩
theorem Turn.weak {P : Program} {w : World} {K : PySem.W.Frag} {tg : Expr} {J J' : It} {fp : List Addr} {it : Addr} {tn : Nat → Heap → Prop} (T : Turn P w K tg J fp it tn) (hg : ∀ i H, J'.go i H → J.go i H)
    (hy : ∀ i H x H', J'.go i H → J.yld i H x H' → J'.yld i H x H') (hs : ∀ i H, J'.stop i H → J.stop i H) : Turn P w K tg J' fp it tn where
  mem := T.mem
  obj := T.obj
  keep := T.keep
  item := fun X hP hw hK hc i pins s σ H E I hf st g => thn (T.item X hP hw hK hc i pins s σ H E I hf st (hg i H g)) fun r s1 ⟨u, e, q⟩ => ⟨u, e, thn q fun _ s2 ⟨x, H', I2, r2, y, rest⟩ => ⟨x, H', I2, r2, hy i H x H' g y, rest⟩⟩
  done := fun X hP hw hK hc i pins s σ H E I hf st g => T.done X hP hw hK hc i pins s σ H E I hf st (hs i H g)
  self := T.self
section
variable {X : Cx} {tg : Expr}
def iSeq (K : PySem.W.Frag) (tl : TE) : TI := fun σ H R => tl σ H fun x H1 => ∃ (b : Bool) (a : Addr) (xs : List V), x = .ref a ∧ SqB b K H1 a xs ∧ R (ItS b K a xs) H1
theorem pi_seqK (K : PySem.W.Frag) {l : Expr} {tl : TE} (hl : PE X l tl) (hK : X.K = K := by rfl) : PI X tg l (iSeq K tl) := by
  subst hK
  intro pins s σ H R I h
  refine thn (hl pins s σ H _ I h) fun v s1 ⟨x, H1, I1, r1, q1⟩ => ?_
  obtain ⟨b, a, xs, e, hq, q⟩ := q1
  subst e
  cases r1
  cases b with
  | true =>
    obtain ⟨its, rv, p, hz⟩ := I1.list (show SqL X.K H1 a xs from hq)
    refine wpAny_pyIter_list p.isList ⟨s1.heap.objs.size, [s1.heap.objs.size], _, _, H1, rfl, I1.kept (t' := s1.toks) fun b o e => Heap.get?_push_of_some _ e,
      (turn_list a _).weak (J' := ItS true X.K a xs) (fun i H g => ⟨xs, xs[i]'g.2, g.1, by simp [g.2]⟩) (fun i H x H' g y => ⟨y.1, y.2 xs g.1⟩) (fun i H g => ⟨xs, g.1, g.2⟩), ⟨_, Heap.get?_push_size _ rfl, rfl, rfl⟩, fun b hb => ?_, q⟩
    cases List.mem_singleton.mp hb
    exact I1.fpOk (Nat.le_refl _) (I1.hok.fresh (Nat.le_refl _))
  | false =>
    obtain ⟨its, rv, p, hz⟩ := I1.tuple (show SqT X.K H1 a xs from hq)
    refine wpAny_pyIter_tuple (show s1.heap.IsTuple a its.toArray from p) ⟨s1.heap.objs.size, [s1.heap.objs.size], _, _, H1, rfl, I1.kept (t' := s1.toks) fun b o e => Heap.get?_push_of_some _ e,
      (turn_tuple a _).weak (J' := ItS false X.K a xs) (fun i H g => ⟨xs, xs[i]'g.2, g.1, by simp [g.2]⟩) (fun i H x H' g y => ⟨y.1, y.2 xs g.1⟩) (fun i H g => ⟨xs, g.1, g.2⟩), ⟨_, Heap.get?_push_size _ rfl, rfl, rfl⟩, fun b hb => ?_, q⟩
    cases List.mem_singleton.mp hb
    exact I1.fpOk (Nat.le_refl _) (I1.hok.fresh (Nat.le_refl _))
end
theorem for_seq {b : Bool} {K : PySem.W.Frag} {a : Addr} {xs : List V} {g : TG} {tb : TS} {D : Ends} {σ : St} {H : Hp} (Pv : Nat → St → Hp → Prop) (h0 : Pv 0 σ H) (hl : ∀ i σ H, i ≤ xs.length → Pv i σ H → SqB b K H a xs)
    (hs : ∀ i x σ H, xs[i]? = some x → Pv i σ H → g x σ H fun σ2 H2 => tb { D with nx := Pv (i + 1), ct := Pv (i + 1), bk := D.nx } σ2 H2) (hd : ∀ σ H, Pv xs.length σ H → D.nx σ H) :
    ∃ W : Nat → Nat → St → Hp → Prop, (∃ m, W 0 m σ H) ∧ ∀ i m σ H, W i m σ H →
      ((ItS b K a xs).stop i H ∧ D.nx σ H) ∨ ((ItS b K a xs).go i H ∧ ∃ N : St → Hp → Prop, (∀ σ' H', N σ' H' → ∃ m', m' < m ∧ W (i + 1) m' σ' H') ∧ ∀ x H', (ItS b K a xs).yld i H x H' → g x σ H' fun σ2 H2 => tb { D with nx := N, ct := N, bk := D.nx } σ2 H2) := by
  refine ⟨fun i m σ H => m = xs.length - i ∧ i ≤ xs.length ∧ Pv i σ H, ⟨_, rfl, Nat.zero_le _, h0⟩, ?_⟩
  rintro i m σ H ⟨rfl, hi, p⟩
  have q := hl i σ H hi p
  by_cases lt : i < xs.length
  · refine .inr ⟨⟨q, lt⟩, Pv (i + 1), fun σ' H' p' => ⟨xs.length - (i + 1), by omega, rfl, lt, p'⟩, ?_⟩
    rintro x H' ⟨rfl, y⟩
    exact hs i x σ _ y p
  · obtain rfl : i = xs.length := by omega
    exact .inl ⟨⟨q, Nat.le_refl _⟩, hd σ H p⟩
/-- lo, lo + st, .. (n of them) -/
def Itr3 (lo st : Int) (n : Nat) : It := ⟨fun i _ => i < n, fun i H x H' => H' = H ∧ x = .int (lo + i * st), fun i _ => n ≤ i⟩
theorem turn_range3 {P : Program} {w : World} {K : PySem.W.Frag} {tg : Expr} (it : Addr) (lo st : Int) (n : Nat) : Turn P w K tg (Itr3 lo st n) [it] it (fun i h => IsRangeIter h it (lo + (i : Nat) * st) ((n : Int) - (i : Nat)) st) where
  mem := by simp
  obj := fun i h q b hb => by
    cases List.mem_singleton.mp hb
    exact ⟨_, q, fun v z => by cases (show Data.fields _ = Data.cell v from z)⟩
  keep := fun i h h' q k => k it (by simp) _ q
  item := by
    intro X hP hw hK hc i pins s σ H E I hf q hg
    subst hP hw hK
    obtain ⟨f0, f1, f2, f3, f4, f5⟩ := hf it (by simp)
    refine (Walks.range (prog := X.prog) (w := X.w) (I.ok.hd hc) it lo st n).item i s _ _ hg q fun v h' tk hv st' kk => ?_
    obtain ⟨t, rfl⟩ := hv
    have I1 : Inv X pins σ H { s with heap := h', toks := tk } := I.turned (fun b o hb e => kk b o (by simpa using hb) e) f0 f1 f3 f4 f5
    exact ⟨_, rfl, go_of (s := { s with heap := h', toks := tk }) (n := "range_iterator") st' rfl rfl (by decide) ⟨.int (lo + i * st), H, I1, ⟨t, rfl⟩, ⟨rfl, rfl⟩, st', fun b hb => (hf b hb).1⟩⟩
  done := by
    intro X hP hw hK hc i pins s σ H E I hf q hg
    subst hP hw hK
    obtain ⟨f0, f1, f2, f3, f4, f5⟩ := hf it (by simp)
    exact wpAny_pyNext_range_end (I.ok.hd hc) q (by have : n ≤ i := hg; omega) fun h' eb => ⟨rfl, I.turned (t' := s.toks) (fun b o hb e => eb b o hb e) f0 f1 f3 f4 f5⟩
  self := fun _ _ _ _ _ st h => wpAny_pyIter_rangeiter st h
section
variable {X : Cx} {tg : Expr}
theorem op_mulW : OpR X (binaryOp .Mult) (rI IntMulOk fun i j => .int (i * j)) := opI fun _ _ _ _ _ _ _ hc q => mul_int q hc
/-- range(a, b, c), c small and above nought -/
def iRng3 (ta : TA) : TI := fun σ H R => ta σ H fun vs H1 => ∃ i j k : Int, vs = [.int i, .int j, .int k] ∧ (-(2 ^ 40) ≤ i ∧ i < 2 ^ 40 ∧ -(2 ^ 40) ≤ j ∧ j < 2 ^ 40 ∧ 0 < k ∧ k < 1000000) ∧ R (Itr3 i k (Builtin.Range.rangeSize i j k).toNat) H1
theorem small_three {i j k : Int} (h : -(2 ^ 40) ≤ i ∧ i < 2 ^ 40 ∧ -(2 ^ 40) ≤ j ∧ j < 2 ^ 40 ∧ 0 < k ∧ k < 1000000) : Builtin.Range.small i j k = true := by
  have h1 := rangeSize_toNat i j k
  have h2 := rangeSize_toNat_le i j k
  unfold Builtin.Range.small
  generalize Builtin.Range.rangeSize i j k = z at *
  rw [if_pos (by omega)]
  simp only [Builtin.Range.rangeFitsLong, Bool.and_eq_true, Bool.or_eq_true, decide_eq_true_eq, beq_iff_eq]
  omega
theorem pi_range3 {a b c : Expr} {ta : TA} {p pos : Pos} (hg : Gl X "range") (hm : X.mg "range" = none) (ha : PA X [a, b, c] ta) (hs : starEach [a, b, c] X.env = (false, eval a X.env) :: starEach [b, c] X.env := by rfl) (hs2 : (backTo pos (starEach [b, c] X.env)).any (·.1) = false := by rfl) :
    PI X tg (.Call (.Name "range" p) [a, b, c] [] pos) (iRng3 ta) := by
  intro pins s σ H R I h
  refine Call_ (ld_blt I hg hm boot_range (PyProof.Rows.callWith_type1 (thn (ha pos pins s σ H _ I h) fun us s1 ⟨vs, H1, I1, r1, q1⟩ => ?_) hs hs2))
  obtain ⟨i, j, k, e, hb, q⟩ := q1
  subst e
  cases r1 with
  | cons r rr =>
    cases rr with
    | cons r' rr =>
      cases rr with
      | cons r'' rr =>
        cases rr
        obtain ⟨t, rfl⟩ := r
        obtain ⟨t', rfl⟩ := r'
        obtain ⟨t'', rfl⟩ := r''
        refine call_range_3 (by omega) ?_ (.inl (PyProof.noPylong_small (by omega)))
        refine wpAny_pyIter_range (IsRange.new ..) (small_three hb) ?_
        have I2 : Inv X pins σ H1 { s1 with heap := s1.heap.push { cls := .type "range", data := .fields #[.int i t, .int j t', .int k t''] } } := I1.kept (t' := s1.toks) fun b o e => Heap.get?_push_of_some _ e
        refine ⟨_, [_], _, _, H1, rfl, I2.kept (t' := s1.toks) fun b o e => Heap.get?_push_of_some _ e, turn_range3 _ i k (Builtin.Range.rangeSize i j k).toNat, ?_, fun b hb => ?_, q⟩
        · have e1 : i + ((0 : Nat) : Int) * k = i := by simp
          have e2 : (((Builtin.Range.rangeSize i j k).toNat : Nat) : Int) - ((0 : Nat) : Int) = Builtin.Range.rangeSize i j k := by have := rangeSize_toNat i j k; omega
          show IsRangeIter _ _ (i + ((0 : Nat) : Int) * k) ((((Builtin.Range.rangeSize i j k).toNat : Nat) : Int) - ((0 : Nat) : Int)) k
          rw [e1, e2]
          exact Heap.get?_push_size _ rfl
        · cases List.mem_singleton.mp hb
          exact I2.fpOk (Nat.le_refl _) (I2.hok.fresh (Nat.le_refl _))
end
theorem for_range3 {lo st : Int} {n : Nat} {g : TG} {tb : TS} {D : Ends} {σ : St} {H : Hp} (Pv : Nat → St → Hp → Prop) (h0 : Pv 0 σ H)
    (hs : ∀ i σ H, i < n → Pv i σ H → g (.int (lo + i * st)) σ H fun σ2 H2 => tb { D with nx := Pv (i + 1), ct := Pv (i + 1), bk := D.nx } σ2 H2) (hd : ∀ σ H, Pv n σ H → D.nx σ H) :
    ∃ W : Nat → Nat → St → Hp → Prop, (∃ m, W 0 m σ H) ∧ ∀ i m σ H, W i m σ H →
      ((Itr3 lo st n).stop i H ∧ D.nx σ H) ∨ ((Itr3 lo st n).go i H ∧ ∃ N : St → Hp → Prop, (∀ σ' H', N σ' H' → ∃ m', m' < m ∧ W (i + 1) m' σ' H') ∧ ∀ x H', (Itr3 lo st n).yld i H x H' → g x σ H' fun σ2 H2 => tb { D with nx := N, ct := N, bk := D.nx } σ2 H2) := by
  refine ⟨fun i m σ H => m = n - i ∧ i ≤ n ∧ Pv i σ H, ⟨n, rfl, Nat.zero_le _, h0⟩, ?_⟩
  rintro i m σ H ⟨rfl, hi, p⟩
  by_cases lt : i < n
  · refine .inr ⟨lt, Pv (i + 1), fun σ' H' p' => ⟨n - (i + 1), by omega, rfl, lt, p'⟩, ?_⟩
    rintro x H' ⟨rfl, rfl⟩
    exact hs i σ _ lt p
  · obtain rfl : i = n := by omega
    exact .inl ⟨Nat.le_refl _, hd σ H p⟩
end L2
namespace L2
open PySem PySem.Spec PyProof.Rows
/-! ### nested lists and tuples of numbers and texts, as data; two of them compared -/
inductive IsDat (K : PySem.W.Frag) (H : Hp) : Nat → V → PyData → Prop where
  | non {n : Nat} : IsDat K H n .non .none
  | bl {n : Nat} (b : Bool) : IsDat K H n (.bl b) (.bool b)
  | int {n : Nat} (i : Int) : IsDat K H n (.int i) (.int i)
  | str {n : Nat} (x : Str) (h : PyData.strOk x = true) : IsDat K H n (.str x) (.str x)
  | lst {n : Nat} {a : Addr} {xs : List V} {ds : List PyData} (ha : SqL K H a xs) (hl : xs.length = ds.length) (h : ∀ (i : Nat) (x : V) (d : PyData), xs[i]? = some x → ds[i]? = some d → IsDat K H n x d) : IsDat K H (n + 1) (.ref a) (.list ds)
  | tup {n : Nat} {a : Addr} {xs : List V} {ds : List PyData} (ha : SqT K H a xs) (hl : xs.length = ds.length) (h : ∀ (i : Nat) (x : V) (d : PyData), xs[i]? = some x → ds[i]? = some d → IsDat K H n x d) : IsDat K H (n + 1) (.ref a) (.tuple ds)
theorem layAll : ∀ (ds : List PyData), (∀ d ∈ ds, d.canLay0 = true) → PyData.canLayAll0 ds = true
  | [], _ => rfl
  | d :: ds, h => by
    show (PyData.canLay0 d && PyData.canLayAll0 ds) = true
    rw [h d List.mem_cons_self, layAll ds fun x hx => h x (List.mem_cons_of_mem _ hx)]; rfl
theorem depAll {n : Nat} : ∀ (ds : List PyData), (∀ d ∈ ds, d.depth ≤ n) → PyData.depthAll ds ≤ n
  | [], _ => Nat.zero_le _
  | d :: ds, h => by
    show max (PyData.depth d) (PyData.depthAll ds) ≤ n
    exact Nat.max_le.mpr ⟨h d List.mem_cons_self, depAll ds fun x hx => h x (List.mem_cons_of_mem _ hx)⟩
theorem pair_of {xs : List V} {ds : List PyData} (hl : xs.length = ds.length) {d : PyData} (h : d ∈ ds) : ∃ (i : Nat) (x : V), xs[i]? = some x ∧ ds[i]? = some d := by
  obtain ⟨i, hi, e⟩ := List.getElem_of_mem h
  exact ⟨i, xs[i]'(by omega), List.getElem?_eq_getElem _, by rw [List.getElem?_eq_getElem hi, e]⟩
theorem IsDat.lay {K : PySem.W.Frag} {H : Hp} {n : Nat} {v : V} {d : PyData} (h : IsDat K H n v d) : d.canLay0 = true := by
  induction h with
  | non => rfl
  | bl => rfl
  | int => rfl
  | str x hx => exact hx
  | lst ha hl h ih => exact layAll _ fun d hd => let ⟨i, x, h1, h2⟩ := pair_of hl hd; ih i x d h1 h2
  | tup ha hl h ih => exact layAll _ fun d hd => let ⟨i, x, h1, h2⟩ := pair_of hl hd; ih i x d h1 h2
theorem IsDat.dep {K : PySem.W.Frag} {H : Hp} {n : Nat} {v : V} {d : PyData} (h : IsDat K H n v d) : d.depth ≤ n := by
  induction h with
  | non => exact Nat.zero_le _
  | bl => exact Nat.zero_le _
  | int => exact Nat.zero_le _
  | str x hx => exact Nat.zero_le _
  | lst ha hl h ih => exact Nat.succ_le_succ (depAll _ fun d hd => let ⟨i, x, h1, h2⟩ := pair_of hl hd; ih i x d h1 h2)
  | tup ha hl h ih => exact Nat.succ_le_succ (depAll _ fun d hd => let ⟨i, x, h1, h2⟩ := pair_of hl hd; ih i x d h1 h2)
theorem IsDat.up {K : PySem.W.Frag} {H : Hp} {n m : Nat} {v : V} {d : PyData} (h : IsDat K H n v d) (hm : n ≤ m) : IsDat K H m v d := by
  induction h generalizing m with
  | non => exact .non
  | bl b => exact .bl b
  | int i => exact .int i
  | str x hx => exact .str x hx
  | lst ha hl h ih => cases m with
    | zero => omega
    | succ m => exact .lst ha hl fun i x d h1 h2 => ih i x d h1 h2 (by omega)
  | tup ha hl h ih => cases m with
    | zero => omega
    | succ m => exact .tup ha hl fun i x d h1 h2 => ih i x d h1 h2 (by omega)
theorem readsAll_of {h : Heap} : ∀ (us : List Value) (ds : List PyData), us.length = ds.length → (∀ (i : Nat) (u : Value) (d : PyData), us[i]? = some u → ds[i]? = some d → ∃ as, Reads h u d as) → ∃ as, ReadsAll h us ds as
  | [], [], _, _ => ⟨[], .nil⟩
  | [], _ :: _, e, _ => by cases e
  | _ :: _, [], e, _ => by cases e
  | u :: us, d :: ds, e, q => by
    obtain ⟨as, r⟩ := q 0 u d rfl rfl
    obtain ⟨bs, rs⟩ := readsAll_of us ds (Nat.succ.inj e) fun i u d h1 h2 => q (i + 1) u d (by simpa using h1) (by simpa using h2)
    exact ⟨as ++ bs, .cons r rs⟩
theorem Vals.back : ∀ {xs : List V} {us : List Value} {i : Nat} {u : Value}, Vals xs us → us[i]? = some u → ∃ x, xs[i]? = some x ∧ RelV x u
  | _, _, _, _, .nil, e => by simp at e
  | _, _, 0, _, .cons r _, e => by simp at e; subst e; exact ⟨_, rfl, r⟩
  | _, _, i + 1, u, .cons _ t, e => by
    obtain ⟨x, h1, h2⟩ := Vals.back (i := i) (u := u) t (by simpa using e)
    exact ⟨x, by simpa using h1, h2⟩
section
variable {X : Cx} {pins : List (Addr × Obj)} {σ : St} {H : Hp} {s : Shared}
theorem IsDat.reads (I : Inv X pins σ H s) {n : Nat} {v : V} {d : PyData} (h : IsDat X.K H n v d) : ∀ {u : Value}, RelV v u → ∃ as, Reads s.heap u d as := by
  induction h with
  | non => intro u r; cases r; exact ⟨_, .none⟩
  | bl b => intro u r; cases r; exact ⟨_, .bool b⟩
  | int i => intro u r; obtain ⟨t, rfl⟩ := r; exact ⟨_, .int i t⟩
  | str x hx => intro u r; obtain ⟨t, rfl⟩ := r; exact ⟨_, .str x t⟩
  | lst ha hl h ih =>
    intro u r
    cases r
    obtain ⟨its, rv, ⟨o, n, ho, hc, _, hd⟩, hz⟩ := I.list ha
    obtain ⟨as, rs⟩ := readsAll_of (h := s.heap) its _ (by rw [← rv.length, hl]) fun i u d h1 h2 => by
      obtain ⟨x, h3, h4⟩ := rv.back h1
      exact ih i x d h3 h2 h4
    exact ⟨_, .list ho hc hd (by simpa using rs)⟩
  | tup ha hl h ih =>
    intro u r
    cases r
    obtain ⟨its, rv, ⟨o, ho, hc, n, hd⟩, hz⟩ := I.tuple ha
    obtain ⟨as, rs⟩ := readsAll_of (h := s.heap) its _ (by rw [← rv.length, hl]) fun i u d h1 h2 => by
      obtain ⟨x, h3, h4⟩ := rv.back h1
      exact ih i x d h3 h2 h4
    exact ⟨_, .tuple ho hc hd (by simpa using rs)⟩
def rEqD (K : PySem.W.Frag) (neg : Bool) : R2 := fun x y H Q => ∃ d e, IsDat K H 8 x d ∧ IsDat K H 8 y e ∧ Q (.bl (if neg then !PyData.eqv d e else PyData.eqv d e)) H
theorem op_eqD (K : PySem.W.Frag) (hu : X.A.units + 16 < cLine) (hK : X.K = K := by rfl) : OpR X (compareOp .Eq) (rEqD K false) := by
  subst hK
  intro pins s σ H x y v u Q I rx ry h
  obtain ⟨d, e, h1, h2, q⟩ := h
  obtain ⟨as, r1⟩ := h1.reads I rx
  obtain ⟨bs, r2⟩ := h2.reads I ry
  have z := h1.dep
  exact SeqAt.compareEq_reads r1 r2 h1.lay h2.lay (by omega) ⟨.bl _, H, I, rfl, q⟩
theorem op_neD (K : PySem.W.Frag) (hu : X.A.units + 16 < cLine) (hK : X.K = K := by rfl) : OpR X (compareOp .NotEq) (rEqD K true) := by
  subst hK
  intro pins s σ H x y v u Q I rx ry h
  obtain ⟨d, e, h1, h2, q⟩ := h
  obtain ⟨as, r1⟩ := h1.reads I rx
  obtain ⟨bs, r2⟩ := h2.reads I ry
  have z := h1.dep
  exact SeqAt.compareNe_reads r1 r2 h1.lay h2.lay (by omega) ⟨.bl _, H, I, rfl, q⟩
end
theorem IsDat.eqv {K : PySem.W.Frag} {H : Hp} {n : Nat} {v : V} {d : PyData} (h : IsDat K H n v d) : PyData.eqv d d = true := SeqAt.eqv_refl d h.lay
theorem IsDat.same {K : PySem.W.Frag} {H H' : Hp} {n : Nat} {v : V} {d : PyData} (h : IsDat K H n v d) (s : Same H H') : IsDat K H' n v d := by
  induction h with
  | non => exact .non
  | bl b => exact .bl b
  | int i => exact .int i
  | str x hx => exact .str x hx
  | lst ha hl h ih => exact .lst (s.seq ha) hl ih
  | tup ha hl h ih => exact .tup (s.tup ha) hl ih
/-- tuples stay -/
def Kept (H H' : Hp) : Prop := ∀ (a : Addr) (xs : List V), Rd H a (.tup xs) → Rd H' a (.tup xs)
theorem Kept.tup {K : PySem.W.Frag} {H H' : Hp} {a : Addr} {xs : List V} (k : Kept H H') (h : SqT K H a xs) : SqT K H' a xs := h.elim (fun h => .inl (k a xs h)) .inr
theorem Kept.refl {H : Hp} : Kept H H := fun _ _ h => h
theorem Kept.trans {H H' H'' : Hp} (a : Kept H H') (b : Kept H' H'') : Kept H H'' := fun x xs h => b x xs (a x xs h)
theorem Kept.same {H H' : Hp} (s : Same H H') : Kept H H' := fun a xs h => by
  rcases h with h | ⟨o, h⟩
  · exact .inl (s _ _ h)
  · exact .inr ⟨o, s _ _ h⟩
mutual
def noL : PyData → Bool
  | .none | .bool _ | .int _ | .str _ => true
  | .tuple xs => noLAll xs
  | .list _ | .dict _ => false
def noLAll : List PyData → Bool
  | [] => true
  | x :: xs => noL x && noLAll xs
end
theorem noLAll_mem : ∀ {ds : List PyData} {d : PyData}, noLAll ds = true → d ∈ ds → noL d = true
  | x :: xs, d, h, hd => by
    have h : (noL x && noLAll xs) = true := h
    rw [Bool.and_eq_true] at h
    rcases List.mem_cons.mp hd with rfl | hd
    · exact h.1
    · exact noLAll_mem h.2 hd
theorem IsDat.kept {K : PySem.W.Frag} {H H' : Hp} {n : Nat} {v : V} {d : PyData} (h : IsDat K H n v d) (k : Kept H H') (hn : noL d = true) : IsDat K H' n v d := by
  induction h with
  | non => exact .non
  | bl b => exact .bl b
  | int i => exact .int i
  | str x hx => exact .str x hx
  | lst ha hl h ih => cases hn
  | tup ha hl h ih => exact .tup (k.tup ha) hl fun i x d h1 h2 => ih i x d h1 h2 (noLAll_mem hn (List.mem_of_getElem? h2))

mutual
def plainD : PyData → Bool
  | .none | .int _ | .str _ => true
  | .list xs | .tuple xs => plainDs xs
  | .bool _ | .dict _ => false
def plainDs : List PyData → Bool
  | [] => true
  | x :: xs => plainD x && plainDs xs
end
mutual
theorem eqv_eq : ∀ d e : PyData, plainD d = true → plainD e = true → PyData.eqv d e = true → d = e
  | .none, .none, _, _, _ => rfl
  | .int i, .int j, _, _, h => by rw [show i = j from by simpa [PyData.eqv] using h]
  | .str x, .str y, _, _, h => by rw [show x = y from by simpa [PyData.eqv] using h]
  | .list xs, .list ys, p, q, h => by rw [eqvs_eq xs ys p q (by simpa [PyData.eqv] using h)]
  | .tuple xs, .tuple ys, p, q, h => by rw [eqvs_eq xs ys p q (by simpa [PyData.eqv] using h)]
  | .bool _, _, p, _, _ => by cases p
  | .dict _, _, p, _, _ => by cases p
  | .none, .bool _, _, q, _ | .none, .dict _, _, q, _ | .int _, .bool _, _, q, _ | .int _, .dict _, _, q, _ | .str _, .bool _, _, q, _ | .str _, .dict _, _, q, _ | .list _, .bool _, _, q, _ | .list _, .dict _, _, q, _ | .tuple _, .bool _, _, q, _ | .tuple _, .dict _, _, q, _ => by cases q
  | .none, .int _, _, _, h | .none, .str _, _, _, h | .none, .list _, _, _, h | .none, .tuple _, _, _, h => by simp [PyData.eqv] at h
  | .int _, .none, _, _, h | .int _, .str _, _, _, h | .int _, .list _, _, _, h | .int _, .tuple _, _, _, h => by simp [PyData.eqv] at h
  | .str _, .none, _, _, h | .str _, .int _, _, _, h | .str _, .list _, _, _, h | .str _, .tuple _, _, _, h => by simp [PyData.eqv] at h
  | .list _, .none, _, _, h | .list _, .int _, _, _, h | .list _, .str _, _, _, h | .list _, .tuple _, _, _, h => by simp [PyData.eqv] at h
  | .tuple _, .none, _, _, h | .tuple _, .int _, _, _, h | .tuple _, .str _, _, _, h | .tuple _, .list _, _, _, h => by simp [PyData.eqv] at h
theorem eqvs_eq : ∀ xs ys : List PyData, plainDs xs = true → plainDs ys = true → PyData.eqvAll xs ys = true → xs = ys
  | [], [], _, _, _ => rfl
  | x :: xs, y :: ys, p, q, h => by
    have p : (plainD x && plainDs xs) = true := p
    have q : (plainD y && plainDs ys) = true := q
    have h : (PyData.eqv x y && PyData.eqvAll xs ys) = true := by simpa [PyData.eqvAll] using h
    rw [Bool.and_eq_true] at p q h
    rw [eqv_eq x y p.1 q.1 h.1, eqvs_eq xs ys p.2 q.2 h.2]
  | [], _ :: _, _, _, h => by simp [PyData.eqvAll] at h
  | _ :: _, [], _, _, h => by simp [PyData.eqvAll] at h
end
theorem SqB.same {b : Bool} {K : PySem.W.Frag} {H H' : Hp} {a : Addr} {xs : List V} (h : SqB b K H a xs) (s : Same H H') : SqB b K H' a xs := by
  cases b
  · exact s.tup (show SqT K H a xs from h)
  · exact s.seq (show SqL K H a xs from h)
def rTupB (K : PySem.W.Frag) : List V → Hp → VK → Prop := fun xs H Q => ∃ (b : Bool) (p : Addr) (ys : List V), xs = [.ref p] ∧ SqB b K H p ys ∧ ∀ l H', Same H H' → SqT K H' l ys → Q (.ref l) H'
/-- tuple(x): a new tuple, or the same one -/
theorem call_tupleB {X : Cx} (K : PySem.W.Frag) (hK : X.K = K := by rfl) : CallR X (.type "tuple") (rTupB K) := by
  intro pins s σ H xs us Q I r h
  obtain ⟨b, p, ys, rfl, hs, q⟩ := h
  refine call_tupleK K hK pins s σ H _ us Q I r ⟨p, ys, rfl, ?_⟩
  cases b with
  | true => exact .inl ⟨hs, fun l hl => q l _ ((Same.refl _).new hl) (SqT.of upd_same)⟩
  | false => exact .inr ⟨hs, q p H (Same.refl _) hs⟩
end L2
namespace L2
open PySem PySem.Spec PyProof.Rows
/-! ### t.index(x), t a tuple of flat items -/
theorem forRange_ {M : Model} {A : Around} {E : Value → Shared → Prop} {β : Type} {f : Nat → β → Sem (ForInStep β)} (I : Nat → β → Shared → Prop) (Q : β → Shared → Prop) {b : Nat}
    (turn : ∀ i c s, i < b → I i c s → wpAny M A (f i c) (fun r s' => match r with | .done c' => Q c' s' | .yield c' => I (i + 1) c' s') E s) (fin : ∀ c s, I b c s → Q c s) :
    ∀ (n a : Nat) (c : β) (s : Shared), a + n = b → I a c s → wpAny M A (forIn (List.range' a n) c f) Q E s
  | 0, a, c, s, e, h => by
    rw [List.range'_zero, List.forIn_nil]
    obtain rfl : a = b := by omega
    exact wpAny_pure (fin c s h)
  | n + 1, a, c, s, e, h => by
    rw [List.range'_succ, List.forIn_cons]
    refine wpAny_bind (wpAny_mono (turn a c s (by omega) h) (fun r s' h' => ?_) fun _ _ e => e)
    cases r with
    | done c' => exact wpAny_pure h'
    | yield c' => exact forRange_ I Q turn fin n (a + 1) c' s' (by omega) h'
theorem forRangeW {M : Model} {A : Around} {E : Value → Shared → Prop} {s : Shared} {β : Type} (f : Nat → β → Sem (ForInStep β)) (I : Nat → β → Shared → Prop) (Q : β → Shared → Prop) {b : Nat} {c : β}
    (turn : ∀ i c s, i < b → I i c s → wpAny M A (f i c) (fun r s' => match r with | .done c' => Q c' s' | .yield c' => I (i + 1) c' s') E s) (fin : ∀ c s, I b c s → Q c s) (h : I 0 c s) : wpAny M A (forIn [0:b] c f) Q E s := by
  rw [Std.Legacy.Range.forIn_eq_forIn_range']
  have z : ([0:b] : Std.Legacy.Range).size = b := by simp [Std.Legacy.Range.size]
  show wpAny M A (forIn (List.range' 0 ([0:b] : Std.Legacy.Range).size 1) c f) Q E s
  rw [z]
  exact forRange_ I Q turn fin b 0 c s (by omega) h
theorem tuple_indexAt (l : Addr) (items : Array Value) (n : Nat) (dd : Option Addr) (sl : Array (Option Value)) (x : Value) (e : Value → Bool) (j : Nat) (hj : j < items.size) (h1 : e items[j] = true) (h2 : ∀ (i : Nat) (hi : i < items.size), i < j → e items[i] = false) :
    Meets (Builtin.«tuple.index» ⟨[.ref l, x], []⟩)
      (fun A R s => s.heap.get? l = some { cls := .type "tuple", dict := dd, data := .seq items n, slots := sl } ∧ (∀ y, y ∈ items → SeqAt.EqAt A.in1 s y x (e y)) ∧ R (.ok (.ret (.int (j : Nat) s.toks))) { s with toks := s.toks + 1 }) :=
  .of_wp fun prog w A R s h => by
    obtain ⟨hp, g, d, tk, os⟩ := s; obtain ⟨hl, he, h⟩ := h
    wp_walk using wpAny_loadPart' hl, forRangeW _ (fun i b s' => b.1 = none ∧ i ≤ j ∧ s' = ⟨hp, g, d, tk, os⟩) _
    case turn =>
      rintro i b s' hi ⟨hb, hij, rfl⟩
      have hi' : i < items.size := by omega
      have e0 : items[i]? = some items[i] := by simp [hi']
      simp only [e0]
      refine wpAny_bind (he _ (Array.getElem_mem hi') prog w _ _ ?_)
      by_cases z : i = j
      · subst z
        rw [h1]
        wp_walk
        exact ⟨_, rfl, h⟩
      · rw [h2 i hi' (by omega)]
        wp_walk
        exact ⟨rfl, by omega, rfl⟩
    case fin =>
      rintro b s' ⟨hb, hij, rfl⟩
      omega
    case h => exact ⟨rfl, Nat.zero_le _, rfl⟩
def rIndexT (K : PySem.W.Frag) : V → List V → Hp → VK → Prop := fun x vs H Q => ∃ (p : Addr) (xs : List V) (y : V) (j : Nat), x = .ref p ∧ vs = [y] ∧ SqT K H p xs ∧ flatV y = true ∧ xs.all flatV = true ∧ (∃ z, xs[j]? = some z ∧ eqV z y = true) ∧ (∀ (i : Nat) (z : V), i < j → xs[i]? = some z → eqV z y = false) ∧ Q (.int (j : Nat)) H
theorem mt_indexT {X : Cx} (K : PySem.W.Frag) (hK : X.K = K := by rfl) : MtR X "tuple.index" (rIndexT K) := by
  subst hK
  intro pins s σ H x vs v us Q I rx rv h
  obtain ⟨p, xs, y, j, rfl, rfl, hq, fy, fs, ⟨z, hz, ez⟩, hn, q⟩ := h
  cases rx
  obtain ⟨u, rfl, ru⟩ := rv.one
  obtain ⟨its, r, ⟨o, ho, hc, n, hd⟩, hl⟩ := I.tuple hq
  obtain ⟨ocls, odict, odata, oslots⟩ := o
  simp only at hc hd
  subst hc hd
  have hlen := r.length
  have hjx : j < xs.length := (List.getElem?_eq_some_iff.mp hz).1
  have hj : j < its.toArray.size := by rw [List.size_toArray, ← hlen]; exact hjx
  have key : ∀ (i : Nat) (hi : i < its.toArray.size), ∃ z, xs[i]? = some z ∧ eqU y its.toArray[i] = eqV z y := fun i hi => by
    have hi2 : i < its.length := by simpa using hi
    have hi' : i < xs.length := by omega
    obtain ⟨w, ew, rw'⟩ := r.get (i := i) (x := xs[i]) (List.getElem?_eq_getElem hi')
    have e2 : its.toArray[i] = w := by
      rw [List.getElem_toArray]
      exact Option.some.inj ((List.getElem?_eq_getElem hi2).symm.trans ew)
    refine ⟨xs[i], List.getElem?_eq_getElem hi', ?_⟩
    rw [e2]
    exact eqU_of rw' (List.all_eq_true.mp fs _ (List.getElem_mem hi'))
  refine call_meets F.slot_tuple_index ⟨_, ho, rfl⟩ F.entry_tuple_index (F.args_tuple_index_2 _ _) (tuple_indexAt p its.toArray n odict oslots u (eqU y) j hj ?_ ?_) ⟨ho, fun w hw => mem_eqAt ru fy r fs w (by simpa using hw), ⟨.int _, H, I.tok _, ⟨_, rfl⟩, q⟩⟩
  · obtain ⟨z', h1, h2⟩ := key j hj
    rw [hz] at h1; cases h1
    rw [h2]; exact ez
  · intro i hi hij
    obtain ⟨z', h1, h2⟩ := key i hi
    rw [h2]; exact hn i z' hij h1
def TupN (K : PySem.W.Frag) (a : Addr) : Prop := ∃ o, K.lookup a = some o ∧ o.cls = .type "tuple" ∧ o.dict = none
end L2
namespace My
/-- what the signs tell, the greatest place first -/
def told (l : List Int) : Int := l.foldl (fun n s => n * 97 + s) 0
/-- m signs of n, the least place first -/
def low : Nat → Int → List Int
  | 0, _ => []
  | m + 1, n => n % 97 :: low m (n / 97)
def rest : Nat → Int → Int
  | 0, n => n
  | m + 1, n => rest m (n / 97)
theorem low_len : ∀ (m : Nat) (n : Int), (low m n).length = m
  | 0, _ => rfl
  | m + 1, n => by rw [low, List.length_cons, low_len]
theorem low_snoc : ∀ (m : Nat) (n : Int), low (m + 1) n = low m n ++ [rest m n % 97]
  | 0, n => rfl
  | m + 1, n => by rw [low, low_snoc m (n / 97), low, rest, List.cons_append]
theorem rest_snoc : ∀ (m : Nat) (n : Int), rest (m + 1) n = rest m n / 97
  | 0, n => rfl
  | m + 1, n => by rw [rest, rest_snoc m (n / 97), rest]
theorem told_snoc (l : List Int) (s : Int) : told (l ++ [s]) = told l * 97 + s := by unfold told; rw [List.foldl_append]; rfl
theorem rest_nonneg : ∀ (m : Nat) (n : Int), 0 ≤ n → 0 ≤ rest m n
  | 0, n, h => by rw [rest]; exact h
  | m + 1, n, h => by rw [rest]; exact rest_nonneg m _ (by omega)
theorem told_nonneg (l : List Int) (h : ∀ s ∈ l, 0 ≤ s) : 0 ≤ told l := by
  have : ∀ (l : List Int) (a : Int), 0 ≤ a → (∀ s ∈ l, 0 ≤ s) → 0 ≤ l.foldl (fun n s => n * 97 + s) a := by
    intro l
    induction l with
    | nil => intro a ha _; exact ha
    | cons s r ih =>
      intro a ha h
      rw [List.foldl_cons]
      exact ih _ (by have := h s List.mem_cons_self; omega) fun x hx => h x (List.mem_cons_of_mem _ hx)
  exact this l 0 (by omega) h
end My
namespace K43
open PySem L2 PyProof.Rows
def top (i : Nat) : Stmt := PySem.Challenge.pw_stormpost_k43_whole_letters_come_whole.main.body.getD i (.Pass ⟨0, 0, 0, 0⟩)
abbrev s_is_sign : Stmt := top 8
abbrev s_look_sign : Stmt := top 9
abbrev s_number_signs : Stmt := top 11
abbrev s_signs_number : Stmt := top 12
abbrev s_look_piece : Stmt := top 15
abbrev s_is_house : Stmt := top 32
abbrev s_look_signs : Stmt := top 33
abbrev s_look_way : Stmt := top 34
abbrev s_made_letter : Stmt := top 35
abbrev s_letter_signs : Stmt := top 36
abbrev s_letter_of : Stmt := top 37
abbrev s_pieces_of : Stmt := top 38
abbrev s_matter_of : Stmt := top 41
abbrev s_place_of : Stmt := top 42
abbrev s_put_among : Stmt := top 43
abbrev s__law_digits : Stmt := top 46
abbrev s__law_way : Stmt := top 47
abbrev s__law_parts : Stmt := top 48
abbrev s__law_letter : Stmt := top 49
abbrev s__law_key : Stmt := top 50
abbrev s__law_put : Stmt := top 51
abbrev s__law_due_next : Stmt := top 52
abbrev s__law_carried : Stmt := top 53
abbrev s__law_put_both : Stmt := top 54
abbrev s__law_step : Stmt := top 55
abbrev s_law : Stmt := top 56
def clsBody : Stmt → List Stmt
  | .ClassDef _ _ _ b _ _ _ _ _ _ _ => b
  | _ => []
abbrev s_init : Stmt := (clsBody (top 39)).getD 0 (.Pass ⟨0, 0, 0, 0⟩)
abbrev s_init_Queue : Stmt := (clsBody (top 44)).getD 0 (.Pass ⟨0, 0, 0, 0⟩)
abbrev s_take : Stmt := (clsBody (top 39)).getD 1 (.Pass ⟨0, 0, 0, 0⟩)
abbrev s_make_empty : Stmt := (clsBody (top 44)).getD 1 (.Pass ⟨0, 0, 0, 0⟩)
abbrev s_put : Stmt := (clsBody (top 44)).getD 2 (.Pass ⟨0, 0, 0, 0⟩)
abbrev s_begin_next : Stmt := (clsBody (top 44)).getD 3 (.Pass ⟨0, 0, 0, 0⟩)
abbrev s_next_piece : Stmt := (clsBody (top 44)).getD 4 (.Pass ⟨0, 0, 0, 0⟩)
abbrev s_waiting : Stmt := (clsBody (top 44)).getD 5 (.Pass ⟨0, 0, 0, 0⟩)
abbrev s_clear : Stmt := (clsBody (top 44)).getD 6 (.Pass ⟨0, 0, 0, 0⟩)
structure Ad where
  BadLetter : Addr
  BadPiece : Addr
  BadSign : Addr
  Joiner : Addr
  KINDS : Addr
  Queue : Addr
  init : Addr
  init_Queue : Addr
  m_take : Addr
  m_make_empty : Addr
  m_put : Addr
  m_begin_next : Addr
  m_next_piece : Addr
  m_waiting : Addr
  m_clear : Addr
structure Txt (K : PySem.W.Frag) (mg : Str → Option Value) (t : Ad) : Prop where
  cABOUT_LENGTH_AT : ∃ tk, mg "ABOUT_LENGTH_AT" = some (.int 5 tk)
  cCOUNT_SIGNS : ∃ tk, mg "COUNT_SIGNS" = some (.int 3 tk)
  cENDS : ∃ tk, mg "ENDS" = some (.int 1 tk)
  cGOES_ON : ∃ tk, mg "GOES_ON" = some (.int 0 tk)
  cHOUSES : ∃ tk, mg "HOUSES" = some (.int 32 tk)
  cKIND_AT : ∃ tk, mg "KIND_AT" = some (.int 3 tk)
  cLONGEST_ABOUT : ∃ tk, mg "LONGEST_ABOUT" = some (.int 4 tk)
  cLONGEST_BODY : ∃ tk, mg "LONGEST_BODY" = some (.int 56 tk)
  cLONGEST_PIECE : ∃ tk, mg "LONGEST_PIECE" = some (.int 10 tk)
  cLONGEST_WAY : ∃ tk, mg "LONGEST_WAY" = some (.int 6 tk)
  cMOST_COUNT : ∃ tk, mg "MOST_COUNT" = some (.int 900000 tk)
  cMOST_SIGNS : ∃ tk, mg "MOST_SIGNS" = some (.int 72 tk)
  cSIGNS : ∃ tk, mg "SIGNS" = some (.int 97 tk)
  cSIGNS_A_PIECE : ∃ tk, mg "SIGNS_A_PIECE" = some (.int 9 tk)
  cWAY_AT : ∃ tk, mg "WAY_AT" = some (.int 6 tk)
  cWAY_LENGTH_AT : ∃ tk, mg "WAY_LENGTH_AT" = some (.int 4 tk)
  n_enumerate : mg "enumerate" = none
  n_int : mg "int" = none
  n_len : mg "len" = none
  n_list : mg "list" = none
  n_range : mg "range" = none
  n_reversed : mg "reversed" = none
  n_set : mg "set" = none
  n_tuple : mg "tuple" = none
  mBadLetter : mg "BadLetter" = some (.ref t.BadLetter)
  mBadPiece : mg "BadPiece" = some (.ref t.BadPiece)
  mBadSign : mg "BadSign" = some (.ref t.BadSign)
  mJoiner : mg "Joiner" = some (.ref t.Joiner)
  mKINDS : mg "KINDS" = some (.ref t.KINDS)
  mQueue : mg "Queue" = some (.ref t.Queue)
  xBadLetter : PySem.W.excIn K t.BadLetter [.type "ValueError", .type "Exception", .type "BaseException", .type "object"] "ValueError.__new__" = true
  eBadLetter : ExcCls K t.BadLetter
  xBadPiece : PySem.W.excIn K t.BadPiece [.type "ValueError", .type "Exception", .type "BaseException", .type "object"] "ValueError.__new__" = true
  eBadPiece : ExcCls K t.BadPiece
  xBadSign : PySem.W.excIn K t.BadSign [.type "ValueError", .type "Exception", .type "BaseException", .type "object"] "ValueError.__new__" = true
  eBadSign : ExcCls K t.BadSign
  dKINDS : TupK K t.KINDS [V.str "news", V.str "part", V.str "had", V.str "ask", V.str "answer"]
  nKINDS : TupN K t.KINDS
  kJoiner : Mk K t.Joiner t.init
  fi : ∃ fd, Fun K "__init__" "Joiner.__init__" s_init t.init fd
  kQueue : Mk K t.Queue t.init_Queue
  fi_Queue : ∃ fd, Fun K "__init__" "Queue.__init__" s_init_Queue t.init_Queue fd
  cJoiner : Cls K t.Joiner
  na_joined : NoAttr K t.Joiner "joined"
  me_take : Meth K t.Joiner "take" t.m_take
  f_take : ∃ fd, Fun K "take" "Joiner.take" s_take t.m_take fd
  cQueue : Cls K t.Queue
  na_begun : NoAttr K t.Queue "begun"
  na_pieces : NoAttr K t.Queue "pieces"
  na_hurried : NoAttr K t.Queue "hurried"
  na_unhurried : NoAttr K t.Queue "unhurried"
  me_make_empty : Meth K t.Queue "make_empty" t.m_make_empty
  f_make_empty : ∃ fd, Fun K "make_empty" "Queue.make_empty" s_make_empty t.m_make_empty fd
  me_put : Meth K t.Queue "put" t.m_put
  f_put : ∃ fd, Fun K "put" "Queue.put" s_put t.m_put fd
  me_begin_next : Meth K t.Queue "begin_next" t.m_begin_next
  f_begin_next : ∃ fd, Fun K "begin_next" "Queue.begin_next" s_begin_next t.m_begin_next fd
  me_next_piece : Meth K t.Queue "next_piece" t.m_next_piece
  f_next_piece : ∃ fd, Fun K "next_piece" "Queue.next_piece" s_next_piece t.m_next_piece fd
  me_waiting : Meth K t.Queue "waiting" t.m_waiting
  f_waiting : ∃ fd, Fun K "waiting" "Queue.waiting" s_waiting t.m_waiting fd
  me_clear : Meth K t.Queue "clear" t.m_clear
  f_clear : ∃ fd, Fun K "clear" "Queue.clear" s_clear t.m_clear fd
section
variable {P : Program} {w : World} {K : PySem.W.Frag} {mg : Str → Option Value} {base : Heap} {t : Ad}
/-! is_sign -/
def sp_is_sign : Sp := fun vs H Q _ => ∃ n : Int, vs = [.int n] ∧ Q (.bl (decide (0 ≤ n ∧ n < 97))) H
theorem sc_is_sign : FnScope ["number"] ["number"] (defScope s_is_sign) := ⟨rfl, rfl, rfl, by decide +kernel, rfl, by decide +kernel, by decide +kernel⟩
theorem ok_is_sign (F : Site K mg "is_sign" s_is_sign) (T : Txt K mg t) : Def P w K mg base 1 "is_sign" ["number"] sp_is_sign := by
  refine F.def sc_is_sign (fun _ _ _ _ _ _ us hl => match us, hl with | [_], _ => rfl) (fun vs H Q E h => ?_) (fun f cdv A outer s H vs Q E hr h => ?_)
  · obtain ⟨n, rfl, _⟩ := h
    rfl
  · obtain ⟨n, rfl, q⟩ := h
    refine ⟨_, pss_one (ps_ret (pe_chain op_le op_lt pe_int (pv 0) (pe_gint T.cSIGNS))), ?_⟩
    refine ⟨_, rfl, _, _, rfl, rfl, _, rfl, ?_⟩
    by_cases h0 : 0 ≤ n
    · rw [decide_eq_true h0]
      refine iteT ⟨_, _, rfl, rfl, ?_⟩
      have e : decide (n < 97) = decide (0 ≤ n ∧ n < 97) := by simp [h0]
      show Q (.bl (decide (n < 97))) H
      rw [e]
      exact q
    · rw [decide_eq_false h0]
      refine iteF ?_
      have e : false = decide (0 ≤ n ∧ n < 97) := by simp [h0]
      show Q (.bl false) H
      rw [e]
      exact q
/-! look_sign -/
def sp_look_sign (C : Addr) : Sp := fun vs H Q E => ∃ n : Int, vs = [.int n] ∧ n.natAbs < 2 ^ 1000 ∧ (0 ≤ n ∧ n < 97 → Q .non H) ∧ (¬ (0 ≤ n ∧ n < 97) → E (.ref C) none H)
theorem sc_look_sign : FnScope ["number"] ["number"] (defScope s_look_sign) := ⟨rfl, rfl, rfl, by decide +kernel, rfl, by decide +kernel, by decide +kernel⟩
theorem txt_len {i : Int} (h : i.natAbs < 2 ^ 1000) : (Str.ofString (toString i)).length ≤ 1001 := by
  have hl : i.natAbs.log2 < 1000 := by
    by_cases z : i.natAbs = 0
    · rw [z]; decide
    · exact (Nat.log2_lt z).mpr h
  have e := int_text_length_le (k := 1000) (by decide) hl
  rw [PySem.ofString_length]; omega
theorem ok_look_sign (F : Site K mg "look_sign" s_look_sign) (T : Txt K mg t) (D1 : Def P w K mg base 1 "is_sign" ["number"] sp_is_sign) : Def P w K mg base 2 "look_sign" ["number"] (sp_look_sign t.BadSign) := by
  refine F.def sc_look_sign (fun _ _ _ _ _ _ us hl => match us, hl with | [_], _ => rfl) (fun vs H Q E h => ?_) (fun f cdv A outer s H vs Q E hr h => ?_)
  · obtain ⟨n, rfl, _⟩ := h
    rfl
  · obtain ⟨n, rfl, hb, q1, q2⟩ := h
    refine ⟨_, pss_one (ps_if (pt_not (pt_val (pe_def D1 hr passN (pa_cons (pv 0) pa_nil))))
      (pss_one (ps_raise cx1_body rfl rfl T.mBadSign T.xBadSign PySem.F.excBase_ValueError (pa_cons (pe_fstr (pj_cons (pe_fmtI (pv 0)) (pj_cons pe_str pj_nil))) pa_nil))) pss_nil), ?_⟩
    refine ⟨_, rfl, n, rfl, _, rfl, ?_⟩
    by_cases h0 : 0 ≤ n ∧ n < 97
    · rw [decide_eq_true h0]
      exact iteF (q1 h0)
    · rw [decide_eq_false h0]
      refine iteT ?_
      have hz := txt_len hb
      have e0 : (Str.empty ++ Str.ofString (toString n)).length ≤ 1001 := by rw [strLen_append]; show 0 + _ ≤ 1001; omega
      have e1 : ((Str.empty ++ Str.ofString (toString n)) ++ (" is no sign" : Str)).length ≤ 2000 := by
        have : (" is no sign" : Str).length = 11 := by decide +kernel
        rw [strLen_append]; omega
      have sl : (2000 : Nat) ≤ sizeLine := by decide
      refine ⟨_, rfl, n, rfl, log_lt hb (by decide) (by decide), _, rfl, by omega, _, rfl, by omega, by omega, ?_⟩
      exact ⟨by show 1 ≤ sizeLine; decide, q2 h0⟩
/-! number_signs -/
def sp_number_signs (C : Addr) : Sp := fun vs H Q E => ∃ n m : Int, vs = [.int n, .int m] ∧ n.natAbs < 2 ^ 1000 ∧ 0 ≤ m ∧ m ≤ 1000 ∧
  (0 ≤ n → My.rest m.toNat n = 0 → ∀ p H', H p = none → Same H H' → H' p = some (.lst ((My.low m.toNat n).reverse.map V.int)) → Q (.ref p) H') ∧ (n < 0 ∨ 0 < My.rest m.toNat n → ∀ H', Same H H' → E (.ref C) none H')
theorem sc_number_signs : FnScope ["number", "many", "signs", "left", "place"] ["number", "many"] (defScope s_number_signs) := ⟨rfl, rfl, rfl, by decide +kernel, rfl, by decide +kernel, by decide +kernel⟩
theorem ok_number_signs (F : Site K mg "number_signs" s_number_signs) (T : Txt K mg t) : Def P w K mg base 1 "number_signs" ["number", "many"] (sp_number_signs t.BadSign) := by
  refine F.def sc_number_signs (fun _ _ _ _ _ _ us hl => match us, hl with | [_, _], _ => rfl) (fun vs H Q E h => ?_) (fun f cdv A outer s H vs Q E hr h => ?_)
  · obtain ⟨n, m, rfl, _⟩ := h
    rfl
  · obtain ⟨n, m, rfl, hb, m0, m1, q1, q2⟩ := h
    refine ⟨_, pss_cons (ps_set (i := 2) sc_number_signs.nd rfl (Or.inl rfl) (pe_lst pa_nil))
      (pss_cons (ps_set (i := 3) sc_number_signs.nd rfl (Or.inl rfl) (pv 0))
      (pss_cons (PS.nox (ps_for PassesOwn.never rfl (pi_range1 (by rfl) T.n_range (pa_cons (pv 1) pa_nil)) (pg_name (i := 4) sc_number_signs.nd rfl (Or.inl rfl))
        (pss_cons (ps_expr (pe_bm PySem.F.plainAttrs_list PySem.F.slot_list_append PySem.F.type_list_append mt_append (pv 2) (pa_cons (pe_op op_mod (pv 3) (pe_gint T.cSIGNS)) pa_nil)))
        (pss_one (ps_set (i := 3) sc_number_signs.nd rfl (Or.inl rfl) (pe_op op_fdiv (pv 3) (pe_gint T.cSIGNS)))))))
      (pss_cons (ps_if (PW.pt (pw_or (pt_cmpR op_lt (pv 0) pe_int (nomark _)) (pw_or1 (pt_cmpR op_gt (pv 3) pe_int (nomark _)))))
        (pss_one (ps_raise cx1_body rfl rfl T.mBadSign T.xBadSign PySem.F.excBase_ValueError (pa_cons (pe_fstr (pj_cons (pe_fmtI (pv 0)) (pj_cons pe_str (pj_cons (pe_fmtI (pv 1)) (pj_cons pe_str pj_nil))))) pa_nil)))
        (pss_nil))
      (pss_one (ps_ret (pe_list_reversed rfl T.n_list T.n_reversed (pv 2))))))), ?_⟩
    refine ⟨by show 0 ≤ sizeLine; decide, fun ps hps => ?_⟩
    refine ⟨_, rfl, ?_⟩
    have hsz : (2000 : Nat) ≤ sizeLine := by decide
    refine ⟨_, rfl, m, rfl, by omega, by omega, for_range (lo := 0) (n := m.toNat) (fun i σ H' => ∃ x : Option V, σ = [some (.int n), some (.int m), some (.ref ps), some (.int (My.rest i n)), x] ∧ Same H H' ∧ H' ps = some (.lst ((My.low i n).map V.int))) ⟨none, rfl, (Same.refl _).new hps, upd_same⟩ ?_ ?_⟩
    · rintro i σ H' hi ⟨x, rfl, s1, h1⟩
      refine ⟨_, rfl, .inl ⟨rfl, _, SqL.of h1⟩, _, rfl, _, _, rfl, rfl, (by show (0 : Int) < 97; decide), ps, _, _, rfl, rfl, h1, by rw [List.length_map, My.low_len]; omega, ?_⟩
      refine ⟨_, rfl, _, _, rfl, rfl, ⟨by decide, by decide⟩, ?_⟩
      refine ⟨_, by rw [My.rest_snoc]; rfl, s1.put hps, ?_⟩
      rw [upd_same, My.low_snoc, List.map_append]
      rfl
    · rintro σ H' ⟨x, rfl, s1, h1⟩
      refine ⟨_, rfl, _, _, rfl, rfl, _, rfl, ?_⟩
      have hz := txt_len hb
      have hz2 := txt_len (i := m) (small_abs (by omega) (by omega))
      have l1 : (" is not told by " : Str).length = 16 := by decide +kernel
      have l2 : (" signs" : Str).length = 6 := by decide +kernel
      have sl : (3000 : Nat) ≤ sizeLine := by decide
      have e0 : (Str.empty ++ Str.ofString (toString n)).length ≤ 1001 := by rw [strLen_append]; show 0 + _ ≤ 1001; omega
      have e1 : ((Str.empty ++ Str.ofString (toString n)) ++ (" is not told by " : Str)).length ≤ 1017 := by rw [strLen_append]; omega
      have e2 : (((Str.empty ++ Str.ofString (toString n)) ++ (" is not told by " : Str)) ++ Str.ofString (toString m)).length ≤ 2018 := by rw [strLen_append]; omega
      have e3 : ((((Str.empty ++ Str.ofString (toString n)) ++ (" is not told by " : Str)) ++ Str.ofString (toString m)) ++ (" signs" : Str)).length ≤ 2024 := by rw [strLen_append]; omega
      have bad : n < 0 ∨ 0 < My.rest m.toNat n → E (.ref t.BadSign) none H' := fun z => q2 z H' s1
      by_cases h0 : n < 0
      · refine iteY h0 (iteT ?_)
        refine ⟨_, rfl, n, rfl, log_lt hb (by decide) (by decide), _, rfl, by omega, _, rfl, by omega, _, rfl, m, rfl, log_lt (small_abs (by omega) (by omega)) (by decide) (by decide), _, rfl, by omega, _, rfl, by omega, by omega, ?_⟩
        exact ⟨by show 1 ≤ sizeLine; decide, bad (.inl h0)⟩
      · refine iteN h0 ?_
        refine ⟨_, rfl, _, _, rfl, rfl, _, rfl, ?_⟩
        by_cases h2 : 0 < My.rest m.toNat n
        · refine iteY h2 ?_
          refine ⟨_, rfl, n, rfl, log_lt hb (by decide) (by decide), _, rfl, by omega, _, rfl, by omega, _, rfl, m, rfl, log_lt (small_abs (by omega) (by omega)) (by decide) (by decide), _, rfl, by omega, _, rfl, by omega, by omega, ?_⟩
          exact ⟨by show 1 ≤ sizeLine; decide, bad (.inr h2)⟩
        · refine iteN h2 ?_
          have r0 := My.rest_nonneg m.toNat n (by omega)
          refine ⟨_, rfl, ps, _, rfl, SqL.of h1, fun p hp => ?_⟩
          refine q1 (by omega) (by omega) p _ (s1.free hp) (s1.new hp) ?_
          rw [upd_same, ← List.map_reverse]
/-! signs_number -/
def sp_signs_number (K : PySem.W.Frag) (C : Addr) : Sp := fun vs H Q E => ∃ (l : Addr) (ns : List Int), vs = [.ref l] ∧ SqL K H l (ns.map V.int) ∧ (∀ n ∈ ns, n.natAbs < 2 ^ 1000) ∧
  ((∀ n ∈ ns, 0 ≤ n ∧ n < 97) → Q (.int (My.told ns)) H) ∧ (∀ n ∈ ns, ¬ (0 ≤ n ∧ n < 97) → E (.ref C) none H)
theorem sc_signs_number : FnScope ["signs", "number", "sign"] ["signs"] (defScope s_signs_number) := ⟨rfl, rfl, rfl, by decide +kernel, rfl, by decide +kernel, by decide +kernel⟩
theorem ok_signs_number (F : Site K mg "signs_number" s_signs_number) (T : Txt K mg t) (D_look_sign : Def P w K mg base 2 "look_sign" ["number"] (sp_look_sign t.BadSign)) : Def P w K mg base 3 "signs_number" ["signs"] (sp_signs_number K t.BadSign) := by
  refine F.def sc_signs_number (fun _ _ _ _ _ _ us hl => match us, hl with | [_], _ => rfl) (fun vs H Q E h => ?_) (fun f cdv A outer s H vs Q E hr h => ?_)
  · obtain ⟨l, ns, rfl, _⟩ := h
    rfl
  · obtain ⟨l, ns, rfl, hl, hb, q1, q2⟩ := h
    refine ⟨_, pss_cons (ps_set (i := 1) sc_signs_number.nd rfl (Or.inl rfl) pe_int)
      (pss_cons (ps_for (own1 cx1_body) rfl (pi_list (pv 0)) (pg_name (i := 2) sc_signs_number.nd rfl (Or.inl rfl))
        (pss_cons (ps_expr (pe_def (D_look_sign.mono (by decide)) hr (pass1 cx1_body) (pa_cons (pv 2) pa_nil)))
        (pss_one (ps_set (i := 1) sc_signs_number.nd rfl (Or.inl rfl) (pe_op op_add (pe_op op_mul (pv 1) (pe_gint T.cSIGNS)) (pv 2))))))
      (pss_one (ps_ret (pv 1)))), ?_⟩
    refine ⟨_, rfl, l, rfl, ⟨_, hl⟩, for_list (K := K) (a := l) (xs := ns.map V.int) (fun i σ H' => ∃ x : Option V, σ = [some (.ref l), some (.int (My.told (ns.take i))), x] ∧ H' = H ∧ ∀ n ∈ ns.take i, 0 ≤ n ∧ n < 97) ⟨none, rfl, rfl, fun n hn => by simp at hn⟩ (fun i σ H' _ ⟨_, _, e, _⟩ => by rw [e]; exact hl) ?_ ?_⟩
    · rintro i y σ H' hi ⟨x, rfl, rfl, ha⟩
      obtain ⟨z, hz, rfl⟩ := item_of hi
      have hm : z ∈ ns := List.mem_of_getElem? hz
      refine ⟨_, rfl, z, rfl, hb z hm, fun h0 => ?_, fun h0 => q2 z hm h0⟩
      refine ⟨_, rfl, _, _, rfl, rfl, .inr ⟨by decide, by decide⟩, _, rfl, _, _, rfl, rfl, ?_⟩
      refine ⟨some (.int z), ?_, rfl, ?_⟩
      · rw [take_succ hz, My.told_snoc]
        rfl
      · rw [take_succ hz]
        intro n hn
        rcases List.mem_append.mp hn with z1 | z1
        · exact ha n z1
        · rw [List.mem_singleton.mp z1]; exact h0
    · rintro σ H' ⟨x, rfl, rfl, ha⟩
      refine ⟨_, rfl, ?_⟩
      rw [List.length_map, List.take_length] at *
      exact q1 ha
/-! slices by natural bounds; what stands stays but for S; rows of lists -/
theorem cutV_ss {xs : List V} {lo hi : Int} (h1 : 0 ≤ lo) (h2 : 0 ≤ hi) : cutV xs (some lo) (some hi) = (xs.drop lo.toNat).take (hi.toNat - lo.toNat) := by
  unfold cutV
  obtain ⟨a, rfl⟩ := Int.eq_ofNat_of_zero_le h1
  obtain ⟨b, rfl⟩ := Int.eq_ofNat_of_zero_le h2
  rw [HT.sIx_nat, HT.sIx_nat, Int.toNat_natCast, Int.toNat_natCast]
  by_cases h : a ≤ xs.length
  · rw [Nat.min_eq_left h]
    by_cases g : b ≤ xs.length
    · rw [Nat.min_eq_left g]
    · rw [Nat.min_eq_right (by omega), List.take_of_length_le (by rw [List.length_drop]; omega), List.take_of_length_le (by rw [List.length_drop]; omega)]
  · rw [Nat.min_eq_right (a := a) (by omega), List.drop_length, List.drop_of_length_le (by omega), List.take_nil, List.take_nil]
theorem cutV_ns {xs : List V} {hi : Int} (h2 : 0 ≤ hi) : cutV xs none (some hi) = xs.take hi.toNat := by
  unfold cutV
  obtain ⟨b, rfl⟩ := Int.eq_ofNat_of_zero_le h2
  rw [HT.sIx_nat, HT.sIx_none, Int.toNat_natCast, List.drop_zero, Nat.sub_zero]
  by_cases g : b ≤ xs.length
  · rw [Nat.min_eq_left g]
  · rw [Nat.min_eq_right (by omega), List.take_length, List.take_of_length_le (by omega)]
theorem cutV_sn {xs : List V} {lo : Int} (h1 : 0 ≤ lo) : cutV xs (some lo) none = xs.drop lo.toNat := by
  unfold cutV
  obtain ⟨a, rfl⟩ := Int.eq_ofNat_of_zero_le h1
  rw [HT.sIx_nat, HT.sIx_none, Int.toNat_natCast]
  by_cases h : a ≤ xs.length
  · rw [Nat.min_eq_left h, List.take_of_length_le (by rw [List.length_drop]; omega)]
  · rw [Nat.min_eq_right (by omega), List.drop_length, List.drop_of_length_le (by omega), List.take_nil]
def Mods (S : List Addr) (H H' : Hp) : Prop := ∀ b o, b ∉ S → H b = some o → H' b = some o
theorem Mods.refl {S : List Addr} {H : Hp} : Mods S H H := fun _ _ _ e => e
theorem Mods.trans {S : List Addr} {H H' H'' : Hp} (a : Mods S H H') (b : Mods S H' H'') : Mods S H H'' := fun x o n e => b x o n (a x o n e)
theorem Mods.same {S : List Addr} {H H' : Hp} (s : Same H H') : Mods S H H' := fun x o _ e => s x o e
theorem Mods.up {S S' : List Addr} {H H' : Hp} (a : Mods S H H') (h : ∀ x ∈ S, x ∈ S') : Mods S' H H' := fun x o n e => a x o (fun z => n (h x z)) e
theorem Mods.trans' {S S' : List Addr} {H H' H'' : Hp} (a : Mods S H H') (b : Mods S' H' H'') (h : ∀ x ∈ S', x ∈ S ∨ H x = none) : Mods S H H'' := fun x o n e => b x o (fun z => (h x z).elim n fun y => by rw [y] at e; cases e) (a x o n e)
theorem Mods.upd {S : List Addr} {H H' : Hp} {p : Addr} {o : HO} (m : Mods S H H') (h : p ∈ S ∨ H p = none) : Mods S H (upd H' p o) := fun b u n e => by
  rw [upd_ne (fun z => by rw [z] at n e; exact h.elim n fun y => by rw [y] at e; cases e)]
  exact m b u n e
theorem Mods.of {S : List Addr} {H H' : Hp} {a : Addr} {o : HO} (m : Mods S H H') (e : H a = some o) (n : a ∉ S) : H' a = some o := m a o n e
/-- lists of numbers at these places -/
def RowsAt (H : Hp) (as : List Addr) (rows : List (List Int)) : Prop := as.length = rows.length ∧ ∀ (i : Nat) (a : Addr) (r : List Int), as[i]? = some a → rows[i]? = some r → H a = some (.lst (r.map V.int))
theorem RowsAt.get {H : Hp} {as : List Addr} {rows : List (List Int)} (h : RowsAt H as rows) {i : Nat} (hi : i < rows.length) : ∃ a, as[i]? = some a ∧ H a = some (.lst (rows[i].map V.int)) := by
  have hi' : i < as.length := by rw [h.1]; exact hi
  exact ⟨as[i], List.getElem?_eq_getElem hi', h.2 i _ _ (List.getElem?_eq_getElem hi') (List.getElem?_eq_getElem hi)⟩
theorem RowsAt.snoc {H : Hp} {as : List Addr} {rows : List (List Int)} {a : Addr} {r : List Int} (h : RowsAt H as rows) (e : H a = some (.lst (r.map V.int))) : RowsAt H (as ++ [a]) (rows ++ [r]) := by
  refine ⟨by rw [List.length_append, List.length_append, h.1]; rfl, fun i b s h1 h2 => ?_⟩
  by_cases hi : i < as.length
  · rw [List.getElem?_append_left hi] at h1
    rw [List.getElem?_append_left (by rw [← h.1]; exact hi)] at h2
    exact h.2 i b s h1 h2
  · rw [List.getElem?_append_right (by omega)] at h1
    rw [List.getElem?_append_right (by rw [← h.1]; omega), ← h.1] at h2
    rcases hz : i - as.length with _ | k
    · rw [hz] at h1 h2
      cases h1; cases h2
      exact e
    · rw [hz] at h1; simp at h1
theorem RowsAt.mods {S : List Addr} {H H' : Hp} {as : List Addr} {rows : List (List Int)} (h : RowsAt H as rows) (m : Mods S H H') (n : ∀ a ∈ as, a ∉ S) : RowsAt H' as rows :=
  ⟨h.1, fun i a r h1 h2 => m a _ (n a (List.mem_of_getElem? h1)) (h.2 i a r h1 h2)⟩
theorem RowsAt.same {H H' : Hp} {as : List Addr} {rows : List (List Int)} (h : RowsAt H as rows) (s : Same H H') : RowsAt H' as rows := h.mods (S := []) (Mods.same s) fun _ _ => List.not_mem_nil
theorem RowsAt.nil {H : Hp} : RowsAt H [] [] := ⟨rfl, fun i a r h => by simp at h⟩
theorem RowsAt.some {H : Hp} {as : List Addr} {rows : List (List Int)} (h : RowsAt H as rows) : ∀ a ∈ as, ∃ o, H a = Option.some o := fun a ha => by
  obtain ⟨i, hi, e⟩ := List.getElem_of_mem ha
  have hi' : i < rows.length := by rw [← h.1]; exact hi
  exact ⟨_, h.2 i a rows[i] (by rw [← e]; exact List.getElem?_eq_getElem hi) (List.getElem?_eq_getElem hi')⟩
theorem Mods.seq {K : PySem.W.Frag} {S : List Addr} {H H' : Hp} {a : Addr} {xs : List V} (m : Mods S H H') (h : SqL K H a xs) (n : a ∉ S) : SqL K H' a xs := by
  rcases h with (h | ⟨o, h⟩) | h
  · exact .inl (.inl (m _ _ n h))
  · exact .inl (.inr ⟨o, m _ _ n h⟩)
  · exact .inr h
theorem Mods.tup {K : PySem.W.Frag} {S : List Addr} {H H' : Hp} {a : Addr} {xs : List V} (m : Mods S H H') (h : SqT K H a xs) (n : a ∉ S) : SqT K H' a xs := by
  rcases h with (h | ⟨o, h⟩) | h
  · exact .inl (.inl (m _ _ n h))
  · exact .inl (.inr ⟨o, m _ _ n h⟩)
  · exact .inr h
theorem Mods.sqB {b : Bool} {K : PySem.W.Frag} {S : List Addr} {H H' : Hp} {a : Addr} {xs : List V} (m : Mods S H H') (h : SqB b K H a xs) (n : a ∉ S) : SqB b K H' a xs := by
  cases b
  · exact m.tup h n
  · exact m.seq h n
/-! _law_digits: so many numbers from nought to size, whatever the cell -/
theorem mul60 : IntMulOk (10 ^ (60 : Int).toNat) (10 ^ (60 : Int).toNat) := by unfold IntMulOk; decide +kernel
theorem mul120 : IntMulOk (10 ^ (60 : Int).toNat * 10 ^ (60 : Int).toNat) (10 ^ (50 : Int).toNat) := by unfold IntMulOk; decide +kernel
theorem big170 : (0 : Int) < 10 ^ (60 : Int).toNat * 10 ^ (60 : Int).toNat * 10 ^ (50 : Int).toNat := by decide +kernel
def sp__law_digits : Sp := fun vs H Q _ => ∃ c m z : Int, vs = [.int c, .int m, .int z] ∧ 0 ≤ m ∧ m ≤ 1000 ∧ 0 < z ∧ z ≤ 1000000 ∧
  ∀ (p : Addr) (H' : Hp) (ns : List Int), H p = none → Same H H' → H' p = some (.lst (ns.map V.int)) → (ns.length : Int) = m → (∀ n ∈ ns, 0 ≤ n ∧ n < z) → Q (.ref p) H'
theorem sc__law_digits : FnScope ["cell", "many", "size", "rest", "free", "near", "told", "k", "mark"] ["cell", "many", "size"] (defScope s__law_digits) := ⟨rfl, rfl, rfl, by decide +kernel, rfl, by decide +kernel, by decide +kernel⟩
theorem ok__law_digits (F : Site K mg "_law_digits" s__law_digits) (T : Txt K mg t) : Def P w K mg base 1 "_law_digits" ["cell", "many", "size"] sp__law_digits := by
  refine F.def sc__law_digits (fun _ _ _ _ _ _ us hl => match us, hl with | [_, _, _], _ => rfl) (fun vs H Q E h => ?_) (fun f cdv A outer s H vs Q E hr h => ?_)
  · obtain ⟨c, m, z, rfl, _⟩ := h
    rfl
  · obtain ⟨c, m, z, rfl, m0, m1, z0, z1, q⟩ := h
    refine ⟨_, pss_cons (ps_set (i := 3) sc__law_digits.nd rfl (Or.inl rfl) (pe_op op_mod (pv 0) (pe_op op_mulW (pe_op op_mulW (pe_op op_pow pe_int pe_int) (pe_op op_pow pe_int pe_int)) (pe_op op_pow pe_int pe_int))))
      (pss_cons (ps_set (i := 4) sc__law_digits.nd rfl (Or.inl rfl) (pe_cmpR op_ge (pv 3) (pe_op op_pow pe_int pe_int) (nomark _)))
      (pss_cons (ps_set (i := 5) sc__law_digits.nd rfl (Or.inl rfl) (pe_op op_mod (pv 3) pe_int))
      (pss_cons (ps_set (i := 6) sc__law_digits.nd rfl (Or.inl rfl) (pe_lst pa_nil))
      (pss_cons (PS.nox (ps_for PassesOwn.never rfl (pi_range1 (by rfl) T.n_range (pa_cons (pv 1) pa_nil)) (pg_name (i := 7) sc__law_digits.nd rfl (Or.inl rfl))
        (pss_one (ps_if (PW.pt (pw_and (pt_val (pv 4)) (pw_and1 (pt_cmpR op_gt (pv 3) pe_int (nomark _)))))
          (pss_cons (ps_expr (pe_bmK K PySem.F.plainAttrs_list PySem.F.slot_list_append PySem.F.type_list_append mt_append (pv 6) (pa_cons (pe_op op_mod (pv 3) (pv 2)) pa_nil)))
          (pss_one (ps_set (i := 3) sc__law_digits.nd rfl (Or.inl rfl) (pe_op op_fdiv (pv 3) (pv 2)))))
          (pss_cons (ps_set (i := 8) sc__law_digits.nd rfl (Or.inl rfl) (pe_op op_mod (pe_op op_add (pe_op op_add (pv 5) (pe_op op_mul pe_int (pv 7))) pe_int) pe_int))
          (pss_cons (ps_set (i := 8) sc__law_digits.nd rfl (Or.inl rfl) (pe_op op_mod (pe_op op_mul (pe_op op_add (pe_op op_mod (pe_op op_mul (pv 8) (pv 8)) pe_int) (pv 7)) pe_int) pe_int))
          (pss_one (ps_expr (pe_bmK K PySem.F.plainAttrs_list PySem.F.slot_list_append PySem.F.type_list_append mt_append (pv 6) (pa_cons (pe_op op_mod (pe_op op_fdiv (pv 8) pe_int) (pv 2)) pa_nil))))))))))
      (pss_one (ps_ret (pv 6))))))), ?_⟩
    have hsz : (2000 : Nat) ≤ sizeLine := by decide
    refine ⟨_, rfl, _, _, rfl, rfl, ⟨by decide, by decide, by decide⟩, _, _, rfl, rfl, ⟨by decide, by decide, by decide⟩, _, _, rfl, rfl, mul60, _, _, rfl, rfl, ⟨by decide, by decide, by decide⟩, _, _, rfl, rfl, mul120, _, _, rfl, rfl, big170, ?_⟩
    have r0 : 0 ≤ c % (10 ^ (60 : Int).toNat * 10 ^ (60 : Int).toNat * 10 ^ (50 : Int).toNat : Int) := Int.emod_nonneg _ (by have := big170; omega)
    obtain ⟨r, er⟩ : ∃ r, r = c % (10 ^ (60 : Int).toNat * 10 ^ (60 : Int).toNat * 10 ^ (50 : Int).toNat : Int) := ⟨_, rfl⟩
    rw [← er] at r0
    obtain ⟨fr, ef⟩ : ∃ fr, fr = decide ((10 : Int) ^ (18 : Int).toNat ≤ r) := ⟨_, rfl⟩
    obtain ⟨nr, en⟩ : ∃ nr, nr = r % 2147483647 := ⟨_, rfl⟩
    have n0 : 0 ≤ nr := by rw [en]; exact Int.emod_nonneg _ (by decide)
    have n1 : nr < 2147483647 := by rw [en]; exact Int.emod_lt_of_pos _ (by decide)
    refine ⟨_, rfl, _, _, rfl, rfl, ⟨by decide, by decide, by decide⟩, _, _, rfl, rfl, ?_⟩
    refine ⟨_, rfl, _, _, rfl, rfl, (by show (0 : Int) < 2147483647; decide), ?_⟩
    refine ⟨by show 0 ≤ sizeLine; decide, fun ps hps => ?_⟩
    refine ⟨_, rfl, m, rfl, by omega, by omega, for_range (lo := 0) (n := m.toNat) (fun i σ H' => ∃ (r' : Int) (x y : Option V) (ns : List Int), σ = [some (.int c), some (.int m), some (.int z), some (.int r'), some (.bl fr), some (.int nr), some (.ref ps), x, y] ∧ 0 ≤ r' ∧ Same H H' ∧ H' ps = some (.lst (ns.map V.int)) ∧ ns.length = i ∧ ∀ n ∈ ns, 0 ≤ n ∧ n < z)
      ⟨r, none, none, [], by rw [en, ef, er]; rfl, r0, (Same.refl _).new hps, upd_same, rfl, fun n hn => by simp at hn⟩ ?_ ?_⟩
    · rintro i σ H' hi ⟨r', x, y, ns, rfl, r0', s1, h1, hl, hn⟩
      have all : ∀ d : Int, 0 ≤ d → d < z → ∀ n ∈ ns ++ [d], 0 ≤ n ∧ n < z := fun d d0 d1 n h => by
        rcases List.mem_append.mp h with h | h
        · exact hn n h
        · rw [List.mem_singleton.mp h]; exact ⟨d0, d1⟩
      have fin : ∀ d : Int, Same H (upd H' ps (.lst (ns.map V.int ++ [.int d]))) ∧ (upd H' ps (.lst (ns.map V.int ++ [.int d]))) ps = some (.lst ((ns ++ [d]).map V.int)) ∧ (ns ++ [d]).length = i + 1 :=
        fun d => ⟨s1.put hps, by rw [upd_same, List.map_append]; rfl, by rw [List.length_append, hl]; rfl⟩
      have lg : (ns.map V.int).length < sizeLine := by rw [List.length_map]; omega
      refine ⟨_, rfl, fr, rfl, ?_⟩
      cases fr with
      | true =>
        refine iteT ?_
        refine ⟨_, rfl, _, _, rfl, rfl, _, rfl, ?_⟩
        by_cases hr0 : 0 < r'
        · refine iteY hr0 ?_
          refine ⟨_, rfl, .inl ⟨rfl, _, SqL.of h1⟩, _, rfl, _, rfl, _, _, rfl, rfl, z0, ps, _, _, rfl, rfl, h1, lg, ?_⟩
          refine ⟨_, rfl, _, rfl, _, _, rfl, rfl, ⟨z0, by omega⟩, ?_⟩
          exact ⟨r' / z, _, _, ns ++ [r' % z], rfl, Int.ediv_nonneg r0' (by omega), (fin _).1, (fin _).2.1, (fin _).2.2, all _ (Int.emod_nonneg _ (by omega)) (Int.emod_lt_of_pos _ z0)⟩
        · refine iteN hr0 ?_
          refine ⟨_, rfl, _, rfl, _, _, rfl, rfl, .inl ⟨by decide, by decide⟩, _, _, rfl, rfl, _, _, rfl, rfl, _, _, rfl, rfl, (by show (0 : Int) < 2147483647; decide), ?_⟩
          have a0 := Int.emod_nonneg (nr + 977 * (0 + (i : Nat)) + 1) (b := 2147483647) (by decide)
          have a1 := Int.emod_lt_of_pos (nr + 977 * (0 + (i : Nat)) + 1) (b := 2147483647) (by decide)
          refine ⟨_, rfl, _, rfl, _, _, rfl, rfl, .inl ⟨by show -(2 ^ 64) < (nr + 977 * (0 + (i : Nat)) + 1) % 2147483647; omega, by show (nr + 977 * (0 + (i : Nat)) + 1) % 2147483647 < 2 ^ 64; omega⟩, _, _, rfl, rfl, (by show (0 : Int) < 1000000007; decide), _, rfl, _, _, rfl, rfl, _, _, rfl, rfl, .inr ⟨by decide, by decide⟩, _, _, rfl, rfl, (by show (0 : Int) < 998244353; decide), ?_⟩
          refine ⟨_, rfl, .inl ⟨rfl, _, SqL.of h1⟩, _, rfl, _, _, rfl, rfl, ⟨by decide, by decide⟩, _, rfl, _, _, rfl, rfl, z0, ps, _, _, rfl, rfl, h1, lg, ?_⟩
          exact ⟨r', _, _, ns ++ [_], rfl, r0', (fin _).1, (fin _).2.1, (fin _).2.2, all _ (Int.emod_nonneg _ (by omega)) (Int.emod_lt_of_pos _ z0)⟩
      | false =>
        refine iteF (iteF ?_)
        refine ⟨_, rfl, _, rfl, _, _, rfl, rfl, .inl ⟨by decide, by decide⟩, _, _, rfl, rfl, _, _, rfl, rfl, _, _, rfl, rfl, (by show (0 : Int) < 2147483647; decide), ?_⟩
        have a0 := Int.emod_nonneg (nr + 977 * (0 + (i : Nat)) + 1) (b := 2147483647) (by decide)
        have a1 := Int.emod_lt_of_pos (nr + 977 * (0 + (i : Nat)) + 1) (b := 2147483647) (by decide)
        refine ⟨_, rfl, _, rfl, _, _, rfl, rfl, .inl ⟨by show -(2 ^ 64) < (nr + 977 * (0 + (i : Nat)) + 1) % 2147483647; omega, by show (nr + 977 * (0 + (i : Nat)) + 1) % 2147483647 < 2 ^ 64; omega⟩, _, _, rfl, rfl, (by show (0 : Int) < 1000000007; decide), _, rfl, _, _, rfl, rfl, _, _, rfl, rfl, .inr ⟨by decide, by decide⟩, _, _, rfl, rfl, (by show (0 : Int) < 998244353; decide), ?_⟩
        refine ⟨_, rfl, .inl ⟨rfl, _, SqL.of h1⟩, _, rfl, _, _, rfl, rfl, ⟨by decide, by decide⟩, _, rfl, _, _, rfl, rfl, z0, ps, _, _, rfl, rfl, h1, lg, ?_⟩
        exact ⟨r', _, _, ns ++ [_], rfl, r0', (fin _).1, (fin _).2.1, (fin _).2.2, all _ (Int.emod_nonneg _ (by omega)) (Int.emod_lt_of_pos _ z0)⟩
    · rintro σ H' ⟨r', x, y, ns, rfl, r0', s1, h1, hl, hn⟩
      refine ⟨_, rfl, ?_⟩
      exact q ps H' ns hps s1 h1 (by omega) hn
/-! letters: what they are; is_house, look_signs, look_way -/
def kds : List Str := ["news", "part", "had", "ask", "answer"]
structure Ltr where
  c : Int
  way : List Int
  kind : Str
  ab : List Int
  bd : List Int
def Sgn (n : Int) : Prop := 0 ≤ n ∧ n < 97
def Hse (n : Int) : Prop := 0 ≤ n ∧ n < 32
def WayOk (ns : List Int) : Prop := (1 ≤ ns.length ∧ ns.length ≤ 6) ∧ (∀ n ∈ ns, Hse n) ∧ ns.Nodup
def SgsOk (ns : List Int) (m : Int) : Prop := (ns.length : Int) ≤ m ∧ ∀ n ∈ ns, Sgn n
structure LtOk (L : Ltr) : Prop where
  c : 0 ≤ L.c ∧ L.c ≤ 900000
  way : WayOk L.way
  kind : L.kind ∈ kds
  ab : SgsOk L.ab 4
  bd : SgsOk L.bd 56
theorem sgn_abs {n : Int} (h : Sgn n) : n.natAbs < 2 ^ 1000 := small_abs (by have := h.1; omega) (by have := h.2; omega)
theorem hse_abs {n : Int} (h : Hse n) : n.natAbs < 2 ^ 1000 := small_abs (by have := h.1; omega) (by have := h.2; omega)
/-- a letter lies at r -/
def LtAt (K : PySem.W.Frag) (H : Hp) (r : Addr) (L : Ltr) : Prop := ∃ w a b, SqT K H r [.int L.c, .ref w, .str L.kind, .ref a, .ref b] ∧ SqT K H w (L.way.map V.int) ∧ SqT K H a (L.ab.map V.int) ∧ SqT K H b (L.bd.map V.int)
theorem LtAt.kept {K : PySem.W.Frag} {H H' : Hp} {r : Addr} {L : Ltr} (h : LtAt K H r L) (k : Kept H H') : LtAt K H' r L := by
  obtain ⟨w, a, b, h1, h2, h3, h4⟩ := h
  exact ⟨w, a, b, k.tup h1, k.tup h2, k.tup h3, k.tup h4⟩
theorem LtAt.same {K : PySem.W.Frag} {H H' : Hp} {r : Addr} {L : Ltr} (h : LtAt K H r L) (s : Same H H') : LtAt K H' r L := h.kept (.same s)
def ltD (L : Ltr) : PyData := .tuple [.int L.c, .tuple (L.way.map .int), .str L.kind, .tuple (L.ab.map .int), .tuple (L.bd.map .int)]
theorem intsD {K : PySem.W.Frag} {H : Hp} {n : Nat} {ns : List Int} (i : Nat) (x : V) (d : PyData) (h1 : (ns.map V.int)[i]? = some x) (h2 : (ns.map PyData.int)[i]? = some d) : IsDat K H n x d := by
  rw [List.getElem?_map] at h1 h2
  cases e : ns[i]? with
  | none => rw [e] at h1; cases h1
  | some z => rw [e] at h1 h2; cases h1; cases h2; exact .int z
theorem tupD {K : PySem.W.Frag} {H : Hp} {n : Nat} {a : Addr} {ns : List Int} (h : SqT K H a (ns.map V.int)) : IsDat K H (n + 1) (.ref a) (.tuple (ns.map .int)) := .tup h (by rw [List.length_map, List.length_map]) intsD
theorem kds_ok {k : Str} (h : k ∈ kds) : PyData.strOk k = true := by
  have : ∀ k ∈ kds, PyData.strOk k = true := by decide +kernel
  exact this k h
theorem LtAt.dat {K : PySem.W.Frag} {H : Hp} {r : Addr} {L : Ltr} (h : LtAt K H r L) (hk : L.kind ∈ kds) {n : Nat} : IsDat K H (n + 2) (.ref r) (ltD L) := by
  obtain ⟨w, a, b, h1, h2, h3, h4⟩ := h
  refine .tup h1 rfl fun i x d e1 e2 => ?_
  match i with
  | 0 => cases e1; cases e2; exact .int _
  | 1 => cases e1; cases e2; exact tupD h2
  | 2 => cases e1; cases e2; exact .str _ (kds_ok hk)
  | 3 => cases e1; cases e2; exact tupD h3
  | 4 => cases e1; cases e2; exact tupD h4
  | i + 5 => simp at e1
/-! is_house -/
def sp_is_house : Sp := fun vs H Q _ => ∃ n : Int, vs = [.int n] ∧ Q (.bl (decide (0 ≤ n ∧ n < 32))) H
theorem sc_is_house : FnScope ["number"] ["number"] (defScope s_is_house) := ⟨rfl, rfl, rfl, by decide +kernel, rfl, by decide +kernel, by decide +kernel⟩
theorem ok_is_house (F : Site K mg "is_house" s_is_house) (T : Txt K mg t) : Def P w K mg base 1 "is_house" ["number"] sp_is_house := by
  refine F.def sc_is_house (fun _ _ _ _ _ _ us hl => match us, hl with | [_], _ => rfl) (fun vs H Q E h => ?_) (fun f cdv A outer s H vs Q E hr h => ?_)
  · obtain ⟨n, rfl, _⟩ := h
    rfl
  · obtain ⟨n, rfl, q⟩ := h
    refine ⟨_, pss_one (ps_ret (pe_chain op_le op_lt pe_int (pv 0) (pe_gint T.cHOUSES))), ?_⟩
    refine ⟨_, rfl, _, _, rfl, rfl, _, rfl, ?_⟩
    by_cases h0 : 0 ≤ n
    · rw [decide_eq_true h0]
      refine iteT ⟨_, _, rfl, rfl, ?_⟩
      have e : decide (n < 32) = decide (0 ≤ n ∧ n < 32) := by simp [h0]
      show Q (.bl (decide (n < 32))) H
      rw [e]
      exact q
    · rw [decide_eq_false h0]
      refine iteF ?_
      have e : false = decide (0 ≤ n ∧ n < 32) := by simp [h0]
      show Q (.bl false) H
      rw [e]
      exact q
/-! look_signs -/
def sp_look_signs (K : PySem.W.Frag) (C : Addr) : Sp := fun vs H Q E => ∃ (b : Bool) (l : Addr) (ns : List Int) (m : Int), vs = [.ref l, .int m] ∧ SqB b K H l (ns.map V.int) ∧ (∀ n ∈ ns, n.natAbs < 2 ^ 1000) ∧ 0 ≤ m ∧ m ≤ 1000 ∧ (SgsOk ns m → Q .non H) ∧ (¬ SgsOk ns m → E (.ref C) none H)
theorem sc_look_signs : FnScope ["signs", "most", "sign"] ["signs", "most"] (defScope s_look_signs) := ⟨rfl, rfl, rfl, by decide +kernel, rfl, by decide +kernel, by decide +kernel⟩
theorem ok_look_signs (F : Site K mg "look_signs" s_look_signs) (T : Txt K mg t) (D_is_sign : Def P w K mg base 1 "is_sign" ["number"] sp_is_sign) : Def P w K mg base 2 "look_signs" ["signs", "most"] (sp_look_signs K t.BadLetter) := by
  refine F.def sc_look_signs (fun _ _ _ _ _ _ us hl => match us, hl with | [_, _], _ => rfl) (fun vs H Q E h => ?_) (fun f cdv A outer s H vs Q E hr h => ?_)
  · obtain ⟨b, l, ns, m, rfl, _⟩ := h
    rfl
  · obtain ⟨b, l, ns, m, rfl, hl, hb, m0, m1, q1, q2⟩ := h
    refine ⟨_, pss_cons (ps_if (pt_cmpR op_gt (pe_callB (call_lenK K) (by rfl) T.n_len boot_len (pa_cons (pv 0) pa_nil)) (pv 1) (nomark _))
        (pss_one (ps_raise cx1_body rfl rfl T.mBadLetter T.xBadLetter PySem.F.excBase_ValueError (pa_cons (pe_fstr (pj_cons pe_str (pj_cons (pe_fmtI (pv 1)) (pj_cons pe_str pj_nil)))) pa_nil)))
        (pss_nil))
      (pss_one (ps_for (own1 cx1_body) rfl (pi_seqK K (pv 0)) (pg_name (i := 2) sc_look_signs.nd rfl (Or.inl rfl))
        (pss_one (ps_if (pt_not (pt_val (pe_def (D_is_sign.mono (by decide)) hr passN (pa_cons (pv 2) pa_nil))))
          (pss_one (ps_raise cx1_body rfl rfl T.mBadLetter T.xBadLetter PySem.F.excBase_ValueError (pa_cons (pe_fstr (pj_cons (pe_fmtI (pv 2)) (pj_cons pe_str pj_nil))) pa_nil)))
          (pss_nil))))), ?_⟩
    have sl : (3000 : Nat) ≤ sizeLine := by decide
    have hm : m.natAbs < 2 ^ 1000 := small_abs (by omega) (by omega)
    have z10 := txt_len hm
    have l1 : ("at most " : Str).length = 8 := by decide +kernel
    have l2 : (" signs are asked for here" : Str).length = 25 := by decide +kernel
    have e0 : (Str.empty ++ ("at most " : Str)).length ≤ 8 := by rw [strLen_append, l1]; show 0 + 8 ≤ 8; omega
    have e1 : ((Str.empty ++ ("at most " : Str)) ++ Str.ofString (toString m)).length ≤ 1009 := by rw [strLen_append]; omega
    have e2 : (((Str.empty ++ ("at most " : Str)) ++ Str.ofString (toString m)) ++ (" signs are asked for here" : Str)).length ≤ 1034 := by rw [strLen_append]; omega
    refine ⟨_, rfl, l, _, rfl, hl.or, _, rfl, _, _, rfl, rfl, _, rfl, ?_⟩
    rw [List.length_map]
    by_cases h1 : m < (ns.length : Nat)
    · refine iteY h1 ?_
      refine ⟨_, rfl, by omega, _, rfl, m, rfl, log_lt hm (by decide) (by decide), _, rfl, by omega, _, rfl, by omega, by omega, ?_⟩
      exact ⟨by show 1 ≤ sizeLine; decide, q2 fun r => by have := r.1; omega⟩
    · refine iteN h1 ?_
      refine ⟨_, rfl, b, l, _, rfl, hl, for_seq (b := b) (K := K) (a := l) (xs := ns.map V.int) (fun i σ H' => ∃ x : Option V, σ = [some (.ref l), some (.int m), x] ∧ H' = H ∧ ∀ n ∈ ns.take i, Sgn n) ⟨none, rfl, rfl, fun n hn => by simp at hn⟩ (fun i σ H' _ ⟨_, _, e, _⟩ => by rw [e]; exact hl) ?_ ?_⟩
      · rintro i y σ H' hi ⟨x, rfl, rfl, ha⟩
        obtain ⟨z, hz, rfl⟩ := item_of hi
        have hzm : z ∈ ns := List.mem_of_getElem? hz
        refine ⟨_, rfl, z, rfl, _, rfl, ?_⟩
        by_cases h0 : 0 ≤ z ∧ z < 97
        · rw [decide_eq_true h0]
          refine iteF ⟨some (.int z), rfl, rfl, ?_⟩
          rw [take_succ hz]
          intro n hn
          rcases List.mem_append.mp hn with z1 | z1
          · exact ha n z1
          · rw [List.mem_singleton.mp z1]; exact h0
        · rw [decide_eq_false h0]
          refine iteT ?_
          have hzl := txt_len (hb z hzm)
          have f0 : (Str.empty ++ Str.ofString (toString z)).length ≤ 1001 := by rw [strLen_append]; show 0 + _ ≤ 1001; omega
          have f1 : ((Str.empty ++ Str.ofString (toString z)) ++ (" is no sign" : Str)).length ≤ 2000 := by
            have : (" is no sign" : Str).length = 11 := by decide +kernel
            rw [strLen_append]; omega
          refine ⟨_, rfl, z, rfl, log_lt (hb z hzm) (by decide) (by decide), _, rfl, by omega, _, rfl, by omega, by omega, ?_⟩
          exact ⟨by show 1 ≤ sizeLine; decide, q2 fun r => h0 (r.2 z hzm)⟩
      · rintro σ H' ⟨x, rfl, rfl, ha⟩
        rw [List.length_map, List.take_length] at ha
        exact q1 ⟨by omega, ha⟩
/-! look_way -/
theorem keys_int (ns : List Int) : ns.map V.int = (ns.map Sum.inl).map kV := by rw [List.map_map]; rfl
theorem nodup_key {ns : List Int} : (ns.map (Sum.inl : Int → Key)).reverse.Nodup ↔ ns.Nodup := by
  unfold List.Nodup
  rw [List.pairwise_reverse, List.pairwise_map]
  exact ⟨fun h => h.imp fun e z => e (by rw [z]), fun h => h.imp fun e z => e (Sum.inl.inj z).symm⟩
def sp_look_way (K : PySem.W.Frag) (C : Addr) : Sp := fun vs H Q E => ∃ (b : Bool) (l : Addr) (ns : List Int), vs = [.ref l] ∧ SqB b K H l (ns.map V.int) ∧ (∀ n ∈ ns, n.natAbs < 2 ^ 1000) ∧ (WayOk ns → ∀ H', Same H H' → Q .non H') ∧ (¬ WayOk ns → ∀ H', Same H H' → E (.ref C) none H')
theorem sc_look_way : FnScope ["way", "house"] ["way"] (defScope s_look_way) := ⟨rfl, rfl, rfl, by decide +kernel, rfl, by decide +kernel, by decide +kernel⟩
theorem ok_look_way (F : Site K mg "look_way" s_look_way) (T : Txt K mg t) (D_is_house : Def P w K mg base 1 "is_house" ["number"] sp_is_house) : Def P w K mg base 2 "look_way" ["way"] (sp_look_way K t.BadLetter) := by
  refine F.def sc_look_way (fun _ _ _ _ _ _ us hl => match us, hl with | [_], _ => rfl) (fun vs H Q E h => ?_) (fun f cdv A outer s H vs Q E hr h => ?_)
  · obtain ⟨b, l, ns, rfl, _⟩ := h
    rfl
  · obtain ⟨b, l, ns, rfl, hl, hb, q1, q2⟩ := h
    refine ⟨_, pss_cons (ps_if (pt_not (pt_chain op_le op_le pe_int (pe_callB (call_lenK K) (by rfl) T.n_len boot_len (pa_cons (pv 0) pa_nil)) (pe_gint T.cLONGEST_WAY)))
        (pss_one (ps_raise cx1_body rfl rfl T.mBadLetter T.xBadLetter PySem.F.excBase_ValueError (pa_cons (pe_fstr (pj_cons pe_str (pj_cons (pe_fmtI (pe_gint T.cLONGEST_WAY)) (pj_cons pe_str pj_nil)))) pa_nil)))
        (pss_nil))
      (pss_cons (ps_for (own1 cx1_body) rfl (pi_seqK K (pv 0)) (pg_name (i := 1) sc_look_way.nd rfl (Or.inl rfl))
        (pss_one (ps_if (pt_not (pt_val (pe_def (D_is_house.mono (by decide)) hr passN (pa_cons (pv 1) pa_nil))))
          (pss_one (ps_raise cx1_body rfl rfl T.mBadLetter T.xBadLetter PySem.F.excBase_ValueError (pa_cons (pe_fstr (pj_cons (pe_fmtI (pv 1)) (pj_cons pe_str pj_nil))) pa_nil)))
          (pss_nil))))
      (pss_one (ps_if (pt_cmpR op_ne (pe_callB call_lenKS (by rfl) T.n_len boot_len (pa_cons (pe_callTy (call_setK K) (by rfl) T.n_set boot_set (pa_cons (pv 0) pa_nil)) pa_nil)) (pe_callB (call_lenK K) (by rfl) T.n_len boot_len (pa_cons (pv 0) pa_nil)) (nomark _))
        (pss_one (ps_raise cx1_body rfl rfl T.mBadLetter T.xBadLetter PySem.F.excBase_ValueError (pa_cons pe_str pa_nil)))
        (pss_nil)))), ?_⟩
    have sl : (3000 : Nat) ≤ sizeLine := by decide
    have z10 := txt_len (i := 6) (by decide)
    have l1 : ("a way has 1 to " : Str).length = 15 := by decide +kernel
    have l2 : (" houses" : Str).length = 7 := by decide +kernel
    have e0 : (Str.empty ++ ("a way has 1 to " : Str)).length ≤ 15 := by rw [strLen_append, l1]; show 0 + 15 ≤ 15; omega
    have e1 : ((Str.empty ++ ("a way has 1 to " : Str)) ++ Str.ofString (toString (6 : Int))).length ≤ 1016 := by rw [strLen_append]; omega
    have e2 : (((Str.empty ++ ("a way has 1 to " : Str)) ++ Str.ofString (toString (6 : Int))) ++ (" houses" : Str)).length ≤ 1023 := by rw [strLen_append]; omega
    refine ⟨_, rfl, l, _, rfl, hl.or, _, _, rfl, rfl, _, rfl, ?_⟩
    rw [List.length_map]
    by_cases h1 : (1 : Int) ≤ (ns.length : Nat)
    · refine iteY h1 ?_
      refine ⟨_, _, rfl, rfl, _, rfl, ?_⟩
      by_cases h2 : ((ns.length : Nat) : Int) ≤ 6
      · rw [decide_eq_true h2]
        refine iteF ?_
        refine ⟨_, rfl, b, l, _, rfl, hl, for_seq (b := b) (K := K) (a := l) (xs := ns.map V.int) (fun i σ H' => ∃ x : Option V, σ = [some (.ref l), x] ∧ H' = H ∧ ∀ n ∈ ns.take i, Hse n) ⟨none, rfl, rfl, fun n hn => by simp at hn⟩ (fun i σ H' _ ⟨_, _, e, _⟩ => by rw [e]; exact hl) ?_ ?_⟩
        · rintro i y σ H' hi ⟨x, rfl, rfl, ha⟩
          obtain ⟨z, hz, rfl⟩ := item_of hi
          have hzm : z ∈ ns := List.mem_of_getElem? hz
          refine ⟨_, rfl, z, rfl, _, rfl, ?_⟩
          by_cases h0 : 0 ≤ z ∧ z < 32
          · rw [decide_eq_true h0]
            refine iteF ⟨some (.int z), rfl, rfl, ?_⟩
            rw [take_succ hz]
            intro n hn
            rcases List.mem_append.mp hn with z1 | z1
            · exact ha n z1
            · rw [List.mem_singleton.mp z1]; exact h0
          · rw [decide_eq_false h0]
            refine iteT ?_
            have hzl := txt_len (hb z hzm)
            have f0 : (Str.empty ++ Str.ofString (toString z)).length ≤ 1001 := by rw [strLen_append]; show 0 + _ ≤ 1001; omega
            have f1 : ((Str.empty ++ Str.ofString (toString z)) ++ (" is no house" : Str)).length ≤ 2000 := by
              have : (" is no house" : Str).length = 12 := by decide +kernel
              rw [strLen_append]; omega
            refine ⟨_, rfl, z, rfl, log_lt (hb z hzm) (by decide) (by decide), _, rfl, by omega, _, rfl, by omega, by omega, ?_⟩
            exact ⟨by show 1 ≤ sizeLine; decide, q2 (fun r => h0 (r.2.1 z hzm)) _ (Same.refl _)⟩
        · rintro σ H' ⟨x, rfl, rfl, ha⟩
          rw [List.length_map, List.take_length] at ha
          have sb : (1000 : Nat) < scanBound := by decide
          refine ⟨_, rfl, l, ns.map Sum.inl, rfl, by rw [← keys_int]; exact hl.or, by rw [List.length_map]; omega, fun q hq => ?_⟩
          have s1 : Same H' (upd H' q (KSet P w q (ns.map Sum.inl).reverse)) := (Same.refl _).new hq
          refine ⟨q, _, rfl, upd_same, _, rfl, l, _, rfl, (Mods.sqB (S := []) (Mods.same s1) hl List.not_mem_nil).or, rfl, _, rfl, ?_⟩
          rw [List.length_map]
          have hd := dd_nodup (ns.map (Sum.inl : Int → Key)).reverse
          rw [nodup_key, List.length_reverse, List.length_map] at hd
          by_cases hn : ns.Nodup
          · refine iteNN (by rw [hd.mpr hn]) ?_
            exact q1 ⟨⟨by omega, by omega⟩, ha, hn⟩ _ s1
          · refine iteNY (fun z => hn (hd.mp (by have := V.int.inj z; omega))) ?_
            exact ⟨by show 1 ≤ sizeLine; decide, q2 (fun r => hn r.2.2) _ s1⟩
      · rw [decide_eq_false h2]
        refine iteT ?_
        refine ⟨_, rfl, by omega, 6, rfl, log_lt (n := 1000) (by decide) (by decide) (by decide), _, rfl, by omega, _, rfl, by omega, by omega, ?_⟩
        exact ⟨by show 1 ≤ sizeLine; decide, q2 (fun r => h2 (by have := r.1.2; omega)) _ (Same.refl _)⟩
    · refine iteN h1 ?_
      refine ⟨_, rfl, iteT ?_⟩
      refine ⟨_, rfl, by omega, 6, rfl, log_lt (n := 1000) (by decide) (by decide) (by decide), _, rfl, by omega, _, rfl, by omega, by omega, ?_⟩
      exact ⟨by show 1 ≤ sizeLine; decide, q2 (fun r => h1 (by have := r.1.1; omega)) _ (Same.refl _)⟩
end
end K43
namespace K43
open PySem L2 PyProof.Rows
section
variable {P : Program} {w : World} {K : PySem.W.Frag} {mg : Str → Option Value} {base : Heap} {t : Ad}
/-! made_letter -/
theorem inV_str {k : Str} {l : List Str} : inV (.str k) (l.map V.str) = true ↔ k ∈ l := by
  unfold inV
  rw [List.any_eq_true]
  constructor
  · rintro ⟨x, hx, e⟩
    obtain ⟨y, hy, rfl⟩ := List.mem_map.mp hx
    have e : (y == k) = true := e
    rw [← show y = k by simpa using e]
    exact hy
  · intro h
    exact ⟨.str k, List.mem_map.mpr ⟨k, h, rfl⟩, by show (k == k) = true; simp⟩
theorem inV_int {k : Int} {l : List Int} : inV (.int k) (l.map V.int) = true ↔ k ∈ l := by
  unfold inV
  rw [List.any_eq_true]
  constructor
  · rintro ⟨x, hx, e⟩
    obtain ⟨y, hy, rfl⟩ := List.mem_map.mp hx
    have e : (y == k) = true := e
    rw [← show y = k by simpa using e]
    exact hy
  · intro h
    exact ⟨.int k, List.mem_map.mpr ⟨k, h, rfl⟩, by show (k == k) = true; simp⟩
theorem flat_ints (l : List Int) : (l.map V.int).all flatV = true := by
  rw [List.all_eq_true]
  intro x hx
  obtain ⟨y, _, rfl⟩ := List.mem_map.mp hx
  rfl
def sp_made_letter (K : PySem.W.Frag) (C : Addr) : Sp := fun vs H Q E => ∃ (b1 b2 b3 : Bool) (w a d : Addr) (L : Ltr), vs = [.int L.c, .ref w, .str L.kind, .ref a, .ref d] ∧ SqB b1 K H w (L.way.map V.int) ∧ SqB b2 K H a (L.ab.map V.int) ∧ SqB b3 K H d (L.bd.map V.int) ∧
  L.c.natAbs < 2 ^ 1000 ∧ (∀ n ∈ L.way, n.natAbs < 2 ^ 1000) ∧ (∀ n ∈ L.ab, n.natAbs < 2 ^ 1000) ∧ (∀ n ∈ L.bd, n.natAbs < 2 ^ 1000) ∧ (reprText L.kind).length ≤ 1000 ∧
  (LtOk L → ∀ r H', Same H H' → LtAt K H' r L → Q (.ref r) H') ∧ (¬ LtOk L → ∀ H', Same H H' → E (.ref C) none H')
theorem sc_made_letter : FnScope ["count", "way", "kind", "about", "body"] ["count", "way", "kind", "about", "body"] (defScope s_made_letter) := ⟨rfl, rfl, rfl, by decide +kernel, rfl, by decide +kernel, by decide +kernel⟩
theorem ok_made_letter (F : Site K mg "made_letter" s_made_letter) (T : Txt K mg t) (D_look_signs : Def P w K mg base 2 "look_signs" ["signs", "most"] (sp_look_signs K t.BadLetter)) (D_look_way : Def P w K mg base 2 "look_way" ["way"] (sp_look_way K t.BadLetter)) : Def P w K mg base 3 "made_letter" ["count", "way", "kind", "about", "body"] (sp_made_letter K t.BadLetter) := by
  refine F.def sc_made_letter (fun _ _ _ _ _ _ us hl => match us, hl with | [_, _, _, _, _], _ => rfl) (fun vs H Q E h => ?_) (fun f cdv A outer s H vs Q E hr h => ?_)
  · obtain ⟨b1, b2, b3, w', a, d, L, rfl, _⟩ := h
    rfl
  · obtain ⟨b1, b2, b3, w', a, d, L, rfl, hw, ha, hd, cb, wb, ab, db, kb, q1, q2⟩ := h
    refine ⟨_, pss_cons (ps_if (pt_not (pt_chain op_le op_le pe_int (pv 0) (pe_gint T.cMOST_COUNT)))
        (pss_one (ps_raise cx1_body rfl rfl T.mBadLetter T.xBadLetter PySem.F.excBase_ValueError (pa_cons (pe_fstr (pj_cons pe_str (pj_cons (pe_fmtI (pe_gint T.cMOST_COUNT)) (pj_cons pe_str (pj_cons (pe_fmtI (pv 0)) pj_nil))))) pa_nil)))
        (pss_nil))
      (pss_cons (ps_expr (pe_def (D_look_way.mono (by decide)) hr (pass1 cx1_body) (pa_cons (pv 1) pa_nil)))
      (pss_cons (ps_if (pt_cmpR op_notIn_seq (pv 2) (pe_glob (v := .ref t.KINDS) (by rfl) T.mKINDS rfl) (by rfl))
        (pss_one (ps_raise cx1_body rfl rfl T.mBadLetter T.xBadLetter PySem.F.excBase_ValueError (pa_cons (pe_fstr (pj_cons (pe_fmtR (pv 2)) (pj_cons pe_str pj_nil))) pa_nil)))
        (pss_nil))
      (pss_cons (ps_expr (pe_def (D_look_signs.mono (by decide)) hr (pass1 cx1_body) (pa_cons (pv 3) (pa_cons (pe_gint T.cLONGEST_ABOUT) pa_nil))))
      (pss_cons (ps_expr (pe_def (D_look_signs.mono (by decide)) hr (pass1 cx1_body) (pa_cons (pv 4) (pa_cons (pe_gint T.cLONGEST_BODY) pa_nil))))
      (pss_one (ps_ret (pe_tup (pa_cons (pv 0) (pa_cons (pe_callTy (call_tupleB K) (by rfl) T.n_tuple boot_tuple (pa_cons (pv 1) pa_nil)) (pa_cons (pv 2) (pa_cons (pe_callTy (call_tupleB K) (by rfl) T.n_tuple boot_tuple (pa_cons (pv 3) pa_nil)) (pa_cons (pe_callTy (call_tupleB K) (by rfl) T.n_tuple boot_tuple (pa_cons (pv 4) pa_nil)) pa_nil)))))))))))), ?_⟩
    have sl : (6000 : Nat) ≤ sizeLine := by decide
    have z9 := txt_len (i := 900000) (by decide)
    have zc := txt_len cb
    have l1 : ("a count is from 0 to " : Str).length = 21 := by decide +kernel
    have l2 : (", not " : Str).length = 6 := by decide +kernel
    have e0 : (Str.empty ++ ("a count is from 0 to " : Str)).length ≤ 21 := by rw [strLen_append, l1]; show 0 + 21 ≤ 21; omega
    have e1 : ((Str.empty ++ ("a count is from 0 to " : Str)) ++ Str.ofString (toString (900000 : Int))).length ≤ 1022 := by rw [strLen_append]; omega
    have e2 : (((Str.empty ++ ("a count is from 0 to " : Str)) ++ Str.ofString (toString (900000 : Int))) ++ (", not " : Str)).length ≤ 1028 := by rw [strLen_append]; omega
    have e3 : ((((Str.empty ++ ("a count is from 0 to " : Str)) ++ Str.ofString (toString (900000 : Int))) ++ (", not " : Str)) ++ Str.ofString (toString L.c)).length ≤ 2029 := by rw [strLen_append]; omega
    have bad : ∀ (_ : ¬ (0 ≤ L.c ∧ L.c ≤ 900000)), E (.ref t.BadLetter) none H := fun z => q2 (fun r => z r.c) H (Same.refl _)
    refine ⟨_, rfl, _, _, rfl, rfl, _, rfl, ?_⟩
    by_cases h1 : 0 ≤ L.c
    · refine iteY h1 ?_
      refine ⟨_, _, rfl, rfl, _, rfl, ?_⟩
      by_cases h2 : L.c ≤ 900000
      · rw [decide_eq_true h2]
        refine iteF ?_
        refine ⟨_, rfl, b1, w', L.way, rfl, hw, wb, fun hW H1 s1 => ?_, fun hW H1 s1 => q2 (fun r => hW r.way) H1 s1⟩
        have s1 : Same H H1 := s1
        refine ⟨_, rfl, t.KINDS, _, rfl, .inr (T.dKINDS.sq _), rfl, rfl, _, rfl, ?_⟩
        have hk := inV_str (k := L.kind) (l := kds)
        by_cases h3 : L.kind ∈ kds
        · have e : inV (.str L.kind) [V.str "news", V.str "part", V.str "had", V.str "ask", V.str "answer"] = true := hk.mpr h3
          rw [e]
          refine iteF ?_
          refine ⟨_, rfl, b2, a, L.ab, 4, rfl, ha.same s1, ab, by decide, by decide, fun hA => ?_, fun hA => q2 (fun r => hA r.ab) H1 s1⟩
          refine ⟨_, rfl, b3, d, L.bd, 56, rfl, hd.same s1, db, by decide, by decide, fun hB => ?_, fun hB => q2 (fun r => hB r.bd) H1 s1⟩
          refine ⟨_, rfl, _, rfl, b1, w', _, rfl, hw.same s1, fun w2 H2 s2 t2 => ?_⟩
          refine ⟨_, rfl, _, rfl, b2, a, _, rfl, (ha.same s1).same s2, fun a2 H3 s3 t3 => ?_⟩
          refine ⟨_, rfl, b3, d, _, rfl, ((hd.same s1).same s2).same s3, fun d2 H4 s4 t4 => ?_⟩
          refine ⟨by show 5 ≤ sizeLine; decide, fun r hr' => ?_⟩
          have s5 : Same H4 (upd H4 r (.tup [.int L.c, .ref w2, .str L.kind, .ref a2, .ref d2])) := (Same.refl _).new hr'
          exact q1 ⟨⟨h1, h2⟩, hW, h3, hA, hB⟩ r _ ((((s1.trans s2).trans s3).trans s4).trans s5) ⟨w2, a2, d2, SqT.of upd_same, s5.tup (s4.tup (s3.tup t2)), s5.tup (s4.tup t3), s5.tup t4⟩
        · have e : inV (.str L.kind) [V.str "news", V.str "part", V.str "had", V.str "ask", V.str "answer"] = false := by
            cases z : inV (.str L.kind) [V.str "news", V.str "part", V.str "had", V.str "ask", V.str "answer"] with
            | false => rfl
            | true => exact absurd (hk.mp z) h3
          rw [e]
          refine iteT ?_
          have l3 : (" is no kind of letter" : Str).length = 21 := by decide +kernel
          have f0 : (Str.empty ++ reprText L.kind).length ≤ 1000 := by rw [strLen_append]; show 0 + _ ≤ 1000; omega
          have f1 : ((Str.empty ++ reprText L.kind) ++ (" is no kind of letter" : Str)).length ≤ 1021 := by rw [strLen_append]; omega
          refine ⟨_, rfl, _, rfl, by omega, _, rfl, by omega, _, rfl, by omega, by omega, ?_⟩
          exact ⟨by show 1 ≤ sizeLine; decide, q2 (fun r => h3 r.kind) H1 s1⟩
      · rw [decide_eq_false h2]
        refine iteT ?_
        refine ⟨_, rfl, by omega, 900000, rfl, log_lt (n := 1000) (by decide) (by decide) (by decide), _, rfl, by omega, _, rfl, by omega, _, rfl, L.c, rfl, log_lt cb (by decide) (by decide), _, rfl, by omega, by omega, ?_⟩
        exact ⟨by show 1 ≤ sizeLine; decide, bad fun z => h2 z.2⟩
    · refine iteN h1 ?_
      refine ⟨_, rfl, iteT ?_⟩
      refine ⟨_, rfl, by omega, 900000, rfl, log_lt (n := 1000) (by decide) (by decide) (by decide), _, rfl, by omega, _, rfl, by omega, _, rfl, L.c, rfl, log_lt cb (by decide) (by decide), _, rfl, by omega, by omega, ?_⟩
      exact ⟨by show 1 ≤ sizeLine; decide, bad fun z => h1 z.1⟩
end
end K43
namespace K43
open PySem L2 PyProof.Rows
section
variable {P : Program} {w : World} {K : PySem.W.Frag} {mg : Str → Option Value} {base : Heap} {t : Ad}
theorem at_int {ns : List Int} {k : Int} {i : Nat} (h : i < ns.length) (hk : k = (i : Nat)) : atI (ns.map V.int) k = some (.int (ns.getD i 0)) := by
  rw [hk]
  have : (ns.map V.int)[i]? = some (.int (ns.getD i 0)) := by rw [List.getElem?_map, List.getElem?_eq_getElem h, List.getD_eq_getElem?_getD, List.getElem?_eq_getElem h]; rfl
  exact atI_nat this
theorem at_ref {as : List Addr} {k : Int} {i : Nat} {a : Addr} (h : as[i]? = some a) (hk : k = (i : Nat)) : atI (as.map V.ref) k = some (.ref a) := by
  rw [hk]
  exact atI_nat (by rw [List.getElem?_map, h]; rfl)
theorem getD_mem {ns : List Int} {i : Nat} (h : i < ns.length) : ns.getD i 0 ∈ ns := by
  rw [List.getD_eq_getElem?_getD, List.getElem?_eq_getElem h]; exact List.getElem_mem h
/-! _law_way, _law_parts -/
theorem pigeon : ∀ (r fs : List Int), fs.Nodup → (∀ x ∈ fs, x ∈ r) → fs.length ≤ r.length
  | [], fs, _, h => by
    cases fs with
    | nil => exact Nat.le_refl _
    | cons a b => exact absurd (h a List.mem_cons_self) List.not_mem_nil
  | a :: r, fs, nd, h => by
    have ih := pigeon r (fs.erase a) (nd.erase a) fun x hx => by
      have hx' := (nd.mem_erase_iff).mp hx
      exact (List.mem_cons.mp (h x hx'.2)).resolve_left hx'.1
    rw [List.length_cons]
    by_cases ha : a ∈ fs
    · rw [List.length_erase_of_mem ha] at ih; omega
    · rw [List.erase_of_not_mem ha] at ih; omega
theorem free_house {r : List Int} {h : Int} (hl : r.length ≤ 20) : ∃ m : Nat, (h + m) % 32 ∉ r := by
  apply Classical.byContradiction
  intro z
  have q : ∀ m : Nat, (h + m) % 32 ∈ r := fun m => Classical.byContradiction fun n => z ⟨m, n⟩
  have p := pigeon r ((List.range 32).map fun m : Nat => (h + m) % 32) ?_ fun x hx => by
    obtain ⟨m, _, rfl⟩ := List.mem_map.mp hx
    exact q m
  · rw [List.length_map, List.length_range] at p; omega
  · unfold List.Nodup
    rw [List.pairwise_map]
    refine List.Pairwise.imp_of_mem ?_ (List.nodup_range (n := 32))
    intro a b ha hb hne e
    have ha := List.mem_range.mp ha
    have hb := List.mem_range.mp hb
    omega
def sp__law_way (K : PySem.W.Frag) : Sp := fun vs H Q _ => ∃ (l : Addr) (ns : List Int) (m : Nat), vs = [.ref l, .int m] ∧ SqL K H l (ns.map V.int) ∧ m ≤ 6 ∧ m ≤ ns.length ∧
  ∀ (p : Addr) (H' : Hp) (r : List Int), H p = none → Same H H' → H' p = some (.lst (r.map V.int)) → r.length = m → (∀ n ∈ r, Hse n) → r.Nodup → Q (.ref p) H'
theorem sc__law_way : FnScope ["numbers", "many", "way", "k", "house"] ["numbers", "many"] (defScope s__law_way) := ⟨rfl, rfl, rfl, by decide +kernel, rfl, by decide +kernel, by decide +kernel⟩
theorem ok__law_way (F : Site K mg "_law_way" s__law_way) (T : Txt K mg t) : Def P w K mg base 1 "_law_way" ["numbers", "many"] (sp__law_way K) := by
  refine F.def sc__law_way (fun _ _ _ _ _ _ us hl => match us, hl with | [_, _], _ => rfl) (fun vs H Q E h => ?_) (fun f cdv A outer s H vs Q E hr h => ?_)
  · obtain ⟨l, ns, m, rfl, _⟩ := h
    rfl
  · obtain ⟨l, ns, m, rfl, hl, m6, mn, q⟩ := h
    refine ⟨_, pss_cons (ps_set (i := 2) sc__law_way.nd rfl (Or.inl rfl) (pe_lst pa_nil))
      (pss_cons (PS.nox (ps_for PassesOwn.never rfl (pi_range1 (by rfl) T.n_range (pa_cons (pv 1) pa_nil)) (pg_name (i := 3) sc__law_way.nd rfl (Or.inl rfl))
        (pss_cons (ps_set (i := 4) sc__law_way.nd rfl (Or.inl rfl) (pe_op op_mod (pe_ix (ix_listK K) (pv 0) (pv 3) (fun _ _ => rfl)) pe_int))
        (pss_cons (ps_while PassesOwn.never (pt_cmpR op_in_seq (pv 4) (pv 2) (by rfl))
          (pss_one (ps_set (i := 4) sc__law_way.nd rfl (Or.inl rfl) (pe_op op_mod (pe_op op_add (pv 4) pe_int) pe_int))))
        (pss_one (ps_expr (pe_bmK K PySem.F.plainAttrs_list PySem.F.slot_list_append PySem.F.type_list_append mt_append (pv 2) (pa_cons (pv 4) pa_nil))))))))
      (pss_one (ps_ret (pv 2)))), ?_⟩
    have hsz : (2000 : Nat) ≤ sizeLine := by decide
    refine ⟨by show 0 ≤ sizeLine; decide, fun p hp => ?_⟩
    refine ⟨_, rfl, (m : Int), rfl, by omega, by omega, for_range (lo := 0) (n := m) (fun i σ H' => ∃ (x y : Option V) (r : List Int), σ = [some (.ref l), some (.int m), some (.ref p), x, y] ∧ Same H H' ∧ H' p = some (.lst (r.map V.int)) ∧ r.length = i ∧ (∀ n ∈ r, Hse n) ∧ r.Nodup)
      ⟨none, none, [], rfl, (Same.refl _).new hp, upd_same, rfl, fun n hn => by simp at hn, by simp⟩ ?_ ?_⟩
    · rintro i σ H' hi ⟨x, y, r, rfl, s1, h1, hr1, hh, nd⟩
      refine ⟨_, rfl, _, rfl, l, _, _, _, rfl, rfl, s1.seq hl, at_int (i := i) (by omega) (by omega), _, _, rfl, rfl, (by show (0 : Int) < 32; decide), ?_⟩
      refine ⟨fun k σ H2 => ∃ h : Int, σ = [some (.ref l), some (.int m), some (.ref p), some (.int (0 + (i : Nat))), some (.int h)] ∧ Hse h ∧ (h + k) % 32 ∉ r ∧ H2 = H', ?_, ?_⟩
      · obtain ⟨k, hk⟩ := free_house (r := r) (h := ns.getD i 0 % 32) (by omega)
        exact ⟨k, _, rfl, ⟨Int.emod_nonneg _ (by decide), Int.emod_lt_of_pos _ (by decide)⟩, hk, rfl⟩
      · rintro k σ H2 ⟨h, rfl, h1h, hk, rfl⟩
        refine ⟨_, rfl, _, rfl, p, _, rfl, .inl (SqL.of h1), rfl, flat_ints r, _, rfl, ?_⟩
        have hv := inV_int (k := h) (l := r)
        cases e : inV (.int h) (r.map V.int) with
        | true =>
          refine iteT ?_
          have hin := hv.mp e
          have k1 : 1 ≤ k := by
            apply Classical.byContradiction
            intro z
            obtain rfl : k = 0 := by omega
            refine hk ?_
            have := h1h.1; have := h1h.2
            rw [show (h + ((0 : Nat) : Int)) % 32 = h by omega]
            exact hin
          refine ⟨fun σ H3 => ∃ h : Int, σ = [some (.ref l), some (.int m), some (.ref p), some (.int (0 + (i : Nat))), some (.int h)] ∧ Hse h ∧ (h + ((k - 1 : Nat) : Int)) % 32 ∉ r ∧ H3 = H2, fun σ' H3 ⟨h', a1, a2, a3, a4⟩ => ⟨k - 1, by omega, h', a1, a2, a3, a4⟩, ?_⟩
          refine ⟨_, rfl, _, _, rfl, rfl, _, _, rfl, rfl, (by show (0 : Int) < 32; decide), ?_⟩
          refine ⟨_, rfl, ⟨Int.emod_nonneg _ (by decide), Int.emod_lt_of_pos _ (by decide)⟩, ?_, rfl⟩
          rw [show ((h + 1) % 32 + ((k - 1 : Nat) : Int)) % 32 = (h + k) % 32 by omega]
          exact hk
        | false =>
          refine iteF ?_
          have hnin : h ∉ r := fun z => by rw [hv.mpr z] at e; cases e
          refine ⟨_, rfl, .inl ⟨rfl, _, SqL.of h1⟩, _, rfl, p, _, _, rfl, rfl, h1, by rw [List.length_map]; omega, ?_⟩
          refine ⟨_, _, r ++ [h], rfl, s1.put hp, by rw [upd_same, List.map_append]; rfl, by rw [List.length_append, hr1]; rfl, fun n hn => ?_, ?_⟩
          · rcases List.mem_append.mp hn with hn | hn
            · exact hh n hn
            · rw [List.mem_singleton.mp hn]; exact h1h
          · rw [List.nodup_append]
            exact ⟨nd, by simp, fun a ha b hb z => hnin (by rw [← List.mem_singleton.mp hb, ← z]; exact ha)⟩
    · rintro σ H' ⟨x, y, r, rfl, s1, h1, hr1, hh, nd⟩
      refine ⟨_, rfl, ?_⟩
      exact q p H' r hp s1 h1 hr1 hh nd

/-! _law_parts -/
def sp__law_parts (K : PySem.W.Frag) : Sp := fun vs H Q _ => ∃ (l : Addr) (ns : List Int), vs = [.ref l] ∧ SqL K H l (ns.map V.int) ∧ ns.length = 73 ∧ (∀ n ∈ ns, Sgn n) ∧
  ∀ (p w a d : Addr) (L : Ltr) (H' : Hp), LtOk L → H p = none → H w = none → H a = none → H d = none → [p, w, a, d].Nodup → Same H H' → H' p = some (.lst [.int L.c, .ref w, .str L.kind, .ref a, .ref d]) → H' w = some (.lst (L.way.map V.int)) → H' a = some (.lst (L.ab.map V.int)) → H' d = some (.lst (L.bd.map V.int)) → Q (.ref p) H'
theorem kind_at {l : List V} {c : Int} {z : Nat} (h : l = kds.map V.str) (hz : z = 5) : ∃ k ∈ kds, atI l (c % (z : Nat)) = some (.str k) := by
  subst h hz
  have h0 := Int.emod_nonneg c (b := 5) (by decide)
  have h1 := Int.emod_lt_of_pos c (b := 5) (by decide)
  have e : c % ((5 : Nat) : Int) = ((c % 5).toNat : Nat) := by show c % 5 = _; omega
  rw [e]
  have hlt : (c % 5).toNat < kds.length := by show _ < 5; omega
  exact ⟨kds[(c % 5).toNat], List.getElem_mem hlt, atI_nat (by rw [List.getElem?_map, List.getElem?_eq_getElem hlt]; rfl)⟩
end
end K43
namespace K43
open PySem L2 PyProof.Rows
section
variable {P : Program} {w : World} {K : PySem.W.Frag} {mg : Str → Option Value} {base : Heap} {t : Ad}
/-- the ways and signs of a letter to be, each a list of its own -/
structure PtAt (H H' : Hp) (w a d : Addr) (way ab bd : List Int) : Prop where
  sm : Same H H'
  fw : H w = none
  fa : H a = none
  fd : H d = none
  wa : w ≠ a
  wd : w ≠ d
  ad : a ≠ d
  w : H' w = some (.lst (way.map V.int))
  a : H' a = some (.lst (ab.map V.int))
  d : H' d = some (.lst (bd.map V.int))
  wo : WayOk way
  ao : SgsOk ab 4
  bo : SgsOk bd 56
theorem PtAt.more {H H' H2 : Hp} {w a d : Addr} {way ab bd : List Int} (h : PtAt H H' w a d way ab bd) (s : Same H' H2) : PtAt H H2 w a d way ab bd :=
  ⟨h.sm.trans s, h.fw, h.fa, h.fd, h.wa, h.wd, h.ad, s _ _ h.w, s _ _ h.a, s _ _ h.d, h.wo, h.ao, h.bo⟩
theorem pt_mk {H H1 H2 H3 : Hp} {w a d : Addr} {way ab bd : List Int} (s1 : Same H H1) (fw : H w = none) (ew : H1 w = some (.lst (way.map V.int))) (s2 : Same H1 H2) (fa : H1 a = none) (ea : H2 a = some (.lst (ab.map V.int))) (s3 : Same H2 H3) (fd : H2 d = none) (ed : H3 d = some (.lst (bd.map V.int)))
    (wo : WayOk way) (ao : SgsOk ab 4) (bo : SgsOk bd 56) : PtAt H H3 w a d way ab bd :=
  ⟨(s1.trans s2).trans s3, fw, s1.free fa, (s1.trans s2).free fd, ne_of_none ew fa, ne_of_none (s2 _ _ ew) fd, ne_of_none ea fd, s3 _ _ (s2 _ _ ew), s3 _ _ ea, ed, wo, ao, bo⟩
theorem cut_sgs {ns : List Int} (hs : ∀ n ∈ ns, Sgn n) {lo hi : Int} (h1 : 0 ≤ lo) (h2 : 0 ≤ hi) {m : Int} (hm : hi - lo ≤ m) (m0 : 0 ≤ m) : ∃ r : List Int, cutV (ns.map V.int) (some lo) (some hi) = r.map V.int ∧ SgsOk r m := by
  refine ⟨(ns.drop lo.toNat).take (hi.toNat - lo.toNat), by rw [cutV_ss h1 h2, ← List.map_drop, ← List.map_take], ?_, fun n hn => hs n (List.mem_of_mem_drop (List.mem_of_mem_take hn))⟩
  rw [List.length_take]
  omega
theorem seg_28 {ns : List Int} (h : ns.length = 73) : ∃ r : List Int, cutV (ns.map V.int) (some 2) (some 8) = r.map V.int ∧ r.length = 6 := by
  refine ⟨(ns.drop 2).take 6, by rw [cutV_ss (by decide) (by decide), List.map_take, List.map_drop]; rfl, ?_⟩
  rw [List.length_take, List.length_drop]; omega
set_option maxHeartbeats 1000000 in
theorem sc__law_parts : FnScope ["numbers", "kind", "count", "way", "about", "body"] ["numbers"] (defScope s__law_parts) := ⟨rfl, rfl, rfl, by decide +kernel, rfl, by decide +kernel, by decide +kernel⟩
set_option maxHeartbeats 4000000 in
theorem ok__law_parts (F : Site K mg "_law_parts" s__law_parts) (T : Txt K mg t) (D__law_way : Def P w K mg base 1 "_law_way" ["numbers", "many"] (sp__law_way K)) : Def P w K mg base 2 "_law_parts" ["numbers"] (sp__law_parts K) := by
  refine F.def sc__law_parts (fun _ _ _ _ _ _ us hl => match us, hl with | [_], _ => rfl) (fun vs H Q E h => ?_) (fun f cdv A outer s H vs Q E hr h => ?_)
  · obtain ⟨l, ns, rfl, _⟩ := h
    rfl
  · obtain ⟨l, ns, rfl, hl, h73, hs, q⟩ := h
    refine ⟨_, pss_cons (ps_set (i := 1) sc__law_parts.nd rfl (Or.inl rfl) (pe_ix (ix_listK K) (pe_lst (pa_cons pe_str (pa_cons pe_str (pa_cons pe_str (pa_cons pe_str (pa_cons pe_str pa_nil)))))) (pe_op op_mod (pe_ix (ix_listK K) (pv 0) pe_int (fun _ _ => rfl)) pe_int) (fun _ _ => rfl)))
      (pss_cons (ps_set (i := 2) sc__law_parts.nd rfl (Or.inl rfl) (pe_op op_mod (pe_op op_add (pe_op op_mul (pe_op op_add (pe_op op_mul (pe_ix (ix_listK K) (pv 0) pe_int (fun _ _ => rfl)) pe_int) (pe_ix (ix_listK K) (pv 0) pe_int (fun _ _ => rfl))) pe_int) (pe_ix (ix_listK K) (pv 0) pe_int (fun _ _ => rfl))) pe_int))
      (pss_cons (ps_set (i := 3) sc__law_parts.nd rfl (Or.inl rfl) (pe_def (D__law_way.mono (by decide)) hr passN (pa_cons (pe_slice (sl_listK K) (pv 0) (po_some pe_int) (po_some pe_int)) (pa_cons (pe_op op_add pe_int (pe_op op_mod (pe_ix (ix_listK K) (pv 0) pe_int (fun _ _ => rfl)) pe_int)) pa_nil))))
      (pss_cons (ps_set (i := 4) sc__law_parts.nd rfl (Or.inl rfl) (pe_slice (sl_listK K) (pv 0) (po_some pe_int) (po_some (pe_op op_add pe_int (pe_op op_mod (pe_ix (ix_listK K) (pv 0) pe_int (fun _ _ => rfl)) pe_int)))))
      (pss_cons (ps_set (i := 5) sc__law_parts.nd rfl (Or.inl rfl) (pe_slice (sl_listK K) (pv 0) (po_some pe_int) (po_some (pe_op op_add pe_int (pe_op op_mod (pe_ix (ix_listK K) (pv 0) pe_int (fun _ _ => rfl)) pe_int)))))
      (pss_cons (ps_cut (ps_if (pt_cmpR op_eq (pe_op op_mod (pe_op op_fdiv (pe_ix (ix_listK K) (pv 0) pe_int (fun _ _ => rfl)) pe_int) pe_int) pe_int (nomark _))
        (pss_cons (ps_set (i := 2) sc__law_parts.nd rfl (Or.inl rfl) (pe_ix (ix_listK K) (pe_lst (pa_cons pe_int (pa_cons pe_int pa_nil))) (pe_op op_mod (pe_ix (ix_listK K) (pv 0) pe_int (fun _ _ => rfl)) pe_int) (fun _ _ => rfl)))
        (pss_cons (ps_set (i := 3) sc__law_parts.nd rfl (Or.inl rfl) (pe_def (D__law_way.mono (by decide)) hr passN (pa_cons (pe_slice (sl_listK K) (pv 0) (po_some pe_int) (po_some pe_int)) (pa_cons pe_int pa_nil))))
        (pss_cons (ps_set (i := 4) sc__law_parts.nd rfl (Or.inl rfl) (pe_slice (sl_listK K) (pv 0) (po_some pe_int) (po_some pe_int)))
        (pss_one (ps_set (i := 5) sc__law_parts.nd rfl (Or.inl rfl) (pe_slice (sl_listK K) (pv 0) (po_some pe_int) (po_some pe_int)))))))
        (pss_nil)))
      (pss_cons (ps_cut (ps_if (pt_cmpR op_eq (pe_op op_mod (pe_op op_fdiv (pe_ix (ix_listK K) (pv 0) pe_int (fun _ _ => rfl)) pe_int) pe_int) pe_int (nomark _))
        (pss_cons (ps_set (i := 4) sc__law_parts.nd rfl (Or.inl rfl) (pe_lst pa_nil))
        (pss_one (ps_set (i := 5) sc__law_parts.nd rfl (Or.inl rfl) (pe_lst pa_nil))))
        (pss_nil)))
      (pss_one (ps_ret (pe_lst (pa_cons (pv 2) (pa_cons (pv 3) (pa_cons (pv 1) (pa_cons (pv 4) (pa_cons (pv 5) pa_nil)))))))))))))), ?_⟩
    have sg : ∀ i, i < 73 → Sgn (ns.getD i 0) := fun i hi => hs _ (getD_mem (by omega))
    have at_ : ∀ {H' : Hp}, Same H H' → SqL K H' l (ns.map V.int) := fun s => s.seq hl
    -- kind
    refine ⟨by show 5 ≤ sizeLine; decide, fun pk hpk => ?_⟩
    have s1 : Same H (upd H pk (.lst [V.str "news", V.str "part", V.str "had", V.str "ask", V.str "answer"])) := (Same.refl _).new hpk
    obtain ⟨k, hk, ek⟩ := kind_at (l := [V.str "news", V.str "part", V.str "had", V.str "ask", V.str "answer"]) (c := ns.getD 0 0) (z := 5) rfl rfl
    refine ⟨_, rfl, l, _, _, _, rfl, rfl, at_ s1, at_int (i := 0) (by omega) rfl, _, _, rfl, rfl, (by show (0 : Int) < 5; decide), pk, _, _, _, rfl, rfl, SqL.of upd_same, ek, ?_⟩
    generalize upd H pk (.lst [V.str "news", V.str "part", V.str "had", V.str "ask", V.str "answer"]) = H1 at s1 ⊢
    -- count
    have n8 := sg 8 (by decide); have n9 := sg 9 (by decide); have n10 := sg 10 (by decide)
    unfold Sgn at n8 n9 n10
    refine ⟨_, rfl, l, _, _, _, rfl, rfl, at_ s1, at_int (i := 8) (by omega) rfl, _, _, rfl, rfl, .inr ⟨by decide, by decide⟩, _, rfl, l, _, _, _, rfl, rfl, at_ s1, at_int (i := 9) (by omega) rfl, _, _, rfl, rfl, _, _, rfl, rfl, .inr ⟨by decide, by decide⟩, _, rfl, l, _, _, _, rfl, rfl, at_ s1, at_int (i := 10) (by omega) rfl, _, _, rfl, rfl, _, _, rfl, rfl, (by show (0 : Int) < 900001; decide), ?_⟩
    have c0 := Int.emod_nonneg ((ns.getD 8 0 * 97 + ns.getD 9 0) * 97 + ns.getD 10 0) (b := 900001) (by decide)
    have c1 := Int.emod_lt_of_pos ((ns.getD 8 0 * 97 + ns.getD 9 0) * 97 + ns.getD 10 0) (b := 900001) (by decide)
    -- way
    obtain ⟨g, eg, gl⟩ := seg_28 h73
    have m0 := Int.emod_nonneg (ns.getD 1 0) (b := 6) (by decide)
    have m1 := Int.emod_lt_of_pos (ns.getD 1 0) (b := 6) (by decide)
    refine ⟨_, rfl, _, rfl, _, rfl, l, _, rfl, at_ s1, fun ps hps => ?_⟩
    rw [eg]
    have s2 := s1.new (o := .lst (g.map V.int)) hps
    refine ⟨_, rfl, l, _, _, _, rfl, rfl, at_ s2, at_int (i := 1) (by omega) rfl, _, _, rfl, rfl, (by show (0 : Int) < 6; decide), _, _, rfl, rfl, ps, g, (1 + ns.getD 1 0 % 6).toNat, by rw [Int.toNat_of_nonneg (by omega)]; rfl, SqL.of upd_same, by omega, by omega, fun pw H3 way hpw s3 ew wl wh wn => ?_⟩
    have wo : WayOk way := ⟨⟨by omega, by omega⟩, wh, wn⟩
    have s3' := s2.trans s3
    have fw : H pw = none := s2.free hpw
    -- about, body
    have a0 := Int.emod_nonneg (ns.getD 11 0) (b := 5) (by decide)
    have a1 := Int.emod_lt_of_pos (ns.getD 11 0) (b := 5) (by decide)
    have b0 := Int.emod_nonneg (ns.getD 12 0) (b := 57) (by decide)
    have b1 := Int.emod_lt_of_pos (ns.getD 12 0) (b := 57) (by decide)
    refine ⟨_, rfl, _, rfl, _, rfl, l, _, _, _, rfl, rfl, at_ s3', at_int (i := 11) (by omega) rfl, _, _, rfl, rfl, (by show (0 : Int) < 5; decide), _, _, rfl, rfl, _, rfl, l, _, rfl, at_ s3', fun pa hpa => ?_⟩
    obtain ⟨ab, eab, oab⟩ := cut_sgs hs (lo := 13) (hi := 13 + ns.getD 11 0 % 5) (by decide) (by omega) (m := 4) (by omega) (by decide)
    rw [eab]
    have s4 : Same H3 (upd H3 pa (.lst (ab.map V.int))) := (Same.refl _).new hpa
    have ea : (upd H3 pa (.lst (ab.map V.int))) pa = some (.lst (ab.map V.int)) := upd_same
    generalize upd H3 pa (.lst (ab.map V.int)) = H4 at s4 ea ⊢
    refine ⟨_, rfl, _, rfl, _, rfl, l, _, _, _, rfl, rfl, at_ (s3'.trans s4), at_int (i := 12) (by omega) rfl, _, _, rfl, rfl, (by show (0 : Int) < 57; decide), _, _, rfl, rfl, _, rfl, l, _, rfl, at_ (s3'.trans s4), fun pd hpd => ?_⟩
    obtain ⟨bd, ebd, obd⟩ := cut_sgs hs (lo := 17) (hi := 17 + ns.getD 12 0 % 57) (by decide) (by omega) (m := 56) (by omega) (by decide)
    rw [ebd]
    have s5 : Same H4 (upd H4 pd (.lst (bd.map V.int))) := (Same.refl _).new hpd
    have P5 : PtAt H (upd H4 pd (.lst (bd.map V.int))) pw pa pd way ab bd := pt_mk s3' fw ew s4 hpa ea s5 hpd upd_same wo oab obd
    generalize upd H4 pd (.lst (bd.map V.int)) = H5 at P5 ⊢
    -- the greatest
    let I : L2.St → Hp → Prop := fun σ H' => ∃ (c : Int) (w a d : Addr) (way ab bd : List Int), σ = [some (.ref l), some (.str k), some (.int c), some (.ref w), some (.ref a), some (.ref d)] ∧ 0 ≤ c ∧ c ≤ 900000 ∧ PtAt H H' w a d way ab bd
    refine ⟨I, ?_, ?_⟩
    · refine ⟨_, rfl, l, _, _, _, rfl, rfl, at_ P5.sm, at_int (i := 0) (by omega) rfl, _, _, rfl, rfl, ⟨by decide, by decide⟩, _, _, rfl, rfl, (by show (0 : Int) < 8; decide), rfl, _, rfl, ?_⟩
      by_cases hz : ns.getD 0 0 / 5 % 8 = 1
      · refine iteY (show V.int (ns.getD 0 0 / 5 % 8) = V.int 1 by rw [hz]) ?_
        refine ⟨by show 2 ≤ sizeLine; decide, fun pc hpc => ?_⟩
        have s6 : Same H5 (upd H5 pc (.lst [.int 0, .int 900000])) := (Same.refl _).new hpc
        obtain ⟨cc, ec, hc0, hc1⟩ : ∃ cc, atI [V.int 0, V.int 900000] (ns.getD 8 0 % 2) = some (V.int cc) ∧ 0 ≤ cc ∧ cc ≤ 900000 := by
          have e : ns.getD 8 0 % 2 = 0 ∨ ns.getD 8 0 % 2 = 1 := by omega
          rcases e with e | e <;> rw [e]
          · exact ⟨0, rfl, by decide, by decide⟩
          · exact ⟨900000, rfl, by decide, by decide⟩
        have S6 := P5.sm.trans s6
        refine ⟨_, rfl, l, _, _, _, rfl, rfl, at_ S6, at_int (i := 8) (by omega) rfl, _, _, rfl, rfl, (by show (0 : Int) < 2; decide), pc, _, _, _, rfl, rfl, SqL.of upd_same, ec, ?_⟩
        generalize upd H5 pc (.lst [.int 0, .int 900000]) = H6 at s6 S6 ⊢
        refine ⟨_, rfl, _, rfl, _, rfl, l, _, rfl, at_ S6, fun ps2 hps2 => ?_⟩
        rw [eg]
        have S7 := S6.new (o := .lst (g.map V.int)) hps2
        refine ⟨ps2, g, 6, rfl, SqL.of upd_same, by decide, by omega, fun pw2 H8 way2 hpw2 s8 ew2 wl2 wh2 wn2 => ?_⟩
        have S8 := S7.trans s8
        refine ⟨_, rfl, _, rfl, _, rfl, l, _, rfl, at_ S8, fun pa2 hpa2 => ?_⟩
        obtain ⟨ab2, eab2, oab2⟩ := cut_sgs hs (lo := 13) (hi := 17) (by decide) (by decide) (m := 4) (by decide) (by decide)
        rw [eab2]
        have s9 : Same H8 (upd H8 pa2 (.lst (ab2.map V.int))) := (Same.refl _).new hpa2
        have ea2 : (upd H8 pa2 (.lst (ab2.map V.int))) pa2 = some (.lst (ab2.map V.int)) := upd_same
        generalize upd H8 pa2 (.lst (ab2.map V.int)) = H9 at s9 ea2 ⊢
        refine ⟨_, rfl, _, rfl, _, rfl, l, _, rfl, at_ (S8.trans s9), fun pd2 hpd2 => ?_⟩
        obtain ⟨bd2, ebd2, obd2⟩ := cut_sgs hs (lo := 17) (hi := 73) (by decide) (by decide) (m := 56) (by decide) (by decide)
        rw [ebd2]
        have s10 : Same H9 (upd H9 pd2 (.lst (bd2.map V.int))) := (Same.refl _).new hpd2
        exact ⟨cc, pw2, pa2, pd2, way2, ab2, bd2, rfl, hc0, hc1, pt_mk S8 (S7.free hpw2) ew2 s9 hpa2 ea2 s10 hpd2 upd_same ⟨⟨by omega, by omega⟩, wh2, wn2⟩ oab2 obd2⟩
      · refine iteN (fun z => hz (V.int.inj z)) ?_
        exact ⟨_, pw, pa, pd, way, ab, bd, rfl, c0, by omega, P5⟩
    rintro σ H6 ⟨c, w1, a1, d1, way1, ab1, bd1, rfl, cc0, cc1, P6⟩
    -- nothing about, no body
    refine ⟨I, ?_, ?_⟩
    · refine ⟨_, rfl, l, _, _, _, rfl, rfl, at_ P6.sm, at_int (i := 0) (by omega) rfl, _, _, rfl, rfl, ⟨by decide, by decide⟩, _, _, rfl, rfl, (by show (0 : Int) < 8; decide), rfl, _, rfl, ?_⟩
      by_cases hz : ns.getD 0 0 / 5 % 8 = 2
      · refine iteY (show V.int (ns.getD 0 0 / 5 % 8) = V.int 2 by rw [hz]) ?_
        refine ⟨by show 0 ≤ sizeLine; decide, fun pa2 hpa2 => ?_⟩
        have s7 : Same H6 (upd H6 pa2 (.lst [])) := (Same.refl _).new hpa2
        have e7 : (upd H6 pa2 (.lst [])) pa2 = some (.lst (([] : List Int).map V.int)) := upd_same
        generalize upd H6 pa2 (.lst []) = H7 at s7 e7 ⊢
        refine ⟨by show 0 ≤ sizeLine; decide, fun pd2 hpd2 => ?_⟩
        have s8 : Same H7 (upd H7 pd2 (.lst [])) := (Same.refl _).new hpd2
        exact ⟨c, w1, pa2, pd2, way1, [], [], rfl, cc0, cc1, pt_mk P6.sm P6.fw P6.w s7 hpa2 e7 s8 hpd2 upd_same P6.wo ⟨by decide, fun n hn => by simp at hn⟩ ⟨by decide, fun n hn => by simp at hn⟩⟩
      · refine iteN (fun z => hz (V.int.inj z)) ?_
        exact ⟨c, w1, a1, d1, way1, ab1, bd1, rfl, cc0, cc1, P6⟩
    rintro σ H7 ⟨c2, w2, a2, d2, way2, ab2, bd2, rfl, cc2, cc3, P7⟩
    refine ⟨_, rfl, _, rfl, _, rfl, _, rfl, _, rfl, by show 5 ≤ sizeLine; decide, fun p hp => ?_⟩
    have s8 : Same H7 (upd H7 p (.lst [.int c2, .ref w2, .str k, .ref a2, .ref d2])) := (Same.refl _).new hp
    have P8 := P7.more s8
    refine q p w2 a2 d2 ⟨c2, way2, k, ab2, bd2⟩ _ ⟨⟨cc2, cc3⟩, P7.wo, hk, P7.ao, P7.bo⟩ (P7.sm.free hp) P7.fw P7.fa P7.fd ?_ P8.sm upd_same P8.w P8.a P8.d
    have n1 := ne_of_none P7.w hp
    have n2 := ne_of_none P7.a hp
    have n3 := ne_of_none P7.d hp
    simp only [List.nodup_cons, List.mem_cons, List.not_mem_nil, or_false, not_or, not_false_eq_true, List.nodup_nil, and_true]
    exact ⟨⟨Ne.symm n1, Ne.symm n2, Ne.symm n3⟩, ⟨P7.wa, P7.wd⟩, P7.ad⟩
end
end K43
namespace K43
open PySem L2 PyProof.Rows
section
variable {P : Program} {w : World} {K : PySem.W.Frag} {mg : Str → Option Value} {base : Heap} {t : Ad}
/-! a letter's signs, and the letter of signs -/
def lsg (L : Ltr) : List Int := (My.low 3 L.c).reverse ++ [((kds.idxOf L.kind : Nat) : Int), (L.way.length : Nat), (L.ab.length : Nat)] ++ L.way ++ L.ab ++ L.bd
def nAt (ns : List Int) (i : Nat) : Nat := (ns.getD i 0).toNat
def dec (ns : List Int) : Ltr := ⟨My.told (ns.take 3), (ns.drop 6).take (nAt ns 4), kds.getD (nAt ns 3) "", (ns.drop (6 + nAt ns 4)).take (nAt ns 5), ns.drop (6 + nAt ns 4 + nAt ns 5)⟩
structure HdOk (ns : List Int) : Prop where
  sg : SgsOk ns 72
  l6 : 6 ≤ ns.length
  k5 : ns.getD 3 0 < 5
  lb : 6 + nAt ns 4 + nAt ns 5 ≤ ns.length
def IsLt (ns : List Int) : Prop := HdOk ns ∧ LtOk (dec ns)
theorem kds_idx : ∀ k ∈ kds, kds.getD (kds.idxOf k) "" = k ∧ kds.idxOf k < 5 := by decide +kernel
theorem idx_kds : ∀ i < 5, kds.idxOf (kds.getD i "") = i ∧ kds.getD i "" ∈ kds := by decide +kernel
theorem low3 (c : Int) : (My.low 3 c).reverse = [c / 97 / 97 % 97, c / 97 % 97, c % 97] := rfl
theorem told3 (a b c : Int) : My.told [a, b, c] = ((0 * 97 + a) * 97 + b) * 97 + c := rfl
theorem six_of {ns : List Int} (h : 6 ≤ ns.length) : ∃ a b c d e f tl, ns = a :: b :: c :: d :: e :: f :: tl := by
  match ns, h with
  | a :: b :: c :: d :: e :: f :: tl, _ => exact ⟨a, b, c, d, e, f, tl, rfl⟩
theorem lsg_len (L : Ltr) : (lsg L).length = 6 + L.way.length + L.ab.length + L.bd.length := by
  unfold lsg
  rw [List.length_append, List.length_append, List.length_append, List.length_append, low3]
  rfl
theorem lsg_sgn {L : Ltr} (ok : LtOk L) : ∀ n ∈ lsg L, Sgn n := by
  intro n hn
  have hw := ok.way.1.2
  have ha := ok.ab.1
  have hi := (kds_idx _ ok.kind).2
  unfold lsg at hn
  rcases List.mem_append.mp hn with hn | hn
  · rcases List.mem_append.mp hn with hn | hn
    · rcases List.mem_append.mp hn with hn | hn
      · rw [low3] at hn
        unfold Sgn
        simp only [List.mem_append, List.mem_cons, List.not_mem_nil, or_false] at hn
        rcases hn with (rfl | rfl | rfl) | rfl | rfl | rfl <;> omega
      · have := ok.way.2.1 n hn
        unfold Hse at this; unfold Sgn; omega
    · exact ok.ab.2 n hn
  · exact ok.bd.2 n hn
theorem lsg_hd {L : Ltr} (ok : LtOk L) : HdOk (lsg L) ∧ dec (lsg L) = L := by
  have hc := ok.c
  have hw := ok.way.1.2
  have ha := ok.ab.1
  have hb := ok.bd.1
  obtain ⟨hk, hi⟩ := kds_idx _ ok.kind
  have e : lsg L = (L.c / 97 / 97 % 97) :: (L.c / 97 % 97) :: (L.c % 97) :: ((kds.idxOf L.kind : Nat) : Int) :: ((L.way.length : Nat) : Int) :: ((L.ab.length : Nat) : Int) :: (L.way ++ L.ab ++ L.bd) := by
    unfold lsg
    rw [low3, List.append_assoc, List.append_assoc, ← List.append_assoc L.way]
    rfl
  have n4 : nAt (lsg L) 4 = L.way.length := by rw [e]; rfl
  have n5 : nAt (lsg L) 5 = L.ab.length := by rw [e]; rfl
  refine ⟨⟨⟨by rw [lsg_len]; omega, lsg_sgn ok⟩, by rw [lsg_len]; omega, by rw [e]; show ((kds.idxOf L.kind : Nat) : Int) < 5; omega, by rw [n4, n5, lsg_len]; omega⟩, ?_⟩
  unfold dec
  rw [n4, n5, e]
  have t3 : My.told [L.c / 97 / 97 % 97, L.c / 97 % 97, L.c % 97] = L.c := by rw [told3]; omega
  have d1 : (L.c / 97 / 97 % 97 :: L.c / 97 % 97 :: L.c % 97 :: ((kds.idxOf L.kind : Nat) : Int) :: ((L.way.length : Nat) : Int) :: ((L.ab.length : Nat) : Int) :: (L.way ++ L.ab ++ L.bd)).drop (6 + L.way.length) = L.ab ++ L.bd := by
    rw [Nat.add_comm 6]
    show (L.way ++ L.ab ++ L.bd).drop L.way.length = _
    rw [List.append_assoc, List.drop_left]
  have d2 : (L.c / 97 / 97 % 97 :: L.c / 97 % 97 :: L.c % 97 :: ((kds.idxOf L.kind : Nat) : Int) :: ((L.way.length : Nat) : Int) :: ((L.ab.length : Nat) : Int) :: (L.way ++ L.ab ++ L.bd)).drop (6 + L.way.length + L.ab.length) = L.bd := by
    rw [← List.drop_drop, d1, List.drop_left]
  rw [d1, d2]
  show (⟨My.told [L.c / 97 / 97 % 97, L.c / 97 % 97, L.c % 97], (L.way ++ L.ab ++ L.bd).take L.way.length, kds.getD (kds.idxOf L.kind) "", (L.ab ++ L.bd).take L.ab.length, L.bd⟩ : Ltr) = L
  rw [t3, hk, List.append_assoc, List.take_left, List.take_left]
theorem map_int_inj : ∀ {a b : List Int}, a.map PyData.int = b.map PyData.int → a = b
  | [], [], _ => rfl
  | [], _ :: _, e => by cases e
  | _ :: _, [], e => by cases e
  | x :: a, y :: b, e => by
    rw [List.map_cons, List.map_cons] at e
    injection e with e1 e2
    injection e1 with e1
    rw [e1, map_int_inj e2]
theorem plain_ints : ∀ (l : List Int), plainDs (l.map .int) = true
  | [] => rfl
  | _ :: l => by show (true && plainDs (l.map .int)) = true; rw [plain_ints l]; rfl
end
end K43
namespace K43
open PySem L2 PyProof.Rows
section
variable {P : Program} {w : World} {K : PySem.W.Frag} {mg : Str → Option Value} {base : Heap} {t : Ad}
/-! letter_signs -/
def sp_letter_signs (K : PySem.W.Frag) : Sp := fun vs H Q _ => ∃ (r : Addr) (L : Ltr), vs = [.ref r] ∧ LtAt K H r L ∧ LtOk L ∧ ∀ (p : Addr) (H' : Hp), H p = none → Same H H' → H' p = some (.lst ((lsg L).map V.int)) → Q (.ref p) H'
theorem kinds_at {L : Ltr} (h : L.kind ∈ kds) : (∃ z, (kds.map V.str)[kds.idxOf L.kind]? = some z ∧ eqV z (.str L.kind) = true) ∧ ∀ (i : Nat) (z : V), i < kds.idxOf L.kind → (kds.map V.str)[i]? = some z → eqV z (.str L.kind) = false := by
  have hlt : kds.idxOf L.kind < kds.length := List.idxOf_lt_length_iff.mpr h
  refine ⟨⟨.str kds[kds.idxOf L.kind], by rw [List.getElem?_map, List.getElem?_eq_getElem hlt]; rfl, ?_⟩, fun i z hi hz => ?_⟩
  · show (kds[kds.idxOf L.kind] == L.kind) = true
    rw [List.getElem_idxOf hlt]; simp
  · rw [List.getElem?_map, List.getElem?_eq_getElem (by omega)] at hz
    cases hz
    exact List.not_of_lt_findIdx (p := (· == L.kind)) hi
theorem sc_letter_signs : FnScope ["letter", "way", "about", "head"] ["letter"] (defScope s_letter_signs) := ⟨rfl, rfl, rfl, by decide +kernel, rfl, by decide +kernel, by decide +kernel⟩
theorem ok_letter_signs (F : Site K mg "letter_signs" s_letter_signs) (T : Txt K mg t) (D_number_signs : Def P w K mg base 1 "number_signs" ["number", "many"] (sp_number_signs t.BadSign)) : Def P w K mg base 2 "letter_signs" ["letter"] (sp_letter_signs K) := by
  refine F.def sc_letter_signs (fun _ _ _ _ _ _ us hl => match us, hl with | [_], _ => rfl) (fun vs H Q E h => ?_) (fun f cdv A outer s H vs Q E hr h => ?_)
  · obtain ⟨r, L, rfl, _⟩ := h
    rfl
  · obtain ⟨r, L, rfl, hL, ok, q⟩ := h
    refine ⟨_, pss_cons (ps_set (i := 1) sc_letter_signs.nd rfl (Or.inl rfl) (pe_callTy (call_listK K) (by rfl) T.n_list boot_list (pa_cons (pe_ix (ix_tupK K) (pv 0) pe_int (fun _ _ => rfl)) pa_nil)))
      (pss_cons (ps_set (i := 2) sc_letter_signs.nd rfl (Or.inl rfl) (pe_callTy (call_listK K) (by rfl) T.n_list boot_list (pa_cons (pe_ix (ix_tupK K) (pv 0) pe_int (fun _ _ => rfl)) pa_nil)))
      (pss_cons (ps_set (i := 3) sc_letter_signs.nd rfl (Or.inl rfl) (pe_op (op_catK K) (pe_def (D_number_signs.mono (by decide)) hr passN (pa_cons (pe_ix (ix_tupK K) (pv 0) pe_int (fun _ _ => rfl)) (pa_cons (pe_gint T.cCOUNT_SIGNS) pa_nil))) (pe_lst (pa_cons (pe_bmK K PySem.F.plainAttrs_tuple PySem.F.slot_tuple_index PySem.F.type_tuple_index (mt_indexT K) (pe_glob (v := .ref t.KINDS) (by rfl) T.mKINDS rfl) (pa_cons (pe_ix (ix_tupK K) (pv 0) pe_int (fun _ _ => rfl)) pa_nil)) (pa_cons (pe_callB (call_lenK K) (by rfl) T.n_len boot_len (pa_cons (pv 1) pa_nil)) (pa_cons (pe_callB (call_lenK K) (by rfl) T.n_len boot_len (pa_cons (pv 2) pa_nil)) pa_nil))))))
      (pss_one (ps_ret (pe_op (op_catK K) (pe_op (op_catK K) (pe_op (op_catK K) (pv 3) (pv 1)) (pv 2)) (pe_callTy (call_listK K) (by rfl) T.n_list boot_list (pa_cons (pe_ix (ix_tupK K) (pv 0) pe_int (fun _ _ => rfl)) pa_nil))))))), ?_⟩
    obtain ⟨w', a', b', z1, z2, z3, z4⟩ := hL
    have hsz : (2000 : Nat) ≤ sizeLine := by decide
    have wl := ok.way.1.2
    have al := ok.ab.1
    have bl := ok.bd.1
    have c0 := ok.c.1
    have c1 := ok.c.2
    refine ⟨_, rfl, r, _, _, _, rfl, rfl, z1, rfl, w', _, rfl, .inr z2, fun p1 hp1 => ?_⟩
    have s1 : Same H (upd H p1 (.lst (L.way.map V.int))) := (Same.refl _).new hp1
    have e1 : (upd H p1 (.lst (L.way.map V.int))) p1 = some (.lst (L.way.map V.int)) := upd_same
    generalize upd H p1 (.lst (L.way.map V.int)) = H1 at s1 e1 ⊢
    refine ⟨_, rfl, r, _, _, _, rfl, rfl, s1.tup z1, rfl, a', _, rfl, .inr (s1.tup z3), fun p2 hp2 => ?_⟩
    have s2 := s1.new (o := .lst (L.ab.map V.int)) hp2
    have e2 : (upd H1 p2 (.lst (L.ab.map V.int))) p2 = some (.lst (L.ab.map V.int)) := upd_same
    have e1' := (Same.refl H1).new (o := .lst (L.ab.map V.int)) hp2 _ _ e1
    generalize upd H1 p2 (.lst (L.ab.map V.int)) = H2 at s2 e2 e1' ⊢
    refine ⟨_, rfl, r, _, _, _, rfl, rfl, s2.tup z1, rfl, L.c, 3, rfl, far_abs (by omega) (by omega), by decide, by decide, fun _ _ p3 H3 hp3 s3 e3 => ?_, fun z => ?_⟩
    · have S3 := s2.trans s3
      have kk := kinds_at ok.kind
      refine ⟨.inr (.inl ⟨rfl, T.nKINDS⟩), _, rfl, r, _, _, _, rfl, rfl, S3.tup z1, rfl, t.KINDS, _, _, kds.idxOf L.kind, rfl, rfl, T.dKINDS.sq _, rfl, rfl, kk.1, kk.2, ?_⟩
      have e1s := s3 _ _ e1'
      have e2s := s3 _ _ e2
      refine ⟨_, rfl, p1, _, rfl, .inl (SqL.of e1s), _, rfl, p2, _, rfl, .inl (SqL.of e2s), by show 3 ≤ sizeLine; decide, fun p4 hp4 => ?_⟩
      rw [List.length_map, List.length_map]
      have S4 := S3.new (o := .lst [.int ((kds.idxOf L.kind : Nat) : Int), .int (L.way.length : Nat), .int (L.ab.length : Nat)]) hp4
      have k4 : Same H3 (upd H3 p4 (.lst [.int ((kds.idxOf L.kind : Nat) : Int), .int (L.way.length : Nat), .int (L.ab.length : Nat)])) := (Same.refl _).new hp4
      have e4 : (upd H3 p4 (.lst [.int ((kds.idxOf L.kind : Nat) : Int), .int (L.way.length : Nat), .int (L.ab.length : Nat)])) p4 = some (.lst (([((kds.idxOf L.kind : Nat) : Int), (L.way.length : Nat), (L.ab.length : Nat)] : List Int).map V.int)) := upd_same
      generalize upd H3 p4 (.lst [.int ((kds.idxOf L.kind : Nat) : Int), .int (L.way.length : Nat), .int (L.ab.length : Nat)]) = H4 at S4 k4 e4 ⊢
      have e34 := k4 _ _ e3
      rw [show (3 : Int).toNat = 3 from rfl] at e34
      refine ⟨p3, p4, _, _, rfl, rfl, SqL.of e34, SqL.of e4, by rw [low3]; show 3 + 3 ≤ sizeLine; omega, fun p5 hp5 => ?_⟩
      rw [← List.map_append]
      have k5 : Same H4 (upd H4 p5 (.lst (((My.low 3 L.c).reverse ++ [((kds.idxOf L.kind : Nat) : Int), (L.way.length : Nat), (L.ab.length : Nat)]).map V.int))) := (Same.refl _).new hp5
      have e5 : (upd H4 p5 (.lst (((My.low 3 L.c).reverse ++ [((kds.idxOf L.kind : Nat) : Int), (L.way.length : Nat), (L.ab.length : Nat)]).map V.int))) p5 = some (.lst (((My.low 3 L.c).reverse ++ [((kds.idxOf L.kind : Nat) : Int), (L.way.length : Nat), (L.ab.length : Nat)]).map V.int)) := upd_same
      generalize hg : (My.low 3 L.c).reverse ++ [((kds.idxOf L.kind : Nat) : Int), (L.way.length : Nat), (L.ab.length : Nat)] = g at k5 e5 ⊢
      have gl : g.length = 6 := by rw [← hg, low3]; rfl
      generalize upd H4 p5 (.lst (g.map V.int)) = H5 at k5 e5 ⊢
      have k35 := k4.trans k5
      refine ⟨_, rfl, _, rfl, p5, p1, _, _, rfl, rfl, SqL.of e5, SqL.of (k35 _ _ e1s), by rw [List.length_map, List.length_map]; omega, fun p6 hp6 => ?_⟩
      rw [← List.map_append]
      have k6 : Same H5 (upd H5 p6 (.lst ((g ++ L.way).map V.int))) := (Same.refl _).new hp6
      have e6 : (upd H5 p6 (.lst ((g ++ L.way).map V.int))) p6 = some (.lst ((g ++ L.way).map V.int)) := upd_same
      generalize upd H5 p6 (.lst ((g ++ L.way).map V.int)) = H6 at k6 e6 ⊢
      refine ⟨_, rfl, p6, p2, _, _, rfl, rfl, SqL.of e6, SqL.of ((k35.trans k6) _ _ e2s), by rw [List.length_map, List.length_map, List.length_append]; omega, fun p7 hp7 => ?_⟩
      rw [← List.map_append]
      have k7 : Same H6 (upd H6 p7 (.lst ((g ++ L.way ++ L.ab).map V.int))) := (Same.refl _).new hp7
      have e7 : (upd H6 p7 (.lst ((g ++ L.way ++ L.ab).map V.int))) p7 = some (.lst ((g ++ L.way ++ L.ab).map V.int)) := upd_same
      generalize upd H6 p7 (.lst ((g ++ L.way ++ L.ab).map V.int)) = H7 at k7 e7 ⊢
      have S7 := ((S4.trans k5).trans k6).trans k7
      refine ⟨_, rfl, r, _, _, _, rfl, rfl, S7.tup z1, rfl, b', _, rfl, .inr (S7.tup z4), fun p8 hp8 => ?_⟩
      have k8 : Same H7 (upd H7 p8 (.lst (L.bd.map V.int))) := (Same.refl _).new hp8
      have e8 : (upd H7 p8 (.lst (L.bd.map V.int))) p8 = some (.lst (L.bd.map V.int)) := upd_same
      generalize upd H7 p8 (.lst (L.bd.map V.int)) = H8 at k8 e8 ⊢
      have S8 := S7.trans k8
      refine ⟨p7, p8, _, _, rfl, rfl, SqL.of (k8 _ _ e7), SqL.of e8, by rw [List.length_map, List.length_map, List.length_append, List.length_append]; omega, fun p9 hp9 => ?_⟩
      rw [← List.map_append]
      refine q p9 _ (S8.free hp9) (S8.new hp9) ?_
      rw [upd_same, ← hg]
      rfl
    · exfalso
      have : My.rest 3 L.c = L.c / 97 / 97 / 97 := rfl
      rw [show (3 : Int).toNat = 3 from rfl, this] at z
      omega

/-! letter_of -/
def sp_letter_of (K : PySem.W.Frag) (C : Addr) : Sp := fun vs H Q E => ∃ (l : Addr) (ns : List Int), vs = [.ref l] ∧ SqL K H l (ns.map V.int) ∧ (∀ n ∈ ns, n.natAbs < 2 ^ 1000) ∧
  (IsLt ns → ∀ r H', Same H H' → LtAt K H' r (dec ns) → Q (.ref r) H') ∧ (¬ IsLt ns → ∀ H', Same H H' → E (.ref C) none H')
theorem sc_letter_of : FnScope ["signs", "about_at", "body_at", "count", "kind"] ["signs"] (defScope s_letter_of) := ⟨rfl, rfl, rfl, by decide +kernel, rfl, by decide +kernel, by decide +kernel⟩
theorem ok_letter_of (F : Site K mg "letter_of" s_letter_of) (T : Txt K mg t) (D_look_signs : Def P w K mg base 2 "look_signs" ["signs", "most"] (sp_look_signs K t.BadLetter)) (D_signs_number : Def P w K mg base 3 "signs_number" ["signs"] (sp_signs_number K t.BadSign)) (D_made_letter : Def P w K mg base 3 "made_letter" ["count", "way", "kind", "about", "body"] (sp_made_letter K t.BadLetter)) : Def P w K mg base 4 "letter_of" ["signs"] (sp_letter_of K t.BadLetter) := by
  refine F.def sc_letter_of (fun _ _ _ _ _ _ us hl => match us, hl with | [_], _ => rfl) (fun vs H Q E h => ?_) (fun f cdv A outer s H vs Q E hr h => ?_)
  · obtain ⟨l, ns, rfl, _⟩ := h
    rfl
  · obtain ⟨l, ns, rfl, hl, hb, q1, q2⟩ := h
    refine ⟨_, pss_cons (ps_expr (pe_def (D_look_signs.mono (by decide)) hr (pass1 cx1_body) (pa_cons (pv 0) (pa_cons (pe_gint T.cMOST_SIGNS) pa_nil))))
      (pss_cons (ps_if (PW.pt (pw_or (pt_cmpR op_lt (pe_callB (call_lenK K) (by rfl) T.n_len boot_len (pa_cons (pv 0) pa_nil)) (pe_gint T.cWAY_AT) (nomark _)) (pw_or1 (pt_cmpR op_ge (pe_ix (ix_listK K) (pv 0) (pe_gint T.cKIND_AT) (fun _ _ => rfl)) (pe_callB (call_lenK K) (by rfl) T.n_len boot_len (pa_cons (pe_glob (v := .ref t.KINDS) (by rfl) T.mKINDS rfl) pa_nil)) (nomark _)))))
        (pss_one (ps_raise cx1_body rfl rfl T.mBadLetter T.xBadLetter PySem.F.excBase_ValueError (pa_cons pe_str pa_nil)))
        (pss_nil))
      (pss_cons (ps_set (i := 1) sc_letter_of.nd rfl (Or.inl rfl) (pe_op op_add (pe_gint T.cWAY_AT) (pe_ix (ix_listK K) (pv 0) (pe_gint T.cWAY_LENGTH_AT) (fun _ _ => rfl))))
      (pss_cons (ps_set (i := 2) sc_letter_of.nd rfl (Or.inl rfl) (pe_op op_add (pv 1) (pe_ix (ix_listK K) (pv 0) (pe_gint T.cABOUT_LENGTH_AT) (fun _ _ => rfl))))
      (pss_cons (ps_if (pt_cmpR op_lt (pe_callB (call_lenK K) (by rfl) T.n_len boot_len (pa_cons (pv 0) pa_nil)) (pv 2) (nomark _))
        (pss_one (ps_raise cx1_body rfl rfl T.mBadLetter T.xBadLetter PySem.F.excBase_ValueError (pa_cons pe_str pa_nil)))
        (pss_nil))
      (pss_cons (ps_set (i := 3) sc_letter_of.nd rfl (Or.inl rfl) (pe_def (D_signs_number.mono (by decide)) hr (pass1 cx1_body) (pa_cons (pe_slice (sl_listK K) (pv 0) po_none (po_some (pe_gint T.cCOUNT_SIGNS))) pa_nil)))
      (pss_cons (ps_set (i := 4) sc_letter_of.nd rfl (Or.inl rfl) (pe_ix (ix_tupK K) (pe_glob (v := .ref t.KINDS) (by rfl) T.mKINDS rfl) (pe_ix (ix_listK K) (pv 0) (pe_gint T.cKIND_AT) (fun _ _ => rfl)) (fun _ _ => rfl)))
      (pss_one (ps_ret (pe_def (D_made_letter.mono (by decide)) hr (pass1 cx1_body) (pa_cons (pv 3) (pa_cons (pe_slice (sl_listK K) (pv 0) (po_some (pe_gint T.cWAY_AT)) (po_some (pv 1))) (pa_cons (pv 4) (pa_cons (pe_slice (sl_listK K) (pv 0) (po_some (pv 1)) (po_some (pv 2))) (pa_cons (pe_slice (sl_listK K) (pv 0) (po_some (pv 2)) po_none) pa_nil)))))))))))))), ?_⟩
    have hsz : (2000 : Nat) ≤ sizeLine := by decide
    refine ⟨_, rfl, true, l, ns, 72, rfl, hl, hb, by decide, by decide, fun sg => ?_, fun z => q2 (fun r => z r.1.sg) H (Same.refl _)⟩
    have l72 := sg.1
    refine ⟨_, rfl, l, _, rfl, .inl hl, _, _, rfl, rfl, _, rfl, ?_⟩
    rw [List.length_map]
    by_cases h6 : ((ns.length : Nat) : Int) < 6
    · refine iteY h6 (iteT ?_)
      exact ⟨by show 1 ≤ sizeLine; decide, q2 (fun r => by have := r.1.l6; omega) H (Same.refl _)⟩
    · refine iteN h6 ?_
      refine ⟨_, rfl, l, _, _, _, rfl, rfl, hl, at_int (i := 3) (by omega) rfl, t.KINDS, _, rfl, .inr (T.dKINDS.sq _), _, _, rfl, rfl, _, rfl, ?_⟩
      by_cases h5 : (5 : Int) ≤ ns.getD 3 0
      · refine iteY h5 ?_
        exact ⟨by show 1 ≤ sizeLine; decide, q2 (fun r => by have := r.1.k5; omega) H (Same.refl _)⟩
      · refine iteN h5 ?_
        have s3 := sg.2 _ (getD_mem (i := 3) (by omega))
        have s4 := sg.2 _ (getD_mem (i := 4) (by omega))
        have s5 := sg.2 _ (getD_mem (i := 5) (by omega))
        unfold Sgn at s3 s4 s5
        have n4 : ns.getD 4 0 = (nAt ns 4 : Nat) := by unfold nAt; omega
        have n5 : ns.getD 5 0 = (nAt ns 5 : Nat) := by unfold nAt; omega
        refine ⟨_, rfl, l, _, _, _, rfl, rfl, hl, at_int (i := 4) (by omega) rfl, _, _, rfl, rfl, ?_⟩
        refine ⟨_, rfl, _, rfl, l, _, _, _, rfl, rfl, hl, at_int (i := 5) (by omega) rfl, _, _, rfl, rfl, ?_⟩
        refine ⟨_, rfl, l, _, rfl, .inl hl, _, rfl, _, _, rfl, rfl, _, rfl, ?_⟩
        rw [List.length_map]
        by_cases hbd : ((ns.length : Nat) : Int) < 6 + ns.getD 4 0 + ns.getD 5 0
        · refine iteY hbd ?_
          exact ⟨by show 1 ≤ sizeLine; decide, q2 (fun r => by have := r.1.lb; omega) H (Same.refl _)⟩
        · refine iteN hbd ?_
          have hd : HdOk ns := ⟨sg, by omega, by omega, by omega⟩
          have c3 : cutV (ns.map V.int) none (some 3) = (ns.take 3).map V.int := by rw [cutV_ns (by decide), List.map_take]; rfl
          refine ⟨_, rfl, _, rfl, l, _, rfl, hl, fun p1 hp1 => ?_⟩
          rw [c3]
          have s1 : Same H (upd H p1 (.lst ((ns.take 3).map V.int))) := (Same.refl _).new hp1
          refine ⟨p1, ns.take 3, rfl, SqL.of upd_same, fun n hn => hb n (List.mem_of_mem_take hn), fun _ => ?_, fun n hn z => absurd (sg.2 n (List.mem_of_mem_take hn)) z⟩
          generalize upd H p1 (.lst ((ns.take 3).map V.int)) = H1 at s1 ⊢
          obtain ⟨ik, hk⟩ := idx_kds (nAt ns 3) (by unfold nAt; omega)
          have ek : atI [V.str "news", V.str "part", V.str "had", V.str "ask", V.str "answer"] (ns.getD 3 0) = some (.str (kds.getD (nAt ns 3) "")) := by
            have hlt : nAt ns 3 < kds.length := by show _ < 5; unfold nAt; omega
            rw [show ns.getD 3 0 = ((nAt ns 3 : Nat) : Int) by unfold nAt; omega]
            exact atI_nat (xs := kds.map V.str) (by rw [List.getElem?_map, List.getElem?_eq_getElem hlt, List.getD_eq_getElem?_getD, List.getElem?_eq_getElem hlt]; rfl)
          refine ⟨_, rfl, l, _, _, _, rfl, rfl, s1.seq hl, at_int (i := 3) (by omega) rfl, t.KINDS, _, _, _, rfl, rfl, T.dKINDS.sq _, ek, ?_⟩
          -- the letter's own
          have c6 : cutV (ns.map V.int) (some 6) (some (6 + ns.getD 4 0)) = ((ns.drop 6).take (nAt ns 4)).map V.int := by rw [cutV_ss (by decide) (by omega), List.map_take, List.map_drop, show (6 + ns.getD 4 0).toNat - (6 : Int).toNat = nAt ns 4 by omega]; rfl
          have c7 : cutV (ns.map V.int) (some (6 + ns.getD 4 0)) (some (6 + ns.getD 4 0 + ns.getD 5 0)) = ((ns.drop (6 + nAt ns 4)).take (nAt ns 5)).map V.int := by rw [cutV_ss (by omega) (by omega), List.map_take, List.map_drop, show (6 + ns.getD 4 0 + ns.getD 5 0).toNat - (6 + ns.getD 4 0).toNat = nAt ns 5 by omega, show (6 + ns.getD 4 0).toNat = 6 + nAt ns 4 by omega]
          have c8 : cutV (ns.map V.int) (some (6 + ns.getD 4 0 + ns.getD 5 0)) none = (ns.drop (6 + nAt ns 4 + nAt ns 5)).map V.int := by rw [cutV_sn (by omega), List.map_drop, show (6 + ns.getD 4 0 + ns.getD 5 0).toNat = 6 + nAt ns 4 + nAt ns 5 by omega]
          refine ⟨_, rfl, _, rfl, _, rfl, _, rfl, _, rfl, l, _, rfl, s1.seq hl, fun p2 hp2 => ?_⟩
          rw [c6]
          have s2 := s1.new (o := .lst (((ns.drop 6).take (nAt ns 4)).map V.int)) hp2
          have e2 : (upd H1 p2 (.lst (((ns.drop 6).take (nAt ns 4)).map V.int))) p2 = some (.lst (((ns.drop 6).take (nAt ns 4)).map V.int)) := upd_same
          generalize upd H1 p2 (.lst (((ns.drop 6).take (nAt ns 4)).map V.int)) = H2 at s2 e2 ⊢
          refine ⟨_, rfl, _, rfl, _, rfl, _, rfl, _, rfl, _, rfl, l, _, rfl, s2.seq hl, fun p3 hp3 => ?_⟩
          rw [c7]
          have k3 : Same H2 (upd H2 p3 (.lst (((ns.drop (6 + nAt ns 4)).take (nAt ns 5)).map V.int))) := (Same.refl _).new hp3
          have e3 : (upd H2 p3 (.lst (((ns.drop (6 + nAt ns 4)).take (nAt ns 5)).map V.int))) p3 = some (.lst (((ns.drop (6 + nAt ns 4)).take (nAt ns 5)).map V.int)) := upd_same
          generalize upd H2 p3 (.lst (((ns.drop (6 + nAt ns 4)).take (nAt ns 5)).map V.int)) = H3 at k3 e3 ⊢
          refine ⟨_, rfl, _, rfl, _, rfl, l, _, rfl, (s2.trans k3).seq hl, fun p4 hp4 => ?_⟩
          rw [c8]
          have k4 : Same H3 (upd H3 p4 (.lst ((ns.drop (6 + nAt ns 4 + nAt ns 5)).map V.int))) := (Same.refl _).new hp4
          have e4 : (upd H3 p4 (.lst ((ns.drop (6 + nAt ns 4 + nAt ns 5)).map V.int))) p4 = some (.lst ((ns.drop (6 + nAt ns 4 + nAt ns 5)).map V.int)) := upd_same
          generalize upd H3 p4 (.lst ((ns.drop (6 + nAt ns 4 + nAt ns 5)).map V.int)) = H4 at k4 e4 ⊢
          have S4 := (s2.trans k3).trans k4
          have tb : (dec ns).c.natAbs < 2 ^ 1000 := by
            have h0 := My.told_nonneg (ns.take 3) fun s hs => (sg.2 s (List.mem_of_mem_take hs)).1
            obtain ⟨a, b, c, d, e, f, tl, rfl⟩ := six_of hd.l6
            have := sg.2 a (by simp); have := sg.2 b (by simp); have := sg.2 c (by simp)
            unfold Sgn at *
            show (My.told [a, b, c]).natAbs < 2 ^ 1000
            rw [told3]
            exact far_abs (by omega) (by omega)
          refine ⟨true, true, true, p2, p3, p4, dec ns, rfl, SqL.of (k4 _ _ (k3 _ _ e2)), SqL.of (k4 _ _ e3), SqL.of e4, tb, fun n hn => hb n (List.mem_of_mem_drop (List.mem_of_mem_take hn)), fun n hn => hb n (List.mem_of_mem_drop (List.mem_of_mem_take hn)), fun n hn => hb n (List.mem_of_mem_drop hn), ?_, fun ok r H5 s5 R => q1 ⟨hd, ok⟩ r H5 (S4.trans s5) R, fun no H5 s5 => q2 (fun z => no z.2) H5 (S4.trans s5)⟩
          have : ∀ k ∈ kds, (reprText k).length ≤ 1000 := by decide +kernel
          exact this _ hk
end
end K43
namespace K43
open PySem L2 PyProof.Rows
section
variable {P : Program} {w : World} {K : PySem.W.Frag} {mg : Str → Option Value} {base : Heap} {t : Ad}
/-! look_piece, put -/
def IsPc (ns : List Int) : Prop := (1 ≤ ns.length ∧ ns.length ≤ 10) ∧ ∀ n ∈ ns, Sgn n
def sp_look_piece (K : PySem.W.Frag) (C : Addr) : Sp := fun vs H Q E => ∃ (l : Addr) (ns : List Int), vs = [.ref l] ∧ SqL K H l (ns.map V.int) ∧ (∀ n ∈ ns, n.natAbs < 2 ^ 1000) ∧ (IsPc ns → Q .non H) ∧ (¬ IsPc ns → E (.ref C) none H)
theorem sc_look_piece : FnScope ["piece", "sign"] ["piece"] (defScope s_look_piece) := ⟨rfl, rfl, rfl, by decide +kernel, rfl, by decide +kernel, by decide +kernel⟩
theorem ok_look_piece (F : Site K mg "look_piece" s_look_piece) (T : Txt K mg t) (D_is_sign : Def P w K mg base 1 "is_sign" ["number"] sp_is_sign) : Def P w K mg base 2 "look_piece" ["piece"] (sp_look_piece K t.BadPiece) := by
  refine F.def sc_look_piece (fun _ _ _ _ _ _ us hl => match us, hl with | [_], _ => rfl) (fun vs H Q E h => ?_) (fun f cdv A outer s H vs Q E hr h => ?_)
  · obtain ⟨l, ns, rfl, _⟩ := h
    rfl
  · obtain ⟨l, ns, rfl, hl, hb, q1, q2⟩ := h
    refine ⟨_, pss_cons (ps_if (pt_not (pt_chain op_le op_le pe_int (pe_callB (call_lenK K) (by rfl) T.n_len boot_len (pa_cons (pv 0) pa_nil)) (pe_gint T.cLONGEST_PIECE)))
        (pss_one (ps_raise cx1_body rfl rfl T.mBadPiece T.xBadPiece PySem.F.excBase_ValueError (pa_cons (pe_fstr (pj_cons pe_str (pj_cons (pe_fmtI (pe_gint T.cLONGEST_PIECE)) (pj_cons pe_str pj_nil)))) pa_nil)))
        (pss_nil))
      (pss_one (ps_for (own1 cx1_body) rfl (pi_listK K (pv 0)) (pg_name (i := 1) sc_look_piece.nd rfl (Or.inl rfl))
        (pss_one (ps_if (pt_not (pt_val (pe_def (D_is_sign.mono (by decide)) hr passN (pa_cons (pv 1) pa_nil))))
          (pss_one (ps_raise cx1_body rfl rfl T.mBadPiece T.xBadPiece PySem.F.excBase_ValueError (pa_cons (pe_fstr (pj_cons (pe_fmtI (pv 1)) (pj_cons pe_str pj_nil))) pa_nil)))
          (pss_nil))))), ?_⟩
    have sl : (3000 : Nat) ≤ sizeLine := by decide
    have z10 := txt_len (i := 10) (by decide)
    have l1 : ("a piece has 1 to " : Str).length = 17 := by decide +kernel
    have l2 : (" signs" : Str).length = 6 := by decide +kernel
    have e0 : (Str.empty ++ ("a piece has 1 to " : Str)).length ≤ 17 := by rw [strLen_append, l1]; show 0 + 17 ≤ 17; omega
    have e1 : ((Str.empty ++ ("a piece has 1 to " : Str)) ++ Str.ofString (toString (10 : Int))).length ≤ 1018 := by rw [strLen_append]; omega
    have e2 : (((Str.empty ++ ("a piece has 1 to " : Str)) ++ Str.ofString (toString (10 : Int))) ++ (" signs" : Str)).length ≤ 1024 := by rw [strLen_append]; omega
    refine ⟨_, rfl, l, _, rfl, .inl hl, _, _, rfl, rfl, _, rfl, ?_⟩
    rw [List.length_map]
    by_cases h1 : (1 : Int) ≤ (ns.length : Nat)
    · refine iteY h1 ?_
      refine ⟨_, _, rfl, rfl, _, rfl, ?_⟩
      by_cases h2 : ((ns.length : Nat) : Int) ≤ 10
      · rw [decide_eq_true h2]
        refine iteF ?_
        refine ⟨_, rfl, l, rfl, ⟨_, hl⟩, for_list (K := K) (a := l) (xs := ns.map V.int) (fun i σ H' => ∃ x : Option V, σ = [some (.ref l), x] ∧ H' = H ∧ ∀ n ∈ ns.take i, Sgn n) ⟨none, rfl, rfl, fun n hn => by simp at hn⟩ (fun i σ H' _ ⟨_, _, e, _⟩ => by rw [e]; exact hl) ?_ ?_⟩
        · rintro i y σ H' hi ⟨x, rfl, rfl, ha⟩
          obtain ⟨z, hz, rfl⟩ := item_of hi
          have hzm : z ∈ ns := List.mem_of_getElem? hz
          refine ⟨_, rfl, z, rfl, _, rfl, ?_⟩
          by_cases h0 : 0 ≤ z ∧ z < 97
          · rw [decide_eq_true h0]
            refine iteF ⟨some (.int z), rfl, rfl, ?_⟩
            rw [take_succ hz]
            intro n hn
            rcases List.mem_append.mp hn with z1 | z1
            · exact ha n z1
            · rw [List.mem_singleton.mp z1]; exact h0
          · rw [decide_eq_false h0]
            refine iteT ?_
            have hzl := txt_len (hb z hzm)
            have f0 : (Str.empty ++ Str.ofString (toString z)).length ≤ 1001 := by rw [strLen_append]; show 0 + _ ≤ 1001; omega
            have f1 : ((Str.empty ++ Str.ofString (toString z)) ++ (" is no sign" : Str)).length ≤ 2000 := by
              have : (" is no sign" : Str).length = 11 := by decide +kernel
              rw [strLen_append]; omega
            refine ⟨_, rfl, z, rfl, log_lt (hb z hzm) (by decide) (by decide), _, rfl, by omega, _, rfl, by omega, by omega, ?_⟩
            exact ⟨by show 1 ≤ sizeLine; decide, q2 fun r => h0 (r.2 z hzm)⟩
        · rintro σ H' ⟨x, rfl, rfl, ha⟩
          rw [List.length_map, List.take_length] at ha
          exact q1 ⟨⟨by omega, by omega⟩, ha⟩
      · rw [decide_eq_false h2]
        refine iteT ?_
        refine ⟨_, rfl, by omega, 10, rfl, log_lt (n := 1000) (by decide) (by decide) (by decide), _, rfl, by omega, _, rfl, by omega, by omega, ?_⟩
        exact ⟨by show 1 ≤ sizeLine; decide, q2 fun r => h2 (by have := r.1.2; omega)⟩
    · refine iteN h1 ?_
      refine ⟨_, rfl, iteT ?_⟩
      refine ⟨_, rfl, by omega, 10, rfl, log_lt (n := 1000) (by decide) (by decide) (by decide), _, rfl, by omega, _, rfl, by omega, by omega, ?_⟩
      exact ⟨by show 1 ≤ sizeLine; decide, q2 fun r => h1 (by have := r.1.1; omega)⟩
/-! pieces_of -/
def pcN (n : Nat) : Nat := (n + 8) / 9
def pcAt (ns : List Int) (i : Nat) : List Int := (if 9 * i + 9 < ns.length then 0 else 1) :: (ns.drop (9 * i)).take 9
def pcsOf (ns : List Int) : List (List Int) := (List.range (pcN ns.length)).map (pcAt ns)
theorem pcsOf_len (ns : List Int) : (pcsOf ns).length = pcN ns.length := by unfold pcsOf; rw [List.length_map, List.length_range]
theorem pcsOf_at {ns : List Int} {i : Nat} (h : i < pcN ns.length) : (pcsOf ns)[i]? = some (pcAt ns i) := by unfold pcsOf; rw [List.getElem?_map, List.getElem?_range h]; rfl
theorem size9 (n : Nat) : (Builtin.Range.rangeSize 0 (n : Nat) 9).toNat = pcN n := by
  unfold Builtin.Range.rangeSize pcN
  rw [if_pos (by decide)]
  split <;> omega
def sp_pieces_of (K : PySem.W.Frag) : Sp := fun vs H Q _ => ∃ (l : Addr) (ns : List Int), vs = [.ref l] ∧ SqL K H l (ns.map V.int) ∧ ns.length ≤ 1000 ∧
  ∀ (p : Addr) (as : List Addr) (H' : Hp), H p = none → (∀ a ∈ as, H a = none) → (p :: as).Nodup → Same H H' → H' p = some (.lst (as.map V.ref)) → RowsAt H' as (pcsOf ns) → Q (.ref p) H'
theorem sc_pieces_of : FnScope ["signs", "pieces", "begin", "end", "head"] ["signs"] (defScope s_pieces_of) := ⟨rfl, rfl, rfl, by decide +kernel, rfl, by decide +kernel, by decide +kernel⟩
theorem ok_pieces_of (F : Site K mg "pieces_of" s_pieces_of) (T : Txt K mg t) : Def P w K mg base 1 "pieces_of" ["signs"] (sp_pieces_of K) := by
  refine F.def sc_pieces_of (fun _ _ _ _ _ _ us hl => match us, hl with | [_], _ => rfl) (fun vs H Q E h => ?_) (fun f cdv A outer s H vs Q E hr h => ?_)
  · obtain ⟨l, ns, rfl, _⟩ := h
    rfl
  · obtain ⟨l, ns, rfl, hl, hz, q⟩ := h
    refine ⟨_, pss_cons (ps_set (i := 1) sc_pieces_of.nd rfl (Or.inl rfl) (pe_lst pa_nil))
      (pss_cons (PS.nox (ps_for PassesOwn.never rfl (pi_range3 (by rfl) T.n_range (pa_cons pe_int (pa_cons (pe_callB (call_lenK K) (by rfl) T.n_len boot_len (pa_cons (pv 0) pa_nil)) (pa_cons (pe_gint T.cSIGNS_A_PIECE) pa_nil)))) (pg_name (i := 2) sc_pieces_of.nd rfl (Or.inl rfl))
        (pss_cons (ps_set (i := 3) sc_pieces_of.nd rfl (Or.inl rfl) (pe_op op_add (pv 2) (pe_gint T.cSIGNS_A_PIECE)))
        (pss_cons (ps_set (i := 4) sc_pieces_of.nd rfl (Or.inl rfl) (pe_ifExp (pt_cmpR op_lt (pv 3) (pe_callB (call_lenK K) (by rfl) T.n_len boot_len (pa_cons (pv 0) pa_nil)) (nomark _)) (pe_gint T.cGOES_ON) (pe_gint T.cENDS)))
        (pss_one (ps_expr (pe_bmK K PySem.F.plainAttrs_list PySem.F.slot_list_append PySem.F.type_list_append mt_append (pv 1) (pa_cons (pe_op (op_catK K) (pe_lst (pa_cons (pv 4) pa_nil)) (pe_slice (sl_listK K) (pv 0) (po_some (pv 2)) (po_some (pv 3)))) pa_nil))))))))
      (pss_one (ps_ret (pv 1)))), ?_⟩
    have hsz : (2000 : Nat) ≤ sizeLine := by decide
    refine ⟨by show 0 ≤ sizeLine; decide, fun p hp => ?_⟩
    have s0 : Same H (upd H p (.lst [])) := (Same.refl _).new hp
    refine ⟨_, rfl, l, _, rfl, .inl (s0.seq hl), _, _, _, rfl, ⟨by omega, by omega, by omega, by rw [List.length_map]; omega, by omega, by omega⟩, ?_⟩
    rw [List.length_map, size9]
    refine for_range3 (lo := 0) (st := 9) (n := pcN ns.length) (fun i σ H' => ∃ (x y z : Option V) (as : List Addr), σ = [some (.ref l), some (.ref p), x, y, z] ∧ (∀ a ∈ as, H a = none) ∧ (p :: as).Nodup ∧ Same H H' ∧ H' p = some (.lst (as.map V.ref)) ∧ RowsAt H' as ((pcsOf ns).take i))
      ⟨none, none, none, [], rfl, fun a ha => by simp at ha, by simp, s0, upd_same, by rw [List.take_zero]; exact RowsAt.nil⟩ ?_ ?_
    · rintro i σ H' hi ⟨x, y, z, as, rfl, hn, nd, s1, h1, hr⟩
      have hal : as.length = i := by rw [hr.1, List.length_take, pcsOf_len]; omega
      refine ⟨_, rfl, _, _, rfl, rfl, ?_⟩
      refine ⟨_, rfl, _, rfl, l, _, rfl, .inl (s1.seq hl), _, _, rfl, rfl, _, rfl, ?_⟩
      rw [List.length_map]
      have fin : ∀ (pa pb pc : Addr) (o1 o2 : HO), H' pa = none → (upd H' pa o1) pb = none → (upd (upd H' pa o1) pb o2) pc = none → ∀ (xs : List V), xs = (pcAt ns i).map V.int →
          (upd (upd (upd H' pa o1) pb o2) pc (.lst xs)) p = some (.lst (as.map V.ref)) ∧ ∃ as' : List Addr, as' = as ++ [pc] ∧ (∀ a ∈ as', H a = none) ∧ (p :: as').Nodup ∧ Same H (upd (upd (upd (upd H' pa o1) pb o2) pc (.lst xs)) p (.lst (as'.map V.ref))) ∧
            RowsAt (upd (upd (upd (upd H' pa o1) pb o2) pc (.lst xs)) p (.lst (as'.map V.ref))) as' ((pcsOf ns).take (i + 1)) := by
        rintro pa pb pc o1 o2 na nb nc xs rfl
        have t1 : Same H' (upd (upd (upd H' pa o1) pb o2) pc (.lst ((pcAt ns i).map V.int))) := (((Same.refl _).new na).new nb).new nc
        have t2 : Same H' (upd (upd H' pa o1) pb o2) := ((Same.refl _).new na).new nb
        have fc : H' pc = none := t2.free nc
        have npc : p ≠ pc := ne_of_none h1 fc
        refine ⟨t1 _ _ h1, _, rfl, fun a ha => ?_, ?_, (s1.trans t1).put hp, ?_⟩
        · rcases List.mem_append.mp ha with ha | ha
          · exact hn a ha
          · rw [List.mem_singleton.mp ha]; exact s1.free fc
        · rw [← List.cons_append, List.nodup_append]
          refine ⟨nd, by simp, fun a ha b hb z => ?_⟩
          rw [List.mem_singleton.mp hb] at z
          rw [z] at ha
          rcases List.mem_cons.mp ha with ha | ha
          · exact npc ha.symm
          · obtain ⟨o, ho⟩ := hr.some pc ha
            rw [ho] at fc; cases fc
        · rw [take_succ (pcsOf_at hi)]
          have np : ∀ a ∈ as, a ≠ p := fun a ha z => by rw [z] at ha; exact (List.nodup_cons.mp nd).1 ha
          refine RowsAt.snoc ((hr.same t1).mods (S := [p]) (Mods.refl.upd (.inl List.mem_cons_self)) fun a ha z => np a ha (List.mem_singleton.mp z)) ?_
          rw [upd_ne (Ne.symm npc)]; exact upd_same
      have lg : (as.map V.ref).length < sizeLine := by rw [List.length_map, hal]; have : pcN ns.length ≤ 1000 := by unfold pcN; omega
                                                       omega
      by_cases h9 : 9 * i + 9 < ns.length
      · refine iteY (by omega) ?_
        have e : pcAt ns i = 0 :: (ns.drop (9 * i)).take 9 := by unfold pcAt; rw [if_pos h9]
        refine ⟨_, rfl, .inl ⟨rfl, _, SqL.of h1⟩, _, rfl, by show 1 ≤ sizeLine; decide, fun pa hpa => ?_⟩
        have s2 := s1.new (o := .lst [.int 0]) hpa
        refine ⟨_, rfl, _, rfl, _, rfl, _, rfl, _, rfl, l, _, rfl, s2.seq hl, fun pb hpb => ?_⟩
        have s3 := s2.new (o := .lst (cutV (ns.map V.int) (some (0 + (i : Nat) * 9)) (some (0 + (i : Nat) * 9 + 9)))) hpb
        have nab : pa ≠ pb := ne_of_none upd_same hpb
        refine ⟨pa, pb, _, _, rfl, rfl, SqL.of (by rw [upd_ne nab]; exact upd_same), SqL.of upd_same, by have := cutV_length (ns.map V.int) (some (0 + (i : Nat) * 9)) (some (0 + (i : Nat) * 9 + 9)); rw [List.length_map] at this; show 1 + _ ≤ sizeLine; omega, fun pc hpc => ?_⟩
        obtain ⟨g1, as', rfl, g2, g3, g4, g5⟩ := fin pa pb pc _ _ hpa hpb hpc ([V.int 0] ++ cutV (ns.map V.int) (some (0 + (i : Nat) * 9)) (some (0 + (i : Nat) * 9 + 9))) (by rw [e, cutV_ss (by omega) (by omega), show (0 + (i : Nat) * 9 : Int).toNat = 9 * i by omega, show (0 + (i : Nat) * 9 + 9 : Int).toNat - 9 * i = 9 by omega, ← List.map_drop, ← List.map_take]; rfl)
        refine ⟨p, _, _, rfl, rfl, g1, lg, ?_⟩
        refine ⟨_, _, _, as ++ [pc], rfl, g2, g3, ?_, ?_, ?_⟩
        · rw [List.map_append] at g4; exact g4
        · rw [upd_same, List.map_append]; rfl
        · rw [List.map_append] at g5; exact g5
      · refine iteN (by omega) ?_
        have e : pcAt ns i = 1 :: (ns.drop (9 * i)).take 9 := by unfold pcAt; rw [if_neg h9]
        refine ⟨_, rfl, .inl ⟨rfl, _, SqL.of h1⟩, _, rfl, by show 1 ≤ sizeLine; decide, fun pa hpa => ?_⟩
        have s2 := s1.new (o := .lst [.int 1]) hpa
        refine ⟨_, rfl, _, rfl, _, rfl, _, rfl, _, rfl, l, _, rfl, s2.seq hl, fun pb hpb => ?_⟩
        have s3 := s2.new (o := .lst (cutV (ns.map V.int) (some (0 + (i : Nat) * 9)) (some (0 + (i : Nat) * 9 + 9)))) hpb
        have nab : pa ≠ pb := ne_of_none upd_same hpb
        refine ⟨pa, pb, _, _, rfl, rfl, SqL.of (by rw [upd_ne nab]; exact upd_same), SqL.of upd_same, by have := cutV_length (ns.map V.int) (some (0 + (i : Nat) * 9)) (some (0 + (i : Nat) * 9 + 9)); rw [List.length_map] at this; show 1 + _ ≤ sizeLine; omega, fun pc hpc => ?_⟩
        obtain ⟨g1, as', rfl, g2, g3, g4, g5⟩ := fin pa pb pc _ _ hpa hpb hpc ([V.int 1] ++ cutV (ns.map V.int) (some (0 + (i : Nat) * 9)) (some (0 + (i : Nat) * 9 + 9))) (by rw [e, cutV_ss (by omega) (by omega), show (0 + (i : Nat) * 9 : Int).toNat = 9 * i by omega, show (0 + (i : Nat) * 9 + 9 : Int).toNat - 9 * i = 9 by omega, ← List.map_drop, ← List.map_take]; rfl)
        refine ⟨p, _, _, rfl, rfl, g1, lg, ?_⟩
        refine ⟨_, _, _, as ++ [pc], rfl, g2, g3, ?_, ?_, ?_⟩
        · rw [List.map_append] at g4; exact g4
        · rw [upd_same, List.map_append]; rfl
        · rw [List.map_append] at g5; exact g5
    · rintro σ H' ⟨x, y, z, as, rfl, hn, nd, s1, h1, hr⟩
      refine ⟨_, rfl, ?_⟩
      rw [List.take_of_length_le (by rw [pcsOf_len]; exact Nat.le_refl _)] at hr
      exact q p as H' hp hn nd s1 h1 hr
end
end K43
namespace K43
open PySem L2 PyProof.Rows
section
variable {P : Program} {w : World} {K : PySem.W.Frag} {mg : Str → Option Value} {base : Heap} {t : Ad}
/-! what pieces are: signs, a mark ahead, the rest joined -/
theorem pcAt_pc {ns : List Int} (hs : ∀ n ∈ ns, Sgn n) {i : Nat} : IsPc (pcAt ns i) := by
  unfold pcAt
  refine ⟨⟨by rw [List.length_cons]; omega, by rw [List.length_cons, List.length_take]; omega⟩, fun n hn => ?_⟩
  rcases List.mem_cons.mp hn with e | hn
  · rw [e]; split <;> exact ⟨by decide, by decide⟩
  · exact hs n (List.mem_of_mem_drop (List.mem_of_mem_take hn))
theorem pcAt_go {ns : List Int} {i : Nat} (h : i + 1 < pcN ns.length) : (pcAt ns i).head? = some 0 := by
  unfold pcAt pcN at *
  rw [if_pos (by omega)]; rfl
theorem pcAt_end {ns : List Int} {i : Nat} (h : ¬ i + 1 < pcN ns.length) : (pcAt ns i).head? = some 1 := by
  unfold pcAt pcN at *
  rw [if_neg (by omega)]; rfl
theorem pcAt_join (ns : List Int) (i : Nat) : ns.take (9 * i) ++ (pcAt ns i).tail = ns.take (9 * (i + 1)) := by
  show ns.take (9 * i) ++ (ns.drop (9 * i)).take 9 = _
  rw [show 9 * (i + 1) = 9 * i + 9 by omega, List.take_add]
/-! Joiner -/
def JnAt (C : Addr) (H : Hp) (x l : Addr) (js : List Int) : Prop := (∃ dx, H x = some (.ins C dx [("joined", .ref l)])) ∧ H l = some (.lst (js.map V.int))
theorem JnAt.ne {C : Addr} {H : Hp} {x l : Addr} {js : List Int} (h : JnAt C H x l js) : x ≠ l := by
  obtain ⟨⟨dx, h1⟩, h2⟩ := h
  exact ne_of h1 h2 (by intro z; cases z)
theorem JnAt.mods {C : Addr} {S : List Addr} {H H' : Hp} {x l : Addr} {js : List Int} (h : JnAt C H x l js) (m : Mods S H H') (n1 : x ∉ S) (n2 : l ∉ S) : JnAt C H' x l js := by
  obtain ⟨⟨dx, h1⟩, h2⟩ := h
  exact ⟨⟨dx, m _ _ n1 h1⟩, m _ _ n2 h2⟩
theorem JnAt.same {C : Addr} {H H' : Hp} {x l : Addr} {js : List Int} (h : JnAt C H x l js) (s : Same H H') : JnAt C H' x l js := h.mods (S := []) (Mods.same s) List.not_mem_nil List.not_mem_nil
def sp_init (C : Addr) : Sp := fun vs H Q _ => ∃ x dx, vs = [.ref x] ∧ H x = some (.ins C dx []) ∧ ∀ (l : Addr) (H' : Hp), H l = none → Mods [x] H H' → JnAt C H' x l [] → Q .non H'
theorem sc_init : FnScope ["self"] ["self"] (defScope s_init) := ⟨rfl, rfl, rfl, by decide +kernel, rfl, by decide +kernel, by decide +kernel⟩
theorem ok_init {fd : FuncData} (T : Txt K mg t) (F : Fun K "__init__" "Joiner.__init__" s_init t.init fd) : FnOk P w K mg base (CX1 P w) 1 t.init fd ["self"] (sp_init t.Joiner) ∧ Binds K fd ["self"] [] := by
  refine ⟨F.ok1q sc_init (fun vs H Q E h => ?_) (fun f cdv A outer s H vs Q E hr h => ?_), F.binds fun _ _ _ _ _ _ us hl => match us, hl with | [_], _ => rfl⟩
  · obtain ⟨x, dx, rfl, _⟩ := h
    rfl
  · obtain ⟨x, dx, rfl, hx, q⟩ := h
    refine ⟨_, pss_one (ps_fldK K (pv 0) (pe_lst pa_nil) (by rfl)), ?_⟩
    refine ⟨by show 0 ≤ sizeLine; decide, fun l hl => ?_⟩
    have n : x ≠ l := ne_of_none hx hl
    refine ⟨_, rfl, x, t.Joiner, dx, _, rfl, by rw [upd_ne n]; exact hx, T.cJoiner, T.na_joined, by show 0 < 1000; decide, ?_⟩
    exact q l _ hl ((Mods.refl.upd (.inr hl)).upd (.inl List.mem_cons_self)) ⟨⟨dx, upd_same⟩, by rw [upd_ne (Ne.symm n)]; exact upd_same⟩
def sp_take (K : PySem.W.Frag) (C Bp : Addr) : Sp := fun vs H Q E => ∃ (x l p : Addr) (js ns : List Int), vs = [.ref x, .ref p] ∧ JnAt C H x l js ∧ SqL K H p (ns.map V.int) ∧ p ≠ l ∧ (∀ n ∈ ns, n.natAbs < 2 ^ 1000) ∧ js.length ≤ 100000 ∧
  (IsPc ns → ns.head? = some 0 → ∀ H', Mods [l] H H' → JnAt C H' x l (js ++ ns.tail) → Q .non H') ∧
  (IsPc ns → ns.head? ≠ some 0 → ∀ l' H', H l' = none → Mods [x, l] H H' → H' l = some (.lst ((js ++ ns.tail).map V.int)) → JnAt C H' x l' [] → Q (.ref l) H') ∧
  (¬ IsPc ns → E (.ref Bp) none H)
theorem sc_take : FnScope ["self", "piece", "whole"] ["self", "piece"] (defScope s_take) := ⟨rfl, rfl, rfl, by decide +kernel, rfl, by decide +kernel, by decide +kernel⟩
theorem ok_take {fd : FuncData} (T : Txt K mg t) (F : Fun K "take" "Joiner.take" s_take t.m_take fd) (D_look_piece : Def P w K mg base 2 "look_piece" ["piece"] (sp_look_piece K t.BadPiece)) :
    FnOk P w K mg base (CX1 P w) 3 t.m_take fd ["self", "piece"] (sp_take K t.Joiner t.BadPiece) ∧ Binds K fd ["self", "piece"] [] := by
  refine ⟨F.ok1q sc_take (fun vs H Q E h => ?_) (fun f cdv A outer s H vs Q E hr h => ?_), F.binds fun _ _ _ _ _ _ us hl => match us, hl with | [_, _], _ => rfl⟩
  · obtain ⟨x, l, p, js, ns, rfl, _⟩ := h
    rfl
  · obtain ⟨x, l, p, js, ns, rfl, hj, hp, npl, hb, hz, q1, q2, q3⟩ := h
    refine ⟨_, pss_cons (ps_expr (pe_def (D_look_piece.mono (by decide)) hr (pass1 cx1_body) (pa_cons (pv 1) pa_nil)))
      (pss_cons (ps_expr (pe_bmK K PySem.F.plainAttrs_list PySem.F.slot_list_extend PySem.F.type_list_extend mt_extend (pe_fldK K (pv 0) (by rfl)) (pa_cons (pe_slice (sl_listK K) (pv 1) (po_some pe_int) po_none) pa_nil)))
      (pss_cons (ps_if (pt_cmpR op_eq (pe_ix (ix_listK K) (pv 1) pe_int (fun _ _ => rfl)) (pe_gint T.cGOES_ON) (nomark _))
        (pss_one (ps_ret pe_non))
        (pss_nil))
      (pss_cons (ps_set (i := 2) sc_take.nd rfl (Or.inl rfl) (pe_fldK K (pv 0) (by rfl)))
      (pss_cons (ps_fldK K (pv 0) (pe_lst pa_nil) (by rfl))
      (pss_one (ps_ret (pv 2))))))), ?_⟩
    have hsz : (200000 : Nat) ≤ sizeLine := by decide
    refine ⟨_, rfl, p, ns, rfl, hp, hb, fun hpc => ?_, q3⟩
    obtain ⟨⟨dx, hx⟩, hl⟩ := hj
    have nxl : x ≠ l := ne_of hx hl (by intro z; cases z)
    refine ⟨_, rfl, x, t.Joiner, dx, _, _, rfl, hx, T.cJoiner, T.na_joined, rfl, .inl ⟨rfl, _, SqL.of hl⟩, _, rfl, _, rfl, p, _, rfl, hp, fun pb hpb => ?_⟩
    have ec : cutV (ns.map V.int) (some 1) none = ns.tail.map V.int := by rw [cutV_sn (by decide), ← List.map_drop, show (1 : Int).toNat = 1 from rfl, List.drop_one]
    rw [ec]
    have nlb : l ≠ pb := ne_of_none hl hpb
    have nxb : x ≠ pb := ne_of_none hx hpb
    refine ⟨l, pb, _, _, rfl, rfl, by rw [upd_ne nlb]; exact hl, upd_same, by rw [List.length_map, List.length_map, List.length_tail]; have := hpc.1; omega, ?_⟩
    rw [← List.map_append]
    have m2 : Mods [l] H (upd (upd H pb (.lst (ns.tail.map V.int))) l (.lst ((js ++ ns.tail).map V.int))) := (Mods.refl.upd (.inr hpb)).upd (.inl List.mem_cons_self)
    have hx2 := m2.of hx (by simpa using nxl)
    have hp2 := m2.seq hp (by simpa using npl)
    have hl2 : (upd (upd H pb (.lst (ns.tail.map V.int))) l (.lst ((js ++ ns.tail).map V.int))) l = some (.lst ((js ++ ns.tail).map V.int)) := upd_same
    generalize upd (upd H pb (.lst (ns.tail.map V.int))) l (.lst ((js ++ ns.tail).map V.int)) = H2 at m2 hx2 hp2 hl2 ⊢
    obtain ⟨n0, nt, en⟩ : ∃ n0 nt, ns = n0 :: nt := by
      cases ns with
      | nil => exact absurd hpc.1.1 (by decide)
      | cons a b => exact ⟨a, b, rfl⟩
    refine ⟨_, rfl, p, _, _, _, rfl, rfl, hp2, by rw [en]; exact at_zero _ _, rfl, _, rfl, ?_⟩
    by_cases h0 : n0 = 0
    · refine iteY (by rw [h0]) ?_
      exact q1 hpc (by rw [en, h0]; rfl) H2 m2 ⟨⟨dx, hx2⟩, hl2⟩
    · refine iteN (fun z => h0 (V.int.inj z)) ?_
      refine ⟨_, rfl, x, t.Joiner, dx, _, _, rfl, hx2, T.cJoiner, T.na_joined, rfl, ?_⟩
      refine ⟨by show 0 ≤ sizeLine; decide, fun l' hl' => ?_⟩
      have n3 : x ≠ l' := ne_of_none hx2 hl'
      have n4 : l ≠ l' := ne_of_none hl2 hl'
      refine ⟨_, rfl, x, t.Joiner, dx, _, rfl, by rw [upd_ne n3]; exact hx2, T.cJoiner, T.na_joined, by show 1 < 1000; decide, ?_⟩
      have fl : H l' = none := by
        cases e : H l' with
        | none => rfl
        | some o => rw [m2.of e (by simpa using Ne.symm n4)] at hl'; cases hl'
      refine ⟨_, rfl, ?_⟩
      refine q2 hpc (by rw [en]; intro z; exact h0 (Option.some.inj z)) l' _ fl (((m2.up (S' := [x, l]) fun y hy => List.mem_cons_of_mem _ hy).upd (.inr fl)).upd (.inl List.mem_cons_self)) ?_ ⟨⟨dx, upd_same⟩, ?_⟩
      · rw [upd_ne (Ne.symm nxl), upd_ne n4]; exact hl2
      · rw [upd_ne (Ne.symm n3)]; exact upd_same
end
end K43
namespace K43
open PySem L2 PyProof.Rows
section
variable {P : Program} {w : World} {K : PySem.W.Frag} {mg : Str → Option Value} {base : Heap} {t : Ad}
/-! the queue: its letters, its keys, how it stands -/
def LsAt (K : PySem.W.Frag) (H : Hp) (as : List Addr) (Ls : List Ltr) : Prop := as.length = Ls.length ∧ ∀ (i : Nat) (a : Addr) (L : Ltr), as[i]? = some a → Ls[i]? = some L → LtAt K H a L
theorem LsAt.kept {K : PySem.W.Frag} {H H' : Hp} {as : List Addr} {Ls : List Ltr} (h : LsAt K H as Ls) (k : Kept H H') : LsAt K H' as Ls := ⟨h.1, fun i a L h1 h2 => (h.2 i a L h1 h2).kept k⟩
theorem LsAt.nil {K : PySem.W.Frag} {H : Hp} : LsAt K H [] [] := ⟨rfl, fun i a L h => by simp at h⟩
theorem LsAt.cons {K : PySem.W.Frag} {H : Hp} {a : Addr} {L : Ltr} {as : List Addr} {Ls : List Ltr} (h1 : LtAt K H a L) (h : LsAt K H as Ls) : LsAt K H (a :: as) (L :: Ls) := by
  refine ⟨by rw [List.length_cons, List.length_cons, h.1], fun i b M e1 e2 => ?_⟩
  match i with
  | 0 => cases e1; cases e2; exact h1
  | i + 1 => exact h.2 i b M e1 e2
theorem LsAt.un {K : PySem.W.Frag} {H : Hp} {as : List Addr} {L : Ltr} {Ls : List Ltr} (h : LsAt K H as (L :: Ls)) : ∃ a as', as = a :: as' ∧ LtAt K H a L ∧ LsAt K H as' Ls := by
  cases as with
  | nil => have := h.1; simp at this
  | cons a as => exact ⟨a, as, rfl, h.2 0 a L rfl rfl, by have := h.1; simpa using this, fun i b M e1 e2 => h.2 (i + 1) b M e1 e2⟩
theorem LsAt.no {K : PySem.W.Frag} {H : Hp} {as : List Addr} (h : LsAt K H as []) : as = [] := List.eq_nil_of_length_eq_zero h.1
theorem LsAt.app {K : PySem.W.Frag} {H : Hp} {as bs : List Addr} {Ls Ms : List Ltr} (h : LsAt K H as Ls) (g : LsAt K H bs Ms) : LsAt K H (as ++ bs) (Ls ++ Ms) := by
  refine ⟨by rw [List.length_append, List.length_append, h.1, g.1], fun i b M e1 e2 => ?_⟩
  by_cases hi : i < as.length
  · rw [List.getElem?_append_left hi] at e1
    rw [List.getElem?_append_left (by rw [← h.1]; exact hi)] at e2
    exact h.2 i b M e1 e2
  · rw [List.getElem?_append_right (by omega)] at e1
    rw [List.getElem?_append_right (by rw [← h.1]; omega), ← h.1] at e2
    exact g.2 _ b M e1 e2
theorem LsAt.one {K : PySem.W.Frag} {H : Hp} {a : Addr} {L : Ltr} (h : LtAt K H a L) : LsAt K H [a] [L] := LsAt.nil.cons h |> fun z => z
theorem LsAt.set {K : PySem.W.Frag} {H : Hp} {as : List Addr} {Ls : List Ltr} (h : LsAt K H as Ls) (i : Nat) {r : Addr} {M : Ltr} (g : LtAt K H r M) : LsAt K H (as.set i r) (Ls.set i M) := by
  refine ⟨by rw [List.length_set, List.length_set, h.1], fun j b N e1 e2 => ?_⟩
  by_cases hj : i = j
  · subst hj
    rw [List.getElem?_set_self'] at e1 e2
    cases z1 : as[i]? with
    | none => rw [z1] at e1; cases e1
    | some u =>
      cases z2 : Ls[i]? with
      | none => rw [z2] at e2; cases e2
      | some v => rw [z1] at e1; rw [z2] at e2; cases e1; cases e2; exact g
  · rw [List.getElem?_set_ne hj] at e1 e2
    exact h.2 j b N e1 e2
theorem LsAt.dat {K : PySem.W.Frag} {H : Hp} {l : Addr} {as : List Addr} {Ls : List Ltr} (h : LsAt K H as Ls) (hl : SqL K H l (as.map V.ref)) (ok : ∀ L ∈ Ls, LtOk L) {n : Nat} : IsDat K H (n + 3) (.ref l) (.list (Ls.map ltD)) := by
  refine .lst hl (by rw [List.length_map, List.length_map, h.1]) fun i x d e1 e2 => ?_
  rw [List.getElem?_map] at e1 e2
  cases z1 : as[i]? with
  | none => rw [z1] at e1; cases e1
  | some a =>
    cases z2 : Ls[i]? with
    | none => rw [z2] at e2; cases e2
    | some L => rw [z1] at e1; rw [z2] at e2; cases e1; cases e2; exact (h.2 i a L z1 z2).dat (ok L (List.mem_of_getElem? z2)).kind
/-- what of it one letter at most waits -/
def key (L : Ltr) : Int × Int × Str × List Int := (L.way.headD 0, L.way.getLastD 0, L.kind, L.ab)
def keyD (L : Ltr) : PyData := .tuple [.int (L.way.headD 0), .int (L.way.getLastD 0), .str L.kind, .tuple (L.ab.map .int)]
theorem keyD_plain (L : Ltr) : plainD (keyD L) = true := by
  show (true && (true && (true && (plainDs (L.ab.map .int) && true)))) = true
  rw [plain_ints]; rfl
theorem keyD_inj {L M : Ltr} (e : keyD L = keyD M) : key L = key M := by
  unfold keyD at e
  injection e with e
  injection e with e1 e
  injection e with e2 e
  injection e with e3 e
  injection e with e4 e
  injection e1 with e1
  injection e2 with e2
  injection e3 with e3
  injection e4 with e4
  unfold key
  rw [e1, e2, e3, map_int_inj e4]
theorem keyD_of {L M : Ltr} (e : key L = key M) : keyD L = keyD M := by
  unfold key at e
  injection e with e1 e
  injection e with e2 e
  injection e with e3 e4
  unfold keyD
  rw [e1, e2, e3, e4]
theorem keyD_eqv {L M : Ltr} {K : PySem.W.Frag} {H : Hp} {n : Nat} {v : V} (h : IsDat K H n v (keyD L)) : PyData.eqv (keyD L) (keyD M) = decide (key L = key M) := by
  by_cases e : key L = key M
  · rw [decide_eq_true e, ← keyD_of e, h.eqv]
  · rw [decide_eq_false e]
    cases z : PyData.eqv (keyD L) (keyD M) with
    | false => rfl
    | true => exact absurd (keyD_inj (eqv_eq _ _ (keyD_plain L) (keyD_plain M) z)) e
/-- the newer of two -/
def nwr (L M : Ltr) : Ltr := if key L = key M then (if L.c < M.c then M else L) else L
def putL (Ls : List Ltr) (M : Ltr) : List Ltr := if ∃ L ∈ Ls, key L = key M then Ls.map (nwr · M) else Ls ++ [M]
theorem nwr_key (L M : Ltr) : key (nwr L M) = key L := by
  unfold nwr
  split
  · rename_i h; split
    · exact h.symm
    · rfl
  · rfl
theorem nwr_no {L M : Ltr} (h : key L ≠ key M) : nwr L M = L := by unfold nwr; rw [if_neg h]
theorem putL_keys {Ls : List Ltr} {M : Ltr} (h : (Ls.map key).Nodup) : ((putL Ls M).map key).Nodup := by
  unfold putL
  split
  · rw [List.map_map, show key ∘ (nwr · M) = key from funext fun L => nwr_key L M]; exact h
  · rename_i no
    rw [List.map_append, List.nodup_append]
    refine ⟨h, by simp, fun a ha b hb z => ?_⟩
    obtain ⟨L, hL, rfl⟩ := List.mem_map.mp ha
    rw [List.map_cons, List.map_nil, List.mem_singleton] at hb
    exact no ⟨L, hL, z.trans hb⟩
theorem putL_mem {Ls : List Ltr} {M X : Ltr} (h : X ∈ putL Ls M) : X ∈ Ls ∨ X = M := by
  unfold putL at h
  split at h
  · obtain ⟨L, hL, rfl⟩ := List.mem_map.mp h
    unfold nwr
    split
    · split
      · exact .inr rfl
      · exact .inl hL
    · exact .inl hL
  · rcases List.mem_append.mp h with h | h
    · exact .inl h
    · exact .inr (List.mem_singleton.mp h)
theorem putL_len (Ls : List Ltr) (M : Ltr) : (putL Ls M).length ≤ Ls.length + 1 := by
  unfold putL
  split
  · rw [List.length_map]; omega
  · rw [List.length_append]; exact Nat.le_refl _
/-- by place -/
theorem putL_at {Ls : List Ltr} {M L : Ltr} {i : Nat} (hn : (Ls.map key).Nodup) (hi : Ls[i]? = some L) (hk : key L = key M) : putL Ls M = if L.c < M.c then Ls.set i M else Ls := by
  have hlt : i < Ls.length := (List.getElem?_eq_some_iff.mp hi).1
  have oth : ∀ (j : Nat) (N : Ltr), Ls[j]? = some N → key N = key M → j = i := fun j N hj e => by
    have e1 : (Ls.map key)[j]? = some (key M) := by rw [List.getElem?_map, hj, ← e]; rfl
    have e2 : (Ls.map key)[i]? = some (key M) := by rw [List.getElem?_map, hi, ← hk]; rfl
    obtain ⟨g1, g2⟩ := List.getElem?_eq_some_iff.mp e1
    obtain ⟨g3, g4⟩ := List.getElem?_eq_some_iff.mp e2
    rcases Nat.lt_trichotomy j i with z | z | z
    · exact absurd (g2.trans g4.symm) (List.pairwise_iff_getElem.mp hn j i g1 g3 z)
    · exact z
    · exact absurd (g4.trans g2.symm) (List.pairwise_iff_getElem.mp hn i j g3 g1 z)
  unfold putL
  rw [if_pos ⟨L, List.mem_of_getElem? hi, hk⟩]
  apply List.ext_getElem?
  intro j
  rw [List.getElem?_map]
  cases hj : Ls[j]? with
  | none =>
    split
    · rw [List.getElem?_set]; split
      · rename_i z; subst z; rw [hj] at hi; cases hi
      · rw [hj]; rfl
    · rw [hj]; rfl
  | some N =>
    by_cases e : key N = key M
    · have := oth j N hj e
      subst this
      rw [hi] at hj; cases hj
      show some (nwr L M) = _
      unfold nwr
      rw [if_pos hk]
      split
      · rw [List.getElem?_set_self hlt]
      · rw [hi]
    · show some (nwr N M) = _
      rw [nwr_no e]
      split
      · rw [List.getElem?_set_ne (fun z => by subst z; rw [hi] at hj; cases hj; exact e hk), hj]
      · rw [hj]
theorem putL_no {Ls : List Ltr} {M : Ltr} (h : ∀ L ∈ Ls, key L ≠ key M) : putL Ls M = Ls ++ [M] := by
  unfold putL
  rw [if_neg (fun ⟨L, hL, e⟩ => h L hL e)]
/-- not a tuple here -/
def NT (H : Hp) (a : Addr) : Prop := ∀ xs, ¬ Rd H a (.tup xs)
theorem NT.lst {H : Hp} {a : Addr} {xs : List V} (h : H a = some (.lst xs)) : NT H a := fun ys e => by rcases e with e | ⟨u, e⟩ <;> (rw [h] at e; cases e)
theorem NT.ins {H : Hp} {a C dx : Addr} {fs : List (Str × V)} (h : H a = some (.ins C dx fs)) : NT H a := fun ys e => by rcases e with e | ⟨u, e⟩ <;> (rw [h] at e; cases e)
theorem Mods.kept {S : List Addr} {H H' : Hp} (m : Mods S H H') (n : ∀ a ∈ S, NT H a) : Kept H H' := fun a xs e => by
  have hn : a ∉ S := fun z => n a z xs e
  rcases e with e | ⟨u, e⟩
  · exact .inl (m _ _ hn e)
  · exact .inr ⟨u, m _ _ hn e⟩
theorem Mods.free {S : List Addr} {H H' : Hp} {a : Addr} (m : Mods S H H') (h : H' a = none) (n : a ∉ S) : H a = none := by
  cases e : H a with
  | none => rfl
  | some o => rw [m _ _ n e] at h; cases h
end
end K43
namespace K43
open PySem L2 PyProof.Rows
section
variable {P : Program} {w : World} {K : PySem.W.Frag} {mg : Str → Option Value} {base : Heap} {t : Ad}
theorem at_first {ns : List Int} (h : 1 ≤ ns.length) : atI (ns.map V.int) 0 = some (.int (ns.headD 0)) := by
  cases ns with
  | nil => simp at h
  | cons a b => exact at_zero _ _
theorem at_lst {ns : List Int} (h : 1 ≤ ns.length) : atI (ns.map V.int) (-1) = some (.int (ns.getLastD 0)) := by
  have hn : ns ≠ [] := fun z => by rw [z] at h; simp at h
  rw [← List.dropLast_concat_getLast hn, List.map_append]
  rw [List.getLastD_concat]
  exact atI_last _ _
theorem lastD {ns : List Int} (h : 1 ≤ ns.length) : ns.getD (ns.length - 1) 0 = ns.getLastD 0 := by
  have hn : ns ≠ [] := fun z => by rw [z] at h; simp at h
  have e : ns.getLastD 0 = ns.getLast hn := by
    conv => lhs; rw [← List.dropLast_concat_getLast hn]
    rw [List.getLastD_concat]
  rw [e, List.getLast_eq_getElem, List.getD_eq_getElem?_getD, List.getElem?_eq_getElem (by omega)]
  rfl
/-- the key of a letter, as a tuple -/
def KyAt (K : PySem.W.Frag) (H : Hp) (p : Addr) (L : Ltr) : Prop := IsDat K H 8 (.ref p) (keyD L)
theorem ky_mk {K : PySem.W.Frag} {H : Hp} {p a : Addr} {L : Ltr} (hk : L.kind ∈ kds) (e : H p = some (.tup [.int (L.way.headD 0), .int (L.way.getLastD 0), .str L.kind, .ref a])) (ha : SqT K H a (L.ab.map V.int)) : KyAt K H p L := by
  refine .tup (SqT.of e) rfl fun i x d e1 e2 => ?_
  match i with
  | 0 => cases e1; cases e2; exact .int _
  | 1 => cases e1; cases e2; exact .int _
  | 2 => cases e1; cases e2; exact .str _ (kds_ok hk)
  | 3 => cases e1; cases e2; exact tupD ha
  | i + 4 => simp at e1
theorem KyAt.same {K : PySem.W.Frag} {H H' : Hp} {p : Addr} {L : Ltr} (h : KyAt K H p L) (s : Same H H') : KyAt K H' p L := IsDat.same h s
/-! matter_of, _law_key -/
def sp_key (K : PySem.W.Frag) : Sp := fun vs H Q _ => ∃ (r : Addr) (L : Ltr), vs = [.ref r] ∧ LtAt K H r L ∧ LtOk L ∧ ∀ (p : Addr) (H' : Hp), Same H H' → KyAt K H' p L → Q (.ref p) H'
theorem sc_matter_of : FnScope ["letter", "way"] ["letter"] (defScope s_matter_of) := ⟨rfl, rfl, rfl, by decide +kernel, rfl, by decide +kernel, by decide +kernel⟩
theorem ok_matter_of (F : Site K mg "matter_of" s_matter_of) (T : Txt K mg t) : Def P w K mg base 1 "matter_of" ["letter"] (sp_key K) := by
  refine F.def sc_matter_of (fun _ _ _ _ _ _ us hl => match us, hl with | [_], _ => rfl) (fun vs H Q E h => ?_) (fun f cdv A outer s H vs Q E hr h => ?_)
  · obtain ⟨r, L, rfl, _⟩ := h
    rfl
  · obtain ⟨r, L, rfl, hL, ok, q⟩ := h
    refine ⟨_, pss_cons (ps_set (i := 1) sc_matter_of.nd rfl (Or.inl rfl) (pe_ix (ix_tupK K) (pv 0) pe_int (fun _ _ => rfl)))
      (pss_one (ps_ret (pe_tup (pa_cons (pe_ix (ix_tupK K) (pv 1) pe_int (fun _ _ => rfl)) (pa_cons (pe_ix (ix_tupK K) (pv 1) (pe_un un_neg pe_int) (fun _ _ => rfl)) (pa_cons (pe_ix (ix_tupK K) (pv 0) pe_int (fun _ _ => rfl)) (pa_cons (pe_ix (ix_tupK K) (pv 0) pe_int (fun _ _ => rfl)) pa_nil))))))), ?_⟩
    obtain ⟨w', a', b', z1, z2, z3, z4⟩ := hL
    refine ⟨_, rfl, r, _, _, _, rfl, rfl, z1, rfl, ?_⟩
    refine ⟨_, rfl, w', _, _, _, rfl, rfl, z2, at_first ok.way.1.1, _, rfl, _, rfl, w', _, _, _, rfl, rfl, z2, at_lst ok.way.1.1, _, rfl, r, _, _, _, rfl, rfl, z1, rfl, _, rfl, r, _, _, _, rfl, rfl, z1, rfl, by show 4 ≤ sizeLine; decide, fun p hp => ?_⟩
    have s1 := (Same.refl H).new (o := .tup [.int (L.way.headD 0), .int (L.way.getLastD 0), .str L.kind, .ref a']) hp
    exact q p _ s1 (ky_mk ok.kind upd_same (s1.tup z3))
theorem sc__law_key : FnScope ["letter"] ["letter"] (defScope s__law_key) := ⟨rfl, rfl, rfl, by decide +kernel, rfl, by decide +kernel, by decide +kernel⟩
theorem ok__law_key (F : Site K mg "_law_key" s__law_key) (T : Txt K mg t) : Def P w K mg base 1 "_law_key" ["letter"] (sp_key K) := by
  refine F.def sc__law_key (fun _ _ _ _ _ _ us hl => match us, hl with | [_], _ => rfl) (fun vs H Q E h => ?_) (fun f cdv A outer s H vs Q E hr h => ?_)
  · obtain ⟨r, L, rfl, _⟩ := h
    rfl
  · obtain ⟨r, L, rfl, hL, ok, q⟩ := h
    refine ⟨_, pss_one (ps_ret (pe_tup (pa_cons (pe_ix (ix_tupK K) (pe_ix (ix_tupK K) (pv 0) pe_int (fun _ _ => rfl)) pe_int (fun _ _ => rfl)) (pa_cons (pe_ix (ix_tupK K) (pe_ix (ix_tupK K) (pv 0) pe_int (fun _ _ => rfl)) (pe_op op_sub (pe_callB (call_lenK K) (by rfl) T.n_len boot_len (pa_cons (pe_ix (ix_tupK K) (pv 0) pe_int (fun _ _ => rfl)) pa_nil)) pe_int) (fun _ _ => rfl)) (pa_cons (pe_ix (ix_tupK K) (pv 0) pe_int (fun _ _ => rfl)) (pa_cons (pe_ix (ix_tupK K) (pv 0) pe_int (fun _ _ => rfl)) pa_nil)))))), ?_⟩
    obtain ⟨w', a', b', z1, z2, z3, z4⟩ := hL
    have wl := ok.way.1.1
    refine ⟨_, rfl, r, _, _, _, rfl, rfl, z1, rfl, w', _, _, _, rfl, rfl, z2, at_first ok.way.1.1, _, rfl, r, _, _, _, rfl, rfl, z1, rfl, _, rfl, r, _, _, _, rfl, rfl, z1, rfl, w', _, rfl, .inr z2, _, _, rfl, rfl, w', _, _, _, rfl, rfl, z2, at_int (i := L.way.length - 1) (by omega) (by rw [List.length_map]; omega), _, rfl, r, _, _, _, rfl, rfl, z1, rfl, _, rfl, r, _, _, _, rfl, rfl, z1, rfl, by show 4 ≤ sizeLine; decide, fun p hp => ?_⟩
    rw [lastD wl]
    have s1 := (Same.refl H).new (o := .tup [.int (L.way.headD 0), .int (L.way.getLastD 0), .str L.kind, .ref a']) hp
    exact q p _ s1 (ky_mk ok.kind upd_same (s1.tup z3))
/-! place_of -/
def sp_place_of (K : PySem.W.Frag) : Sp := fun vs H Q _ => ∃ (l m : Addr) (as : List Addr) (Ls : List Ltr) (M : Ltr), vs = [.ref l, .ref m] ∧ H l = some (.lst (as.map V.ref)) ∧ LsAt K H as Ls ∧ (∀ L ∈ Ls, LtOk L) ∧ KyAt K H m M ∧
  (∀ (i : Nat) (L : Ltr) (H' : Hp), Ls[i]? = some L → key L = key M → Same H H' → Q (.int (i : Nat)) H') ∧ ((∀ L ∈ Ls, key L ≠ key M) → ∀ H', Same H H' → Q .non H')
theorem sc_place_of : FnScope ["letters", "matter", "place", "letter"] ["letters", "matter"] (defScope s_place_of) := ⟨rfl, rfl, rfl, by decide +kernel, rfl, by decide +kernel, by decide +kernel⟩
theorem ok_place_of (F : Site K mg "place_of" s_place_of) (T : Txt K mg t) (D_matter_of : Def P w K mg base 1 "matter_of" ["letter"] (sp_key K)) : Def P w K mg base 2 "place_of" ["letters", "matter"] (sp_place_of K) := by
  refine F.def sc_place_of (fun _ _ _ _ _ _ us hl => match us, hl with | [_, _], _ => rfl) (fun vs H Q E h => ?_) (fun f cdv A outer s H vs Q E hr h => ?_)
  · obtain ⟨l, m, as, Ls, M, rfl, _⟩ := h
    rfl
  · obtain ⟨l, m, as, Ls, M, rfl, hl, hL, ok, hm, q1, q2⟩ := h
    refine ⟨_, pss_cons (PS.nox (ps_for PassesOwn.never rfl (pi_enumerateK K (by rfl) T.n_enumerate (pa_cons (pv 0) pa_nil)) (pg_twoK K (i := 2) (j := 3) rfl sc_place_of.nd rfl rfl (Or.inl rfl) (Or.inl rfl))
        (pss_one (ps_if (pt_cmpR (op_eqD K (hu16 hr)) (pe_def (D_matter_of.mono (by decide)) hr passN (pa_cons (pv 3) pa_nil)) (pv 1) (nomark _))
          (pss_one (ps_ret (pv 2)))
          (pss_nil)))))
      (pss_one (ps_ret pe_non)), ?_⟩
    refine ⟨_, rfl, l, _, rfl, hl, ?_⟩
    refine for_enum (K := K) (a := l) (xs := as.map V.ref) (fun i σ H' => ∃ (x y : Option V), σ = [some (.ref l), some (.ref m), x, y] ∧ Same H H' ∧ ∀ L ∈ Ls.take i, key L ≠ key M) ⟨none, none, rfl, Same.refl _, fun L h => by simp at h⟩ (fun i σ H' _ ⟨_, _, _, s, _⟩ => s.seq (SqL.of hl)) ?_ ?_
    · rintro i y p σ H' hi ⟨x1, x2, rfl, s, no⟩ hp
      rw [List.getElem?_map] at hi
      cases ea : as[i]? with
      | none => rw [ea] at hi; cases hi
      | some a =>
        rw [ea] at hi; cases hi
        have hlt : i < Ls.length := by rw [← hL.1]; exact (List.getElem?_eq_some_iff.mp ea).1
        have eL := List.getElem?_eq_getElem hlt
        have lok := ok _ (List.mem_of_getElem? eL)
        have s1 := s.new (o := .tup [.int (i : Nat), .ref a]) hp
        refine take_two (SqT.of upd_same) ?_
        refine ⟨_, rfl, a, _, rfl, (hL.2 i a _ ea eL).same s1, lok, fun k H2 s2 hk => ?_⟩
        refine ⟨_, rfl, _, _, hk, hm.same (s1.trans s2), _, rfl, ?_⟩
        show if (PyData.eqv (keyD Ls[i]) (keyD M)) = true then _ else _
        rw [keyD_eqv hk]
        by_cases e : key Ls[i] = key M
        · refine iteY e ?_
          exact ⟨_, rfl, q1 i _ H2 eL e (s1.trans s2)⟩
        · refine iteN e ?_
          refine ⟨_, _, rfl, s1.trans s2, fun L h => ?_⟩
          rw [take_succ eL] at h
          rcases List.mem_append.mp h with h | h
          · exact no L h
          · rw [List.mem_singleton.mp h]; exact e
    · rintro σ H' ⟨x1, x2, rfl, s, no⟩
      rw [List.length_map, hL.1, List.take_length] at no
      exact q2 no H' s
/-! put_among -/
def sp_put_among (K : PySem.W.Frag) : Sp := fun vs H Q _ => ∃ (l r : Addr) (as : List Addr) (Ls : List Ltr) (M : Ltr), vs = [.ref l, .ref r] ∧ H l = some (.lst (as.map V.ref)) ∧ LsAt K H as Ls ∧ (∀ L ∈ Ls, LtOk L) ∧ LtAt K H r M ∧ LtOk M ∧ (Ls.map key).Nodup ∧ Ls.length ≤ 1000 ∧
  ∀ (as' : List Addr) (H' : Hp), Mods [l] H H' → H' l = some (.lst (as'.map V.ref)) → LsAt K H' as' (putL Ls M) → Q .non H'
theorem sc_put_among : FnScope ["letters", "letter", "place"] ["letters", "letter"] (defScope s_put_among) := ⟨rfl, rfl, rfl, by decide +kernel, rfl, by decide +kernel, by decide +kernel⟩
theorem ok_put_among (F : Site K mg "put_among" s_put_among) (T : Txt K mg t) (D_matter_of : Def P w K mg base 1 "matter_of" ["letter"] (sp_key K)) (D_place_of : Def P w K mg base 2 "place_of" ["letters", "matter"] (sp_place_of K)) : Def P w K mg base 3 "put_among" ["letters", "letter"] (sp_put_among K) := by
  refine F.def sc_put_among (fun _ _ _ _ _ _ us hl => match us, hl with | [_, _], _ => rfl) (fun vs H Q E h => ?_) (fun f cdv A outer s H vs Q E hr h => ?_)
  · obtain ⟨l, r, as, Ls, M, rfl, _⟩ := h
    rfl
  · obtain ⟨l, r, as, Ls, M, rfl, hl, hL, ok, hM, okM, nd, hz, q⟩ := h
    refine ⟨_, pss_cons (ps_set (i := 2) sc_put_among.nd rfl (Or.inl rfl) (pe_def (D_place_of.mono (by decide)) hr passN (pa_cons (pv 0) (pa_cons (pe_def (D_matter_of.mono (by decide)) hr passN (pa_cons (pv 1) pa_nil)) pa_nil))))
      (pss_one (ps_if (pt_cmpR op_isN (pv 2) pe_non (nomark _))
        (pss_one (ps_expr (pe_bmK K PySem.F.plainAttrs_list PySem.F.slot_list_append PySem.F.type_list_append mt_append (pv 0) (pa_cons (pv 1) pa_nil))))
        (pss_one (ps_if (pt_cmpR op_gt (pe_ix (ix_tupK K) (pv 1) pe_int (fun _ _ => rfl)) (pe_ix (ix_tupK K) (pe_ix (ix_listK K) (pv 0) (pv 2) (fun _ _ => rfl)) pe_int (fun _ _ => rfl)) (nomark _))
          (pss_one (ps_asg (pv 1) (pg_sub (pv 0) (pv 2) set_list)))
          (pss_nil))))), ?_⟩
    have hsz : (2000 : Nat) ≤ sizeLine := by decide
    refine ⟨_, rfl, _, rfl, r, M, rfl, hM, okM, fun k H1 s1 hk => ?_⟩
    refine ⟨l, k, as, Ls, M, rfl, s1 _ _ hl, hL.kept (.same s1), ok, hk, fun i L H2 hi e s2 => ?_, fun no H2 s2 => ?_⟩
    · have s := s1.trans s2
      have hlt : i < Ls.length := (List.getElem?_eq_some_iff.mp hi).1
      have hla : i < as.length := by rw [hL.1]; exact hlt
      have ea := List.getElem?_eq_getElem hla
      refine ⟨_, rfl, rfl, _, rfl, iteN (by intro z; cases z) ?_⟩
      obtain ⟨w', a', b', z1, z2⟩ := hM.same s
      obtain ⟨w2, a2, b2, y1, y2⟩ := (hL.2 i _ L ea hi).same s
      refine ⟨_, rfl, r, _, _, _, rfl, rfl, z1, rfl, _, rfl, _, rfl, l, _, _, _, rfl, rfl, s.seq (SqL.of hl), at_ref ea rfl, as[i], _, _, _, rfl, rfl, y1, rfl, _, _, rfl, rfl, _, rfl, ?_⟩
      have ep := putL_at (M := M) nd hi e
      by_cases hc : L.c < M.c
      · refine iteY hc ?_
        refine ⟨_, rfl, _, rfl, _, rfl, l, _, _, i, rfl, rfl, s _ _ hl, by unfold ixN; rw [if_pos (by omega), if_pos (by rw [List.length_map]; omega)]; simp, ?_⟩
        rw [if_pos hc] at ep
        have kp : Kept H2 (upd H2 l (.lst ((as.map V.ref).set i (.ref r)))) := (Mods.refl.upd (.inl List.mem_cons_self) : Mods [l] H2 _).kept fun a ha => by rw [List.mem_singleton.mp ha]; exact NT.lst (s _ _ hl)
        refine q (as.set i r) _ ((Mods.same s).upd (.inl List.mem_cons_self)) (by rw [upd_same, List.map_set]) ?_
        rw [ep]
        exact ((hL.kept (.same s)).kept kp).set i ((hM.same s).kept kp)
      · refine iteN hc ?_
        rw [if_neg hc] at ep
        exact q as H2 (Mods.same s) (s _ _ hl) (by rw [ep]; exact hL.kept (.same s))
    · have s := s1.trans s2
      refine ⟨_, rfl, rfl, _, rfl, iteY rfl ?_⟩
      refine ⟨_, rfl, .inl ⟨rfl, _, SqL.of (s _ _ hl)⟩, _, rfl, l, _, _, rfl, rfl, s _ _ hl, by rw [List.length_map, hL.1]; omega, ?_⟩
      have kp : Kept H2 (upd H2 l (.lst (as.map V.ref ++ [.ref r]))) := (Mods.refl.upd (.inl List.mem_cons_self) : Mods [l] H2 _).kept fun a ha => by rw [List.mem_singleton.mp ha]; exact NT.lst (s _ _ hl)
      refine q (as ++ [r]) _ ((Mods.same s).upd (.inl List.mem_cons_self)) (by rw [upd_same, List.map_append]; rfl) ?_
      rw [putL_no no]
      exact ((hL.kept (.same s)).kept kp).app (LsAt.one ((hM.same s).kept kp))
end
end K43
namespace K43
open PySem L2 PyProof.Rows
section
variable {P : Program} {w : World} {K : PySem.W.Frag} {mg : Str → Option Value} {base : Heap} {t : Ad}
/-! how the queue stands -/
structure Qs where
  h : List Ltr
  u : List Ltr
  b : Option Ltr
  p : List (List Int)
structure QOk (q : Qs) (n : Nat) : Prop where
  h : ∀ L ∈ q.h, LtOk L
  u : ∀ L ∈ q.u, LtOk L
  kh : (q.h.map key).Nodup
  ku : (q.u.map key).Nodup
  lh : q.h.length ≤ n
  lu : q.u.length ≤ n
  b : (q.p = [] ∧ q.b = none) ∨ (q.p ≠ [] ∧ ∃ L, q.b = some L ∧ LtOk L)
  lp : ∀ r ∈ q.p, r.length ≤ 10
def fdQ (b : V) (pA hA uA : Addr) : List (Str × V) := [("begun", b), ("pieces", .ref pA), ("hurried", .ref hA), ("unhurried", .ref uA)]
inductive QAt (K : PySem.W.Frag) (C : Addr) (H : Hp) : Addr → List Addr → Qs → Prop
  | mk {x dx pA hA uA : Addr} {b : V} {ps hs us : List Addr} {q : Qs} (ex : H x = some (.ins C dx (fdQ b pA hA uA))) (ep : H pA = some (.lst (ps.map V.ref))) (eh : H hA = some (.lst (hs.map V.ref))) (eu : H uA = some (.lst (us.map V.ref)))
    (rp : RowsAt H ps q.p) (lh : LsAt K H hs q.h) (lu : LsAt K H us q.u) (eb : ∀ L, q.b = some L → ∃ r, b = .ref r ∧ LtAt K H r L) (nd : (x :: pA :: hA :: uA :: ps).Nodup) : QAt K C H x (x :: pA :: hA :: uA :: ps) q
theorem QAt.out {K : PySem.W.Frag} {C x : Addr} {H : Hp} {own : List Addr} {q : Qs} (h : QAt K C H x own q) : ∃ (dx pA hA uA : Addr) (b : V) (ps hs us : List Addr), own = x :: pA :: hA :: uA :: ps ∧ H x = some (.ins C dx (fdQ b pA hA uA)) ∧ H pA = some (.lst (ps.map V.ref)) ∧ H hA = some (.lst (hs.map V.ref)) ∧ H uA = some (.lst (us.map V.ref)) ∧
    RowsAt H ps q.p ∧ LsAt K H hs q.h ∧ LsAt K H us q.u ∧ (∀ L, q.b = some L → ∃ r, b = .ref r ∧ LtAt K H r L) ∧ (x :: pA :: hA :: uA :: ps).Nodup := by
  cases h with
  | mk ex ep eh eu rp lh lu eb nd => exact ⟨_, _, _, _, _, _, _, _, rfl, ex, ep, eh, eu, rp, lh, lu, eb, nd⟩
theorem QAt.nt {K : PySem.W.Frag} {C x : Addr} {H : Hp} {own : List Addr} {q : Qs} (h : QAt K C H x own q) : ∀ a ∈ own, NT H a ∧ ∃ o, H a = some o := by
  obtain ⟨ex, ep, eh, eu, rp, -, -, -, -⟩ := h
  intro a ha
  simp only [List.mem_cons] at ha
  rcases ha with rfl | rfl | rfl | rfl | ha
  · exact ⟨.ins ex, _, ex⟩
  · exact ⟨.lst ep, _, ep⟩
  · exact ⟨.lst eh, _, eh⟩
  · exact ⟨.lst eu, _, eu⟩
  · obtain ⟨i, hi, e⟩ := List.getElem_of_mem ha
    have hi' : i < q.p.length := by rw [← rp.1]; exact hi
    have := rp.2 i a _ (by rw [← e]; exact List.getElem?_eq_getElem hi) (List.getElem?_eq_getElem hi')
    exact ⟨.lst this, _, this⟩
theorem QAt.mods {K : PySem.W.Frag} {C x : Addr} {H H' : Hp} {own S : List Addr} {q : Qs} (h : QAt K C H x own q) (m : Mods S H H') (k : Kept H H') (n : ∀ a ∈ own, a ∉ S) : QAt K C H' x own q := by
  obtain ⟨ex, ep, eh, eu, rp, lh, lu, eb, nd⟩ := h
  exact ⟨m _ _ (n _ (by simp)) ex, m _ _ (n _ (by simp)) ep, m _ _ (n _ (by simp)) eh, m _ _ (n _ (by simp)) eu, rp.mods m fun a ha => n a (by simp [ha]), lh.kept k, lu.kept k, fun L e => let ⟨r, e1, e2⟩ := eb L e; ⟨r, e1, e2.kept k⟩, nd⟩
theorem QAt.same {K : PySem.W.Frag} {C x : Addr} {H H' : Hp} {own : List Addr} {q : Qs} (h : QAt K C H x own q) (s : Same H H') : QAt K C H' x own q := h.mods (S := []) (Mods.same s) (.same s) fun _ _ => List.not_mem_nil
theorem QAt.kept {K : PySem.W.Frag} {C x : Addr} {H H' : Hp} {own : List Addr} {q : Qs} (h : QAt K C H x own q) (m : Mods own H H') : Kept H H' := m.kept fun a ha => (h.nt a ha).1
def Grw (own own' : List Addr) (H : Hp) : Prop := ∀ a ∈ own', a ∈ own ∨ H a = none
def q0 : Qs := ⟨[], [], none, []⟩
theorem q0_ok (n : Nat) : QOk q0 n := ⟨fun _ h => (by simp [q0] at h), fun _ h => (by simp [q0] at h), by simp [q0], by simp [q0], Nat.zero_le _, Nat.zero_le _, .inl ⟨rfl, rfl⟩, fun r h => (by simp [q0] at h)⟩
def putQ (q : Qs) (M : Ltr) : Qs := if M.kind = "news" then { q with h := putL q.h M } else { q with u := putL q.u M }
theorem putQ_ok {q : Qs} {n : Nat} {M : Ltr} (ok : QOk q n) (m : LtOk M) : QOk (putQ q M) (n + 1) := by
  obtain ⟨h, u, kh, ku, lh, lu, b, lp⟩ := ok
  unfold putQ
  split
  · exact ⟨fun L hL => (putL_mem hL).elim (h L) fun e => e ▸ m, u, putL_keys kh, ku, Nat.le_trans (putL_len _ _) (by show q.h.length + 1 ≤ _; omega), by show q.u.length ≤ _; omega, b, lp⟩
  · exact ⟨h, fun L hL => (putL_mem hL).elim (u L) fun e => e ▸ m, kh, putL_keys ku, by show q.h.length ≤ _; omega, Nat.le_trans (putL_len _ _) (by show q.u.length + 1 ≤ _; omega), b, lp⟩
def bgn (q : Qs) : Qs := match q.h, q.u with
  | L :: h, u => ⟨h, u, some L, pcsOf (lsg L)⟩
  | [], L :: u => ⟨[], u, some L, pcsOf (lsg L)⟩
  | [], [] => q
noncomputable def bg (q : Qs) : Qs := if q.p = [] then bgn q else q
theorem pcs_ne (L : Ltr) : pcsOf (lsg L) ≠ [] := fun z => by
  have := congrArg List.length z
  rw [pcsOf_len, lsg_len] at this
  unfold pcN at this
  simp at this
  omega
theorem pcs_10 (L : Ltr) : ∀ r ∈ pcsOf (lsg L), r.length ≤ 10 := fun r hr' => by
  unfold pcsOf at hr'
  obtain ⟨i, _, rfl⟩ := List.mem_map.mp hr'
  unfold pcAt
  rw [List.length_cons, List.length_take]
  omega
theorem bgn_ok {q : Qs} {n : Nat} (ok : QOk q n) : QOk (bgn q) n := by
  obtain ⟨h, u, b, p⟩ := q
  obtain ⟨h1, h2, kh, ku, lh, lu, hb, lp⟩ := ok
  match h, u with
  | L :: h, u => exact ⟨fun M hM => h1 M (List.mem_cons_of_mem _ hM), h2, (List.nodup_cons.mp kh).2, ku, Nat.le_trans (Nat.le_succ _) lh, lu, .inr ⟨pcs_ne L, L, rfl, h1 L List.mem_cons_self⟩, pcs_10 L⟩
  | [], L :: u => exact ⟨h1, fun M hM => h2 M (List.mem_cons_of_mem _ hM), kh, (List.nodup_cons.mp ku).2, lh, Nat.le_trans (Nat.le_succ _) lu, .inr ⟨pcs_ne L, L, rfl, h2 L List.mem_cons_self⟩, pcs_10 L⟩
  | [], [] => exact ⟨h1, h2, kh, ku, lh, lu, hb, lp⟩
theorem bg_ok {q : Qs} {n : Nat} (ok : QOk q n) : QOk (bg q) n := by
  unfold bg
  split
  · exact bgn_ok ok
  · exact ok
noncomputable def popQ (q : Qs) : Qs := ⟨q.h, q.u, if q.p.tail = [] then none else q.b, q.p.tail⟩
theorem popQ_ok {q : Qs} {n : Nat} (ok : QOk q n) : QOk (popQ q) n := by
  obtain ⟨h1, h2, kh, ku, lh, lu, hb, lp⟩ := ok
  refine ⟨h1, h2, kh, ku, lh, lu, ?_, fun r h => lp r (List.mem_of_mem_tail h)⟩
  by_cases e : q.p.tail = []
  · exact .inl ⟨e, by show (if q.p.tail = [] then none else q.b) = none; rw [if_pos e]⟩
  · rcases hb with hb | ⟨hp, L, hL, ok⟩
    · rw [hb.1] at e; exact absurd rfl e
    · exact .inr ⟨e, L, by show (if q.p.tail = [] then none else q.b) = _; rw [if_neg e]; exact hL, ok⟩
def wts (q : Qs) : List Ltr := q.b.toList ++ q.h ++ q.u
/-! make_empty, __init__ -/
theorem put_fd {fs : List (Str × V)} (h : fs = [] ∨ ∃ b p c d, fs = fdQ b p c d) (p c d : Addr) : putF "unhurried" (.ref d) (putF "hurried" (.ref c) (putF "pieces" (.ref p) (putF "begun" .non fs))) = fdQ .non p c d := by
  rcases h with rfl | ⟨b, p', c', d', rfl⟩ <;> rfl
theorem fd_len {fs : List (Str × V)} (h : fs = [] ∨ ∃ b p c d, fs = fdQ b p c d) : fs.length ≤ 4 := by
  rcases h with rfl | ⟨b, p', c', d', rfl⟩
  · exact Nat.zero_le _
  · exact Nat.le_refl 4
theorem putF_len (f : Str) (v : V) (fs : List (Str × V)) : (putF f v fs).length ≤ fs.length + 1 := by
  induction fs with
  | nil => exact Nat.le_refl _
  | cons a t ih =>
    obtain ⟨k, z⟩ := a
    unfold putF
    split
    · exact Nat.le_succ _
    · exact Nat.succ_le_succ ih
def sp_make_empty (K : PySem.W.Frag) (C : Addr) : Sp := fun vs H Q _ => ∃ (x dx : Addr) (fs : List (Str × V)), vs = [.ref x] ∧ H x = some (.ins C dx fs) ∧ (fs = [] ∨ ∃ b p c d, fs = fdQ b p c d) ∧
  ∀ (own : List Addr) (H' : Hp), Mods [x] H H' → Grw [x] own H → QAt K C H' x own q0 → Q .non H'
theorem sc_make_empty : FnScope ["self"] ["self"] (defScope s_make_empty) := ⟨rfl, rfl, rfl, by decide +kernel, rfl, by decide +kernel, by decide +kernel⟩
theorem ok_make_empty {fd : FuncData} (T : Txt K mg t) (F : Fun K "make_empty" "Queue.make_empty" s_make_empty t.m_make_empty fd) : FnOk P w K mg base (CX1 P w) 1 t.m_make_empty fd ["self"] (sp_make_empty K t.Queue) ∧ Binds K fd ["self"] [] := by
  refine ⟨F.ok1q sc_make_empty (fun vs H Q E h => ?_) (fun f cdv A outer s H vs Q E hr h => ?_), F.binds fun _ _ _ _ _ _ us hl => match us, hl with | [_], _ => rfl⟩
  · obtain ⟨x, dx, fs, rfl, _⟩ := h
    rfl
  · obtain ⟨x, dx, fs, rfl, hx, hf, q⟩ := h
    refine ⟨_, pss_cons (ps_fldK K (pv 0) pe_non (by rfl))
      (pss_cons (ps_fldK K (pv 0) (pe_lst pa_nil) (by rfl))
      (pss_cons (ps_fldK K (pv 0) (pe_lst pa_nil) (by rfl))
      (pss_one (ps_fldK K (pv 0) (pe_lst pa_nil) (by rfl))))), ?_⟩
    have l0 := fd_len hf
    have l1 := putF_len "begun" .non fs
    refine ⟨_, rfl, x, t.Queue, dx, fs, rfl, hx, T.cQueue, T.na_begun, by omega, ?_⟩
    have m1 : Mods [x] H (upd H x (.ins t.Queue dx (putF "begun" .non fs))) := Mods.refl.upd (.inl List.mem_cons_self)
    have x1 : (upd H x (.ins t.Queue dx (putF "begun" .non fs))) x = _ := upd_same
    generalize upd H x (.ins t.Queue dx (putF "begun" .non fs)) = H1 at m1 x1 ⊢
    refine ⟨by show 0 ≤ sizeLine; decide, fun p hp => ⟨_, rfl, x, t.Queue, dx, _, rfl, by rw [upd_ne (ne_of_none x1 hp)]; exact x1, T.cQueue, T.na_pieces, by omega, ?_⟩⟩
    have l2 := putF_len "pieces" (.ref p) (putF "begun" .non fs)
    have nx : ∀ {a : Addr} {o : HO}, H a = some o → a ∈ [x] → a = x := fun _ z => List.mem_singleton.mp z
    have fp : H p = none := m1.free hp (fun z => by rw [List.mem_singleton.mp z] at hp; rw [x1] at hp; cases hp)
    have npx : x ≠ p := ne_of_none x1 hp
    have m2 : Mods [x] H (upd (upd H1 p (.lst [])) x (.ins t.Queue dx (putF "pieces" (.ref p) (putF "begun" .non fs)))) := (m1.upd (.inr fp)).upd (.inl List.mem_cons_self)
    have x2 : (upd (upd H1 p (.lst [])) x (.ins t.Queue dx (putF "pieces" (.ref p) (putF "begun" .non fs)))) x = _ := upd_same
    have p2 : (upd (upd H1 p (.lst [])) x (.ins t.Queue dx (putF "pieces" (.ref p) (putF "begun" .non fs)))) p = some (.lst []) := by rw [upd_ne npx.symm]; exact upd_same
    generalize upd (upd H1 p (.lst [])) x (.ins t.Queue dx (putF "pieces" (.ref p) (putF "begun" .non fs))) = H2 at m2 x2 p2 ⊢
    refine ⟨by show 0 ≤ sizeLine; decide, fun c hc => ⟨_, rfl, x, t.Queue, dx, _, rfl, by rw [upd_ne (ne_of_none x2 hc)]; exact x2, T.cQueue, T.na_hurried, by omega, ?_⟩⟩
    have l3 := putF_len "hurried" (.ref c) (putF "pieces" (.ref p) (putF "begun" .non fs))
    have ncx : x ≠ c := ne_of_none x2 hc
    have ncp : p ≠ c := ne_of_none p2 hc
    have fc : H c = none := m2.free hc (fun z => ncx (List.mem_singleton.mp z).symm)
    have m3 : Mods [x] H (upd (upd H2 c (.lst [])) x (.ins t.Queue dx (putF "hurried" (.ref c) (putF "pieces" (.ref p) (putF "begun" .non fs))))) := (m2.upd (.inr fc)).upd (.inl List.mem_cons_self)
    have x3 : (upd (upd H2 c (.lst [])) x (.ins t.Queue dx (putF "hurried" (.ref c) (putF "pieces" (.ref p) (putF "begun" .non fs))))) x = _ := upd_same
    have c3 : (upd (upd H2 c (.lst [])) x (.ins t.Queue dx (putF "hurried" (.ref c) (putF "pieces" (.ref p) (putF "begun" .non fs))))) c = some (.lst []) := by rw [upd_ne ncx.symm]; exact upd_same
    have p3 : (upd (upd H2 c (.lst [])) x (.ins t.Queue dx (putF "hurried" (.ref c) (putF "pieces" (.ref p) (putF "begun" .non fs))))) p = some (.lst []) := by rw [upd_ne npx.symm, upd_ne ncp]; exact p2
    generalize upd (upd H2 c (.lst [])) x (.ins t.Queue dx (putF "hurried" (.ref c) (putF "pieces" (.ref p) (putF "begun" .non fs)))) = H3 at m3 x3 c3 p3 ⊢
    refine ⟨by show 0 ≤ sizeLine; decide, fun d hd => ⟨_, rfl, x, t.Queue, dx, _, rfl, by rw [upd_ne (ne_of_none x3 hd)]; exact x3, T.cQueue, T.na_unhurried, by omega, ?_⟩⟩
    have ndx : x ≠ d := ne_of_none x3 hd
    have ndp : p ≠ d := ne_of_none p3 hd
    have ndc : c ≠ d := ne_of_none c3 hd
    have fd' : H d = none := m3.free hd (fun z => ndx (List.mem_singleton.mp z).symm)
    rw [put_fd hf]
    refine q [x, p, c, d] _ ((m3.upd (.inr fd')).upd (.inl List.mem_cons_self)) ?_ ?_
    · intro a ha
      simp only [List.mem_cons, List.not_mem_nil, or_false] at ha
      rcases ha with rfl | rfl | rfl | rfl
      · exact .inl List.mem_cons_self
      · exact .inr fp
      · exact .inr fc
      · exact .inr fd'
    · refine .mk (ps := []) (hs := []) (us := []) upd_same (by rw [upd_ne npx.symm, upd_ne ndp]; exact p3) (by rw [upd_ne ncx.symm, upd_ne ndc]; exact c3) (by rw [upd_ne ndx.symm]; exact upd_same) RowsAt.nil LsAt.nil LsAt.nil (fun L e => by cases e) ?_
      simp only [List.nodup_cons, List.mem_cons, List.not_mem_nil, or_false, not_or, not_false_eq_true, List.nodup_nil, and_true]
      exact ⟨⟨npx, ncx, ndx⟩, ⟨ncp, ndp⟩, ndc⟩
def sp_init_Queue (K : PySem.W.Frag) (C : Addr) : Sp := fun vs H Q _ => ∃ (x dx : Addr), vs = [.ref x] ∧ H x = some (.ins C dx []) ∧ ∀ (own : List Addr) (H' : Hp), Mods [x] H H' → Grw [x] own H → QAt K C H' x own q0 → Q .non H'
theorem sc_init_Queue : FnScope ["self"] ["self"] (defScope s_init_Queue) := ⟨rfl, rfl, rfl, by decide +kernel, rfl, by decide +kernel, by decide +kernel⟩
theorem ok_init_Queue {fd fm : FuncData} (T : Txt K mg t) (F : Fun K "__init__" "Queue.__init__" s_init_Queue t.init_Queue fd) (F_make_empty : FnOk P w K mg base (CX1 P w) 1 t.m_make_empty fm ["self"] (sp_make_empty K t.Queue)) (B_make_empty : Binds K fm ["self"] []) :
    FnOk P w K mg base (CX1 P w) 2 t.init_Queue fd ["self"] (sp_init_Queue K t.Queue) ∧ Binds K fd ["self"] [] := by
  refine ⟨F.ok1q sc_init_Queue (fun vs H Q E h => ?_) (fun f cdv A outer s H vs Q E hr h => ?_), F.binds fun _ _ _ _ _ _ us hl => match us, hl with | [_], _ => rfl⟩
  · obtain ⟨x, dx, rfl, _⟩ := h
    rfl
  · obtain ⟨x, dx, rfl, hx, q⟩ := h
    refine ⟨_, pss_one (ps_expr (pe_meth0 (pv 0) T.cQueue T.me_make_empty (F_make_empty.mono (by decide)) hr B_make_empty .nil passN)), ?_⟩
    exact ⟨_, rfl, x, dx, _, rfl, hx, rfl, x, dx, _, rfl, hx, .inl rfl, q⟩
end
end K43
namespace K43
open PySem L2 PyProof.Rows
section
variable {P : Program} {w : World} {K : PySem.W.Frag} {mg : Str → Option Value} {base : Heap} {t : Ad}
/-! put -/
def sp_put (K : PySem.W.Frag) (C : Addr) : Sp := fun vs H Q _ => ∃ (x r : Addr) (own : List Addr) (q : Qs) (M : Ltr), vs = [.ref x, .ref r] ∧ QAt K C H x own q ∧ QOk q 1000 ∧ LtAt K H r M ∧ LtOk M ∧ ∀ H', Mods own H H' → QAt K C H' x own (putQ q M) → Q .non H'
theorem sc_put : FnScope ["self", "letter"] ["self", "letter"] (defScope s_put) := ⟨rfl, rfl, rfl, by decide +kernel, rfl, by decide +kernel, by decide +kernel⟩
theorem ok_put {fd : FuncData} (T : Txt K mg t) (F : Fun K "put" "Queue.put" s_put t.m_put fd) (D_put_among : Def P w K mg base 3 "put_among" ["letters", "letter"] (sp_put_among K)) : FnOk P w K mg base (CX1 P w) 4 t.m_put fd ["self", "letter"] (sp_put K t.Queue) ∧ Binds K fd ["self", "letter"] [] := by
  refine ⟨F.ok1q sc_put (fun vs H Q E h => ?_) (fun f cdv A outer s H vs Q E hr h => ?_), F.binds fun _ _ _ _ _ _ us hl => match us, hl with | [_, _], _ => rfl⟩
  · obtain ⟨x, r, own, q, M, rfl, _⟩ := h
    rfl
  · obtain ⟨x, r, own, q, M, rfl, hq, ok, hM, okM, k⟩ := h
    refine ⟨_, pss_one (ps_expr (pe_def (D_put_among.mono (by decide)) hr passN (pa_cons (pe_ifExp (pt_cmpR op_eq (pe_ix (ix_tupK K) (pv 1) pe_int (fun _ _ => rfl)) pe_str (nomark _)) (pe_fldK K (pv 0) (by rfl)) (pe_fldK K (pv 0) (by rfl))) (pa_cons (pv 1) pa_nil)))), ?_⟩
    have hq' := hq
    obtain ⟨dx, pA, hA, uA, b, ps, hs, us, rfl, ex, ep, eh, eu, rp, lh, lu, eb, nd⟩ := hq.out
    have hM' := hM
    obtain ⟨w', a', b', z1, z2⟩ := hM
    have nd' := nd
    simp only [List.nodup_cons, List.mem_cons, not_or] at nd'
    obtain ⟨⟨n1, n2, n3, n4⟩, ⟨n5, n6, n7⟩, ⟨n8, n9⟩, n10, n11⟩ := nd'
    refine ⟨_, rfl, r, _, _, _, rfl, rfl, z1, rfl, rfl, _, rfl, ?_⟩
    by_cases hk : M.kind = "news"
    · refine iteY (by rw [hk]) ?_
      refine ⟨_, rfl, x, t.Queue, dx, _, _, rfl, ex, T.cQueue, T.na_hurried, rfl, _, rfl, ?_⟩
      refine ⟨hA, r, hs, q.h, M, rfl, eh, lh, ok.h, hM', okM, ok.kh, ok.lh, fun as' H' m e la => ?_⟩
      have kp : Kept H H' := m.kept fun a ha => by rw [List.mem_singleton.mp ha]; exact NT.lst eh
      refine k H' (m.up fun a ha => by rw [List.mem_singleton.mp ha]; simp) ?_
      have e1 : putQ q M = { q with h := putL q.h M } := by unfold putQ; rw [if_pos hk]
      rw [e1]
      exact .mk (m _ _ (by simpa using n2) ex) (m _ _ (by simpa using n5) ep) e (m _ _ (by simpa using (Ne.symm n8)) eu) (rp.mods m fun a ha z => n9 (by rw [List.mem_singleton.mp z] at ha; exact ha)) la (lu.kept kp) (fun L e => let ⟨r, e1, e2⟩ := eb L e; ⟨r, e1, e2.kept kp⟩) nd
    · refine iteN (fun z => hk (V.str.inj z)) ?_
      refine ⟨_, rfl, x, t.Queue, dx, _, _, rfl, ex, T.cQueue, T.na_unhurried, rfl, _, rfl, ?_⟩
      refine ⟨uA, r, us, q.u, M, rfl, eu, lu, ok.u, hM', okM, ok.ku, ok.lu, fun as' H' m e la => ?_⟩
      have kp : Kept H H' := m.kept fun a ha => by rw [List.mem_singleton.mp ha]; exact NT.lst eu
      refine k H' (m.up fun a ha => by rw [List.mem_singleton.mp ha]; simp) ?_
      have e1 : putQ q M = { q with u := putL q.u M } := by unfold putQ; rw [if_neg hk]
      rw [e1]
      exact .mk (m _ _ (by simpa using n3) ex) (m _ _ (by simpa using n6) ep) (m _ _ (by simpa using n8) eh) e (rp.mods m fun a ha z => n10 (by rw [List.mem_singleton.mp z] at ha; exact ha)) (lh.kept kp) la (fun L e => let ⟨r, e1, e2⟩ := eb L e; ⟨r, e1, e2.kept kp⟩) nd
/-! begin_next -/
def sp_begin_next (K : PySem.W.Frag) (C : Addr) : Sp := fun vs H Q _ => ∃ (x : Addr) (own : List Addr) (q : Qs), vs = [.ref x] ∧ QAt K C H x own q ∧ QOk q 1000 ∧ q.p = [] ∧ ∀ own' H', Mods own H H' → Grw own own' H → QAt K C H' x own' (bgn q) → Q .non H'
theorem ix0 (r : Addr) (as : List Addr) : seqIndex? 0 ((r :: as).map V.ref).length = some 0 := by rw [List.map_cons, List.length_cons]; unfold seqIndex?; simp
theorem sc_begin_next : FnScope ["self", "letters"] ["self"] (defScope s_begin_next) := ⟨rfl, rfl, rfl, by decide +kernel, rfl, by decide +kernel, by decide +kernel⟩
theorem ok_begin_next {fd : FuncData} (T : Txt K mg t) (F : Fun K "begin_next" "Queue.begin_next" s_begin_next t.m_begin_next fd) (D_letter_signs : Def P w K mg base 2 "letter_signs" ["letter"] (sp_letter_signs K)) (D_pieces_of : Def P w K mg base 1 "pieces_of" ["signs"] (sp_pieces_of K)) :
    FnOk P w K mg base (CX1 P w) 4 t.m_begin_next fd ["self"] (sp_begin_next K t.Queue) ∧ Binds K fd ["self"] [] := by
  refine ⟨F.ok1q sc_begin_next (fun vs H Q E h => ?_) (fun f cdv A outer s H vs Q E hr h => ?_), F.binds fun _ _ _ _ _ _ us hl => match us, hl with | [_], _ => rfl⟩
  · obtain ⟨x, own, q, rfl, _⟩ := h
    rfl
  · obtain ⟨x, own, q, rfl, hq, ok, hp, k⟩ := h
    refine ⟨_, pss_cons (ps_set (i := 1) sc_begin_next.nd rfl (Or.inl rfl) (pe_ifExp (pt_truth (pe_fldK K (pv 0) (by rfl)) (fun _ => rfl)) (pe_fldK K (pv 0) (by rfl)) (pe_fldK K (pv 0) (by rfl))))
      (pss_one (ps_if (pt_truth (pv 1) (fun _ => rfl))
        (pss_cons (ps_fldK K (pv 0) (pe_bmK K PySem.F.plainAttrs_list PySem.F.slot_list_pop PySem.F.type_list_pop mt_popAt (pv 1) (pa_cons pe_int pa_nil)) (by rfl))
        (pss_one (ps_fldK K (pv 0) (pe_def (D_pieces_of.mono (by decide)) hr passN (pa_cons (pe_def (D_letter_signs.mono (by decide)) hr (pass1 cx1_body) (pa_cons (pe_fldK K (pv 0) (by rfl)) pa_nil)) pa_nil)) (by rfl))))
        (pss_nil))), ?_⟩
    have hq' := hq
    obtain ⟨dx, pA, hA, uA, b, ps, hs, us, rfl, ex, ep, eh, eu, rp, lh, lu, eb, nd⟩ := hq.out
    have nd' := nd
    simp only [List.nodup_cons, List.mem_cons, not_or] at nd'
    obtain ⟨⟨n1, n2, n3, n4⟩, ⟨n5, n6, n7⟩, ⟨n8, n9⟩, n10, n11⟩ := nd'
    -- a letter is taken, and its pieces
    have fin : ∀ (r : Addr) (L : Ltr) (hs' us' : List Addr) (h' u' : List Ltr) (H1 : Hp), bgn q = ⟨h', u', some L, pcsOf (lsg L)⟩ → LtOk L → LtAt K H r L → LsAt K H hs' h' → LsAt K H us' u' → Mods [hA, uA] H H1 → H1 hA = some (.lst (hs'.map V.ref)) → H1 uA = some (.lst (us'.map V.ref)) →
        ∀ (H2 : Hp), H2 = upd H1 x (.ins t.Queue dx (fdQ (.ref r) pA hA uA)) → ∀ (p : Addr) (H3 : Hp), Same H2 H3 → ∀ (pp : Addr) (as : List Addr) (H4 : Hp), H3 pp = none → (∀ a ∈ as, H3 a = none) → (pp :: as).Nodup → Same H3 H4 → H4 pp = some (.lst (as.map V.ref)) → RowsAt H4 as (pcsOf (lsg L)) →
        Q .non (upd H4 x (.ins t.Queue dx (fdQ (.ref r) pp hA uA))) := by
      rintro r L hs' us' h' u' H1 eq okL lr lh' lu' m1 e1 e2 H2 rfl p H3 s3 pp as H4 fpp fas ndp s4 e4 rp4
      have m2 : Mods [x, hA, uA] H (upd H1 x (.ins t.Queue dx (fdQ (.ref r) pA hA uA))) := (m1.up (fun a ha => List.mem_cons_of_mem _ ha)).upd (.inl List.mem_cons_self)
      have m4 : Mods [x, hA, uA] H H4 := (m2.trans (Mods.same s3)).trans (Mods.same s4)
      have s34 := s3.trans s4
      have x2 : (upd H1 x (.ins t.Queue dx (fdQ (.ref r) pA hA uA))) x = _ := upd_same
      have h2 : (upd H1 x (.ins t.Queue dx (fdQ (.ref r) pA hA uA))) hA = some (.lst (hs'.map V.ref)) := by rw [upd_ne (Ne.symm n2)]; exact e1
      have u2 : (upd H1 x (.ins t.Queue dx (fdQ (.ref r) pA hA uA))) uA = some (.lst (us'.map V.ref)) := by rw [upd_ne (Ne.symm n3)]; exact e2
      have ap : ∀ a, H3 a = none → a ≠ x ∧ a ≠ hA ∧ a ≠ uA ∧ H a = none := fun a fa => by
        have g1 := ne_of_none (s3 _ _ x2) fa
        have g2 := ne_of_none (s3 _ _ h2) fa
        have g3 := ne_of_none (s3 _ _ u2) fa
        exact ⟨g1.symm, g2.symm, g3.symm, (m2.trans (Mods.same s3)).free fa (by simp only [List.mem_cons, List.not_mem_nil, or_false, not_or]; exact ⟨g1.symm, g2.symm, g3.symm⟩)⟩
      obtain ⟨p1, p2, p3, p4⟩ := ap pp fpp
      have kp : Kept H (upd H4 x (.ins t.Queue dx (fdQ (.ref r) pp hA uA))) := (m4.upd (.inl List.mem_cons_self)).kept fun a ha => (hq'.nt a (by simp only [List.mem_cons, List.not_mem_nil, or_false] at ha ⊢; rcases ha with h | h | h <;> simp [h])).1
      refine k (x :: pp :: hA :: uA :: as) _ ((m4.upd (.inl List.mem_cons_self)).up fun a ha => by simp only [List.mem_cons, List.not_mem_nil, or_false] at ha ⊢; rcases ha with h | h | h <;> simp [h]) ?_ ?_
      · intro a ha
        simp only [List.mem_cons] at ha
        rcases ha with rfl | rfl | rfl | rfl | ha
        · exact .inl (by simp)
        · exact .inr p4
        · exact .inl (by simp)
        · exact .inl (by simp)
        · exact .inr (ap a (fas a ha)).2.2.2
      · rw [eq]
        refine .mk upd_same (by rw [upd_ne p1]; exact e4) (by rw [upd_ne (Ne.symm n2)]; exact s34 _ _ h2) (by rw [upd_ne (Ne.symm n3)]; exact s34 _ _ u2) (rp4.mods (S := [x]) (Mods.refl.upd (.inl List.mem_cons_self)) fun a ha z => (ap a (fas a ha)).1 (List.mem_singleton.mp z)) (lh'.kept kp) (lu'.kept kp) (fun M e => ⟨r, rfl, by cases e; exact lr.kept kp⟩) ?_
        obtain ⟨g1, g2⟩ := List.nodup_cons.mp ndp
        simp only [List.nodup_cons, List.mem_cons, not_or]
        exact ⟨⟨p1.symm, n2, n3, fun z => (ap x (fas x z)).1 rfl⟩, ⟨p2, p3, g1⟩, ⟨n8, fun z => (ap hA (fas hA z)).2.1 rfl⟩, fun z => (ap uA (fas uA z)).2.2.1 rfl, g2⟩
    have lsl : ∀ L, LtOk L → (lsg L).length ≤ 1000 := fun L o => by
      rw [lsg_len]
      have := o.way.1.2; have := o.ab.1; have := o.bd.1
      omega
    refine ⟨_, rfl, x, t.Queue, dx, _, _, rfl, ex, T.cQueue, T.na_hurried, rfl, _, .inl ⟨_, SqL.of eh, rfl⟩, ?_⟩
    cases hh : q.h with
    | cons L h' =>
      obtain ⟨r, hs', rfl, lr, lh'⟩ := (hh ▸ lh : LsAt K H hs (L :: h')).un
      refine iteT ⟨_, rfl, x, t.Queue, dx, _, _, rfl, ex, T.cQueue, T.na_hurried, rfl, ?_⟩
      refine ⟨_, rfl, _, .inl ⟨_, SqL.of eh, rfl⟩, iteT ?_⟩
      refine ⟨_, rfl, .inl ⟨rfl, _, SqL.of eh⟩, hA, _, 0, 0, .ref r, rfl, rfl, eh, by decide, by decide, ix0 _ _, rfl, ?_⟩
      have okL := ok.h L (by rw [hh]; exact List.mem_cons_self)
      have m1 : Mods [hA, uA] H (upd H hA (.lst (hs'.map V.ref))) := Mods.refl.upd (.inl List.mem_cons_self)
      have f1 := fin r L hs' us h' q.u _ (by unfold bgn; rw [hh]) okL lr lh' lu m1 upd_same (by rw [upd_ne (Ne.symm n8)]; exact eu) _ rfl
      have kp : Kept H (upd (upd H hA (.lst (hs'.map V.ref))) x (.ins t.Queue dx (fdQ (.ref r) pA hA uA))) := ((m1.up (S' := [x, hA, uA]) fun a ha => List.mem_cons_of_mem _ ha).upd (.inl List.mem_cons_self)).kept fun a ha => (hq'.nt a (by simp only [List.mem_cons, List.not_mem_nil, or_false] at ha ⊢; rcases ha with h | h | h <;> simp [h])).1
      refine ⟨_, rfl, x, t.Queue, dx, _, rfl, by rw [upd_ne n2]; exact ex, T.cQueue, T.na_begun, by show 4 < 1000; decide, ?_⟩
      refine ⟨_, rfl, x, t.Queue, dx, _, _, rfl, upd_same, T.cQueue, T.na_begun, rfl, r, L, rfl, lr.kept kp, okL, fun p H3 fp s3 e3 => ?_⟩
      refine ⟨p, lsg L, rfl, SqL.of e3, lsl L okL, fun pp as H4 fpp fas ndp s4 e4 rp4 => ?_⟩
      refine ⟨_, rfl, x, t.Queue, dx, _, rfl, s4 _ _ (s3 _ _ upd_same), T.cQueue, T.na_pieces, by show 4 < 1000; decide, ?_⟩
      exact f1 p H3 s3 pp as H4 fpp fas ndp s4 e4 rp4
    | nil =>
      have e0 := (hh ▸ lh : LsAt K H hs []).no
      subst e0
      refine iteF ⟨_, rfl, x, t.Queue, dx, _, _, rfl, ex, T.cQueue, T.na_unhurried, rfl, ?_⟩
      refine ⟨_, rfl, _, .inl ⟨_, SqL.of eu, rfl⟩, ?_⟩
      cases hu : q.u with
      | cons L u' =>
        obtain ⟨r, us', rfl, lr, lu'⟩ := (hu ▸ lu : LsAt K H us (L :: u')).un
        refine iteT ?_
        refine ⟨_, rfl, .inl ⟨rfl, _, SqL.of eu⟩, uA, _, 0, 0, .ref r, rfl, rfl, eu, by decide, by decide, ix0 _ _, rfl, ?_⟩
        have okL := ok.u L (by rw [hu]; exact List.mem_cons_self)
        have m1 : Mods [hA, uA] H (upd H uA (.lst (us'.map V.ref))) := Mods.refl.upd (.inl (by simp))
        have f1 := fin r L [] us' [] u' _ (by unfold bgn; rw [hh, hu]) okL lr LsAt.nil lu' m1 (by rw [upd_ne n8]; exact eh) upd_same _ rfl
        have kp : Kept H (upd (upd H uA (.lst (us'.map V.ref))) x (.ins t.Queue dx (fdQ (.ref r) pA hA uA))) := ((m1.up (S' := [x, hA, uA]) fun a ha => List.mem_cons_of_mem _ ha).upd (.inl List.mem_cons_self)).kept fun a ha => (hq'.nt a (by simp only [List.mem_cons, List.not_mem_nil, or_false] at ha ⊢; rcases ha with h | h | h <;> simp [h])).1
        refine ⟨_, rfl, x, t.Queue, dx, _, rfl, by rw [upd_ne n3]; exact ex, T.cQueue, T.na_begun, by show 4 < 1000; decide, ?_⟩
        refine ⟨_, rfl, x, t.Queue, dx, _, _, rfl, upd_same, T.cQueue, T.na_begun, rfl, r, L, rfl, lr.kept kp, okL, fun p H3 fp s3 e3 => ?_⟩
        refine ⟨p, lsg L, rfl, SqL.of e3, lsl L okL, fun pp as H4 fpp fas ndp s4 e4 rp4 => ?_⟩
        refine ⟨_, rfl, x, t.Queue, dx, _, rfl, s4 _ _ (s3 _ _ upd_same), T.cQueue, T.na_pieces, by show 4 < 1000; decide, ?_⟩
        exact f1 p H3 s3 pp as H4 fpp fas ndp s4 e4 rp4
      | nil =>
        have e1 := (hu ▸ lu : LsAt K H us []).no
        subst e1
        refine iteF ?_
        refine k _ H Mods.refl (fun a ha => .inl ha) ?_
        have e2 : bgn q = q := by unfold bgn; rw [hh, hu]
        rw [e2]
        exact hq'
end
end K43
namespace K43
open PySem L2 PyProof.Rows
section
variable {P : Program} {w : World} {K : PySem.W.Frag} {mg : Str → Option Value} {base : Heap} {t : Ad}
theorem RowsAt.un {H : Hp} {as : List Addr} {r : List Int} {t : List (List Int)} (h : RowsAt H as (r :: t)) : ∃ a as', as = a :: as' ∧ H a = Option.some (.lst (r.map V.int)) ∧ RowsAt H as' t := by
  cases as with
  | nil => have := h.1; simp at this
  | cons a as => exact ⟨a, as, rfl, h.2 0 a r rfl rfl, by have := h.1; simpa using this, fun i b s e1 e2 => h.2 (i + 1) b s e1 e2⟩
theorem RowsAt.no {H : Hp} {as : List Addr} (h : RowsAt H as []) : as = [] := List.eq_nil_of_length_eq_zero h.1
theorem Grw.trans {own own1 own2 : List Addr} {H H1 : Hp} (g : Grw own own1 H) (g2 : ∀ a ∈ own2, a ∈ own1) : Grw own own2 H := fun a ha => g a (g2 a ha)
/-! next_piece -/
def NxQ (C : Addr) (K : PySem.W.Frag) (x : Addr) (own : List Addr) (q : Qs) (H : Hp) (Q : V → Hp → Prop) : Prop :=
  ((bg q).p = [] → ∀ own' H', Mods own H H' → Grw own own' H → QAt K C H' x own' (bg q) → Q .non H') ∧
  ∀ (a : Addr) (r : List Int) (t : List (List Int)) own' H', (bg q).p = r :: t → Mods own H H' → Grw own own' H → QAt K C H' x own' (popQ (bg q)) → a ∉ own' → (a ∈ own ∨ H a = none) → H' a = some (.lst (r.map V.int)) → Q (.ref a) H'
def sp_next_piece (K : PySem.W.Frag) (C : Addr) : Sp := fun vs H Q _ => ∃ (x : Addr) (own : List Addr) (q : Qs), vs = [.ref x] ∧ QAt K C H x own q ∧ QOk q 1000 ∧ NxQ C K x own q H Q
theorem sc_next_piece : FnScope ["self"] ["self"] (defScope s_next_piece) := ⟨rfl, rfl, rfl, by decide +kernel, rfl, by decide +kernel, by decide +kernel⟩
theorem ok_next_piece {fd fb : FuncData} (T : Txt K mg t) (F : Fun K "next_piece" "Queue.next_piece" s_next_piece t.m_next_piece fd) (F_begin_next : FnOk P w K mg base (CX1 P w) 4 t.m_begin_next fb ["self"] (sp_begin_next K t.Queue)) (B_begin_next : Binds K fb ["self"] []) :
    FnOk P w K mg base (CX1 P w) 5 t.m_next_piece fd ["self"] (sp_next_piece K t.Queue) ∧ Binds K fd ["self"] [] := by
  refine ⟨F.ok1q sc_next_piece (fun vs H Q E h => ?_) (fun f cdv A outer s H vs Q E hr h => ?_), F.binds fun _ _ _ _ _ _ us hl => match us, hl with | [_], _ => rfl⟩
  · obtain ⟨x, own, q, rfl, _⟩ := h
    rfl
  · obtain ⟨x, own, q, rfl, hq, ok, k1, k2⟩ := h
    refine ⟨_, pss_cons (ps_cut (ps_if (pt_not (pt_truth (pe_fldK K (pv 0) (by rfl)) (fun _ => rfl)))
        (pss_one (ps_expr (pe_meth0 (pv 0) T.cQueue T.me_begin_next (F_begin_next.mono (by decide)) hr B_begin_next .nil passN)))
        (pss_nil)))
      (pss_one (ps_ret (pe_ifExp (pt_truth (pe_fldK K (pv 0) (by rfl)) (fun _ => rfl)) (pe_bmK K PySem.F.plainAttrs_list PySem.F.slot_list_pop PySem.F.type_list_pop mt_popAt (pe_fldK K (pv 0) (by rfl)) (pa_cons pe_int pa_nil)) pe_non))), ?_⟩
    refine ⟨fun σ H1 => σ = [some (.ref x)] ∧ ∃ own1, Mods own H H1 ∧ Grw own own1 H ∧ QAt K t.Queue H1 x own1 (bg q), ?_, ?_⟩
    · have hq' := hq
      obtain ⟨dx, pA, hA, uA, b, ps, hs, us, rfl, ex, ep, eh, eu, rp, lh, lu, eb, nd⟩ := hq.out
      refine ⟨_, rfl, x, t.Queue, dx, _, _, rfl, ex, T.cQueue, T.na_pieces, rfl, _, .inl ⟨_, SqL.of ep, rfl⟩, ?_⟩
      cases hp : q.p with
      | nil =>
        have e0 := (hp ▸ rp : RowsAt H ps []).no
        subst e0
        refine iteT ?_
        refine ⟨_, rfl, x, dx, _, rfl, ex, rfl, x, _, q, rfl, hq', ok, hp, fun own' H' m g hb => ⟨rfl, own', m, g, ?_⟩⟩
        unfold bg; rw [if_pos hp]; exact hb
      | cons r tl =>
        obtain ⟨a, ps', rfl, ea, rp'⟩ := (hp ▸ rp : RowsAt H ps (r :: tl)).un
        refine iteF ⟨rfl, _, Mods.refl, fun a ha => .inl ha, ?_⟩
        unfold bg; rw [if_neg (by rw [hp]; intro z; cases z)]; exact hq'
    · rintro σ H1 ⟨rfl, own1, m, g, hb⟩
      have hb' := hb
      obtain ⟨dx, pA, hA, uA, b, ps, hs, us, rfl, ex, ep, eh, eu, rp, lh, lu, eb, nd⟩ := hb.out
      refine ⟨_, rfl, x, t.Queue, dx, _, _, rfl, ex, T.cQueue, T.na_pieces, rfl, _, .inl ⟨_, SqL.of ep, rfl⟩, ?_⟩
      cases hp : (bg q).p with
      | nil =>
        have e0 := (hp ▸ rp : RowsAt H1 ps []).no
        subst e0
        refine iteF ?_
        exact k1 hp _ H1 m g hb'
      | cons r tl =>
        obtain ⟨a, ps', rfl, ea, rp'⟩ := (hp ▸ rp : RowsAt H1 ps (r :: tl)).un
        refine iteT ?_
        have nd' := nd
        simp only [List.nodup_cons, List.mem_cons, not_or] at nd'
        obtain ⟨⟨n1, n2, n3, n4, n4'⟩, ⟨n5, n6, n7, n7'⟩, ⟨n8, n9, n9'⟩, ⟨n10, n10'⟩, n11, n12⟩ := nd'
        refine ⟨_, rfl, x, t.Queue, dx, _, _, rfl, ex, T.cQueue, T.na_pieces, rfl, .inl ⟨rfl, _, SqL.of ep⟩, pA, _, 0, 0, .ref a, rfl, rfl, ep, by decide, by decide, ix0 _ _, rfl, ?_⟩
        have gp : pA ∈ own ∨ H pA = none := g pA (by simp)
        have m2 : Mods [pA] H1 (upd H1 pA (.lst (ps'.map V.ref))) := Mods.refl.upd (.inl List.mem_cons_self)
        have kp : Kept H1 (upd H1 pA (.lst (ps'.map V.ref))) := m2.kept fun a ha => by rw [List.mem_singleton.mp ha]; exact NT.lst ep
        refine k2 a r tl (x :: pA :: hA :: uA :: ps') _ hp (m.upd gp) (g.trans (H1 := H) fun z hz => by simp only [List.mem_cons] at hz ⊢; rcases hz with h | h | h | h | h <;> simp [h]) ?_ (by simp only [List.mem_cons, not_or]; exact ⟨Ne.symm n4, Ne.symm n7, Ne.symm n9, Ne.symm n10, n11⟩) (g a (by simp)) (by rw [upd_ne (Ne.symm n7)]; exact ea)
        refine .mk (m2 _ _ (by simpa using n1) ex) upd_same (m2 _ _ (by simpa using Ne.symm n5) eh) (m2 _ _ (by simpa using Ne.symm n6) eu) ?_ (lh.kept kp) (lu.kept kp) (fun L e => ?_) ?_
        · show RowsAt _ ps' (bg q).p.tail
          rw [hp]
          exact rp'.mods m2 fun a ha z => n7' (by rw [List.mem_singleton.mp z] at ha; exact ha)
        · have e : (if (bg q).p.tail = [] then none else (bg q).b) = some L := e
          split at e
          · cases e
          · obtain ⟨r', e1, e2⟩ := eb L e
            exact ⟨r', e1, e2.kept kp⟩
        · simp only [List.nodup_cons, List.mem_cons, not_or]
          exact ⟨⟨n1, n2, n3, n4'⟩, ⟨n5, n6, n7'⟩, ⟨n8, n9'⟩, n10', n12⟩
/-! waiting -/
def WtQ (K : PySem.W.Frag) (q : Qs) (H : Hp) (Q : V → Hp → Prop) : Prop := ∀ (p : Addr) (as : List Addr) (H' : Hp), Same H H' → H p = none → H' p = some (.lst (as.map V.ref)) → LsAt K H' as (wts q) → Q (.ref p) H'
def sp_waiting (K : PySem.W.Frag) (C : Addr) : Sp := fun vs H Q _ => ∃ (x : Addr) (own : List Addr) (q : Qs), vs = [.ref x] ∧ QAt K C H x own q ∧ QOk q 1000 ∧ WtQ K q H Q
theorem sc_waiting : FnScope ["self", "begun"] ["self"] (defScope s_waiting) := ⟨rfl, rfl, rfl, by decide +kernel, rfl, by decide +kernel, by decide +kernel⟩
theorem ok_waiting {fd : FuncData} (T : Txt K mg t) (F : Fun K "waiting" "Queue.waiting" s_waiting t.m_waiting fd) : FnOk P w K mg base (CX1 P w) 1 t.m_waiting fd ["self"] (sp_waiting K t.Queue) ∧ Binds K fd ["self"] [] := by
  refine ⟨F.ok1q sc_waiting (fun vs H Q E h => ?_) (fun f cdv A outer s H vs Q E hr h => ?_), F.binds fun _ _ _ _ _ _ us hl => match us, hl with | [_], _ => rfl⟩
  · obtain ⟨x, own, q, rfl, _⟩ := h
    rfl
  · obtain ⟨x, own, q, rfl, hq, ok, k⟩ := h
    refine ⟨_, pss_cons (ps_set (i := 1) sc_waiting.nd rfl (Or.inl rfl) (pe_ifExp (pt_truth (pe_fldK K (pv 0) (by rfl)) (fun _ => rfl)) (pe_lst (pa_cons (pe_fldK K (pv 0) (by rfl)) pa_nil)) (pe_lst pa_nil)))
      (pss_one (ps_ret (pe_op (op_catK K) (pe_op (op_catK K) (pv 1) (pe_fldK K (pv 0) (by rfl))) (pe_fldK K (pv 0) (by rfl))))), ?_⟩
    have hsz : (3000 : Nat) ≤ sizeLine := by decide
    obtain ⟨dx, pA, hA, uA, b, ps, hs, us, rfl, ex, ep, eh, eu, rp, lh, lu, eb, nd⟩ := hq.out
    have ll := ok.lh
    have lu' := ok.lu
    have l1 := lh.1
    have l2 := lu.1
    have fin : ∀ (bs : List Addr), LsAt K H bs q.b.toList → bs.length ≤ 1 → ∀ p0 : Addr, H p0 = none → ∀ H1, H1 = upd H p0 (.lst (bs.map V.ref)) → ∀ p1, H1 p1 = none → ∀ H2, H2 = upd H1 p1 (.lst (bs.map V.ref ++ hs.map V.ref)) → ∀ p2, H2 p2 = none → Q (.ref p2) (upd H2 p2 (.lst (bs.map V.ref ++ hs.map V.ref ++ us.map V.ref))) := by
      rintro bs lb hb p0 f0 H1 rfl p1 f1 H2 rfl p2 f2
      have s1 := (Same.refl H).new (o := .lst (bs.map V.ref)) f0
      have s2 := s1.new (o := .lst (bs.map V.ref ++ hs.map V.ref)) f1
      have s3 := s2.new (o := .lst (bs.map V.ref ++ hs.map V.ref ++ us.map V.ref)) f2
      exact k p2 (bs ++ hs ++ us) _ s3 (s2.free f2) (by rw [upd_same, List.map_append, List.map_append]) (((lb.app lh).app lu).kept (.same s3))
    refine ⟨_, rfl, x, t.Queue, dx, _, _, rfl, ex, T.cQueue, T.na_pieces, rfl, _, .inl ⟨_, SqL.of ep, rfl⟩, ?_⟩
    rcases ok.b with ⟨hp, hb⟩ | ⟨hp, L, hb, okL⟩
    · have e0 := (hp ▸ rp : RowsAt H ps []).no
      subst e0
      refine iteF ⟨by show 0 ≤ sizeLine; decide, fun p0 f0 => ?_⟩
      have s1 := (Same.refl H).new (o := .lst []) f0
      refine ⟨_, rfl, _, rfl, x, t.Queue, dx, _, _, rfl, s1 _ _ ex, T.cQueue, T.na_hurried, rfl, p0, hA, _, _, rfl, rfl, SqL.of upd_same, s1.seq (SqL.of eh), by rw [List.length_map, List.length_nil]; omega, fun p1 f1 => ?_⟩
      have s2 := s1.new (o := .lst ([] ++ hs.map V.ref)) f1
      refine ⟨_, rfl, x, t.Queue, dx, _, _, rfl, s2 _ _ ex, T.cQueue, T.na_unhurried, rfl, p1, uA, _, _, rfl, rfl, SqL.of upd_same, s2.seq (SqL.of eu), by rw [List.length_append, List.length_map, List.length_map, List.length_nil]; omega, fun p2 f2 => ?_⟩
      exact fin [] (by rw [hb]; exact LsAt.nil) (by simp) p0 f0 _ rfl p1 f1 _ rfl p2 f2
    · obtain ⟨r, rfl, lr⟩ := eb L hb
      cases hpp : q.p with
      | nil => exact absurd hpp hp
      | cons r1 tl =>
        obtain ⟨a, ps', rfl, ea, rp'⟩ := (hpp ▸ rp : RowsAt H ps (r1 :: tl)).un
        refine iteT ⟨_, rfl, x, t.Queue, dx, _, _, rfl, ex, T.cQueue, T.na_begun, rfl, by show 1 ≤ sizeLine; decide, fun p0 f0 => ?_⟩
        have s1 := (Same.refl H).new (o := .lst [.ref r]) f0
        refine ⟨_, rfl, _, rfl, x, t.Queue, dx, _, _, rfl, s1 _ _ ex, T.cQueue, T.na_hurried, rfl, p0, hA, _, _, rfl, rfl, SqL.of upd_same, s1.seq (SqL.of eh), by rw [List.length_map, List.length_cons, List.length_nil]; omega, fun p1 f1 => ?_⟩
        have s2 := s1.new (o := .lst ([.ref r] ++ hs.map V.ref)) f1
        refine ⟨_, rfl, x, t.Queue, dx, _, _, rfl, s2 _ _ ex, T.cQueue, T.na_unhurried, rfl, p1, uA, _, _, rfl, rfl, SqL.of upd_same, s2.seq (SqL.of eu), by rw [List.length_append, List.length_map, List.length_map, List.length_cons, List.length_nil]; omega, fun p2 f2 => ?_⟩
        exact fin [r] (by rw [hb]; exact LsAt.one lr) (by simp) p0 f0 _ rfl p1 f1 _ rfl p2 f2
end
end K43
namespace K43
open PySem L2 PyProof.Rows
section
variable {P : Program} {w : World} {K : PySem.W.Frag} {mg : Str → Option Value} {base : Heap} {t : Ad}
/-! _law_put -/
def sp__law_put (K : PySem.W.Frag) : Sp := fun vs H Q _ => ∃ (l r : Addr) (as : List Addr) (Ls : List Ltr) (M : Ltr), vs = [.ref l, .ref r] ∧ H l = some (.lst (as.map V.ref)) ∧ LsAt K H as Ls ∧ (∀ L ∈ Ls, LtOk L) ∧ LtAt K H r M ∧ LtOk M ∧ Ls.length ≤ 1000 ∧
  ∀ (p : Addr) (as' : List Addr) (H' : Hp), Same H H' → H p = none → H' p = some (.lst (as'.map V.ref)) → LsAt K H' as' (putL Ls M) → Q (.ref p) H'
theorem sc__law_put : FnScope ["row", "letter", "told", "there", "other"] ["row", "letter"] (defScope s__law_put) := ⟨rfl, rfl, rfl, by decide +kernel, rfl, by decide +kernel, by decide +kernel⟩
theorem ok__law_put (F : Site K mg "_law_put" s__law_put) (T : Txt K mg t) (D__law_key : Def P w K mg base 1 "_law_key" ["letter"] (sp_key K)) : Def P w K mg base 2 "_law_put" ["row", "letter"] (sp__law_put K) := by
  refine F.def sc__law_put (fun _ _ _ _ _ _ us hl => match us, hl with | [_, _], _ => rfl) (fun vs H Q E h => ?_) (fun f cdv A outer s H vs Q E hr h => ?_)
  · obtain ⟨l, r, as, Ls, M, rfl, _⟩ := h
    rfl
  · obtain ⟨l, r, as, Ls, M, rfl, hl, hL, ok, hM, okM, hz, q⟩ := h
    refine ⟨_, pss_cons (ps_set (i := 2) sc__law_put.nd rfl (Or.inl rfl) (pe_lst pa_nil))
      (pss_cons (ps_set (i := 3) sc__law_put.nd rfl (Or.inl rfl) pe_bl)
      (pss_cons (PS.nox (ps_for PassesOwn.never rfl (pi_listK K (pv 0)) (pg_name (i := 4) sc__law_put.nd rfl (Or.inl rfl))
        (pss_one (ps_if (pt_cmpR (op_eqD K (hu16 hr)) (pe_def (D__law_key.mono (by decide)) hr passN (pa_cons (pv 4) pa_nil)) (pe_def (D__law_key.mono (by decide)) hr passN (pa_cons (pv 1) pa_nil)) (nomark _))
          (pss_cons (ps_expr (pe_bmK K PySem.F.plainAttrs_list PySem.F.slot_list_append PySem.F.type_list_append mt_append (pv 2) (pa_cons (pe_ix (ix_listK K) (pe_lst (pa_cons (pv 4) (pa_cons (pv 1) pa_nil))) (pe_callTy call_int1 (by rfl) T.n_int boot_int (pa_cons (pe_cmpR op_gt (pe_ix (ix_tupK K) (pv 1) pe_int (fun _ _ => rfl)) (pe_ix (ix_tupK K) (pv 4) pe_int (fun _ _ => rfl)) (nomark _)) pa_nil)) (fun _ _ => rfl)) pa_nil)))
          (pss_one (ps_set (i := 3) sc__law_put.nd rfl (Or.inl rfl) pe_bl)))
          (pss_one (ps_expr (pe_bmK K PySem.F.plainAttrs_list PySem.F.slot_list_append PySem.F.type_list_append mt_append (pv 2) (pa_cons (pv 4) pa_nil))))))))
      (pss_cons (ps_if (pt_not (pt_val (pv 3)))
        (pss_one (ps_expr (pe_bmK K PySem.F.plainAttrs_list PySem.F.slot_list_append PySem.F.type_list_append mt_append (pv 2) (pa_cons (pv 1) pa_nil))))
        (pss_nil))
      (pss_one (ps_ret (pv 2)))))), ?_⟩
    have hsz : (3000 : Nat) ≤ sizeLine := by decide
    refine ⟨by show 0 ≤ sizeLine; decide, fun p hp => ?_⟩
    have s0 := (Same.refl H).new (o := .lst []) hp
    have npl : p ≠ l := (ne_of_none hl hp).symm
    refine ⟨_, rfl, l, rfl, ⟨_, SqL.of (s0 _ _ hl)⟩, for_list (K := K) (a := l) (xs := as.map V.ref) (fun i σ H' => ∃ (x : Option V) (th : Bool) (as' : List Addr), σ = [some (.ref l), some (.ref r), some (.ref p), some (.bl th), x] ∧ Same H H' ∧ H' p = some (.lst (as'.map V.ref)) ∧ LsAt K H' as' ((Ls.take i).map (nwr · M)) ∧ (th = true ↔ ∃ L ∈ Ls.take i, key L = key M)) ⟨none, false, [], rfl, s0, upd_same, by rw [List.take_zero]; exact LsAt.nil, by simp⟩ (fun i σ H' _ ⟨_, _, _, _, s, _⟩ => s.seq (SqL.of hl)) ?_ ?_⟩
    · rintro i y σ H' hi ⟨x, th, as', rfl, s, ep, la, hth⟩
      rw [List.getElem?_map] at hi
      cases ea : as[i]? with
      | none => rw [ea] at hi; cases hi
      | some a =>
        rw [ea] at hi; cases hi
        have hlt : i < Ls.length := by rw [← hL.1]; exact (List.getElem?_eq_some_iff.mp ea).1
        have eL := List.getElem?_eq_getElem hlt
        have lok := ok _ (List.mem_of_getElem? eL)
        have la1 := hL.2 i a _ ea eL
        have lal : as'.length = i := by rw [la.1, List.length_map, List.length_take]; omega
        refine ⟨_, rfl, a, _, rfl, la1.same s, lok, fun k1 H1 s1 hk1 => ?_⟩
        refine ⟨_, rfl, r, M, rfl, hM.same (s.trans s1), okM, fun k2 H2 s2 hk2 => ?_⟩
        have s12 := s1.trans s2
        have sa := s.trans s12
        have ep2 := s12 _ _ ep
        have la2 := la.kept (.same s12)
        refine ⟨_, _, hk1.same s2, hk2, _, rfl, ?_⟩
        show if (PyData.eqv (keyD Ls[i]) (keyD M)) = true then _ else _
        rw [keyD_eqv hk1]
        -- the end of a turn
        have fin : ∀ (H3 : Hp) (z : Addr) (N : Ltr), Same H2 H3 → LtAt K H2 z N → N = nwr Ls[i] M → Same H (upd H3 p (.lst (as'.map V.ref ++ [.ref z]))) ∧ (upd H3 p (.lst (as'.map V.ref ++ [.ref z]))) p = some (.lst ((as' ++ [z]).map V.ref)) ∧ LsAt K (upd H3 p (.lst (as'.map V.ref ++ [.ref z]))) (as' ++ [z]) ((Ls.take (i + 1)).map (nwr · M)) := by
          rintro H3 z N s3 lz rfl
          have kp : Kept H3 (upd H3 p (.lst (as'.map V.ref ++ [.ref z]))) := (Mods.refl.upd (.inl List.mem_cons_self) : Mods [p] H3 _).kept fun a ha => by rw [List.mem_singleton.mp ha]; exact NT.lst (s3 _ _ ep2)
          refine ⟨(sa.trans s3).put hp, by rw [upd_same, List.map_append]; rfl, ?_⟩
          rw [take_succ eL, List.map_append]
          exact ((la2.kept (.same s3)).kept kp).app (LsAt.one ((lz.same s3).kept kp))
        by_cases e : key Ls[i] = key M
        · refine iteY e ?_
          have hth' : ∀ b : Bool, b = true → (b = true ↔ ∃ L ∈ Ls.take (i + 1), key L = key M) := fun b hb => ⟨fun _ => ⟨_, by rw [take_succ eL]; exact List.mem_append_right _ List.mem_cons_self, e⟩, fun _ => hb⟩
          obtain ⟨w', a', b', z1, z2⟩ := hM.same sa
          obtain ⟨w2, a2, b2, y1, y2⟩ := la1.same sa
          refine ⟨_, rfl, .inl ⟨rfl, _, SqL.of ep2⟩, _, rfl, _, rfl, by show 2 ≤ sizeLine; decide, fun pl hpl => ?_⟩
          have s3 := (Same.refl H2).new (o := .lst [.ref a, .ref r]) hpl
          refine ⟨_, rfl, r, _, _, _, rfl, rfl, s3.tup z1, rfl, _, rfl, a, _, _, _, rfl, rfl, s3.tup y1, rfl, _, _, rfl, rfl, .inr ⟨_, rfl, ?_⟩⟩
          by_cases hc : Ls[i].c < M.c
          · rw [decide_eq_true hc]
            refine ⟨pl, _, _, _, rfl, rfl, SqL.of upd_same, (rfl : atI [V.ref a, V.ref r] 1 = some (.ref r)), p, _, _, rfl, rfl, s3 _ _ ep2, by rw [List.length_map]; omega, ?_⟩
            obtain ⟨f1, f2, f3⟩ := fin _ r M s3 (hM.same sa) (by unfold nwr; rw [if_pos e, if_pos hc])
            exact ⟨_, true, _, rfl, f1, f2, f3, hth' true rfl⟩
          · rw [decide_eq_false hc]
            refine ⟨pl, _, _, _, rfl, rfl, SqL.of upd_same, (rfl : atI [V.ref a, V.ref r] 0 = some (.ref a)), p, _, _, rfl, rfl, s3 _ _ ep2, by rw [List.length_map]; omega, ?_⟩
            obtain ⟨f1, f2, f3⟩ := fin _ a Ls[i] s3 (la1.same sa) (by unfold nwr; rw [if_pos e, if_neg hc])
            exact ⟨_, true, _, rfl, f1, f2, f3, hth' true rfl⟩
        · refine iteN e ?_
          refine ⟨_, rfl, .inl ⟨rfl, _, SqL.of ep2⟩, _, rfl, p, _, _, rfl, rfl, ep2, by rw [List.length_map]; omega, ?_⟩
          obtain ⟨f1, f2, f3⟩ := fin H2 a Ls[i] (Same.refl _) (la1.same sa) (nwr_no e).symm
          refine ⟨_, th, _, rfl, f1, f2, f3, hth.trans ⟨fun ⟨L, h1, h2⟩ => ⟨L, by rw [take_succ eL]; exact List.mem_append_left _ h1, h2⟩, fun ⟨L, h1, h2⟩ => ?_⟩⟩
          rw [take_succ eL] at h1
          rcases List.mem_append.mp h1 with h1 | h1
          · exact ⟨L, h1, h2⟩
          · rw [List.mem_singleton.mp h1] at h2; exact absurd h2 e
    · rintro σ H' ⟨x, th, as', rfl, s, ep, la, hth⟩
      rw [List.length_map, hL.1, List.take_length] at la hth
      refine ⟨_, rfl, _, rfl, ?_⟩
      cases th with
      | true =>
        refine iteF ⟨_, rfl, ?_⟩
        refine q p as' H' s hp ep ?_
        unfold putL; rw [if_pos (hth.mp rfl)]; exact la
      | false =>
        have no : ¬ ∃ L ∈ Ls, key L = key M := fun h => by have := hth.mpr h; cases this
        have la0 : LsAt K H' as' Ls := by
          have em : Ls.map (nwr · M) = Ls.map id := List.map_congr_left fun L hL' => nwr_no fun e => no ⟨L, hL', e⟩
          rw [em, List.map_id] at la
          exact la
        refine iteT ?_
        refine ⟨_, rfl, .inl ⟨rfl, _, SqL.of ep⟩, _, rfl, p, _, _, rfl, rfl, ep, by rw [List.length_map, la0.1]; omega, _, rfl, ?_⟩
        have kp : Kept H' (upd H' p (.lst (as'.map V.ref ++ [.ref r]))) := (Mods.refl.upd (.inl List.mem_cons_self) : Mods [p] H' _).kept fun a ha => by rw [List.mem_singleton.mp ha]; exact NT.lst ep
        refine q p (as' ++ [r]) _ (s.put hp) hp (by rw [upd_same, List.map_append]; rfl) ?_
        unfold putL; rw [if_neg no]
        exact (la0.kept kp).app (LsAt.one ((hM.same s).kept kp))
end
end K43
namespace K43
open PySem L2 PyProof.Rows
section
variable {P : Program} {w : World} {K : PySem.W.Frag} {mg : Str → Option Value} {base : Heap} {t : Ad}
/-! _law_letter -/
def ways : List (List Int) := [[0, 1], [0, 2, 1], [0, 2], [3, 1], [2], [2, 5, 4, 3, 1, 0]]
theorem ways_ok : ∀ v ∈ ways, WayOk v := by unfold WayOk Hse; decide +kernel
def sp__law_letter (K : PySem.W.Frag) : Sp := fun vs H Q _ => ∃ (l : Addr) (ns : List Int) (k : Int), vs = [.ref l, .int k] ∧ SqL K H l (ns.map V.int) ∧ ns.length = 73 ∧ (∀ n ∈ ns, Sgn n) ∧ 0 ≤ k ∧ k < 64 ∧
  ∀ (r : Addr) (L : Ltr) (H' : Hp), LtOk L → Same H H' → LtAt K H' r L → Q (.ref r) H'
theorem kind7 (c : Int) : ∃ k ∈ kds, atI [V.str "news", V.str "part", V.str "had", V.str "ask", V.str "answer", V.str "news", V.str "part"] (c % 7) = some (.str k) := by
  have h0 := Int.emod_nonneg c (b := 7) (by decide)
  have h1 := Int.emod_lt_of_pos c (b := 7) (by decide)
  generalize c % 7 = d at h0 h1
  have : d = 0 ∨ d = 1 ∨ d = 2 ∨ d = 3 ∨ d = 4 ∨ d = 5 ∨ d = 6 := by omega
  rcases this with rfl | rfl | rfl | rfl | rfl | rfl | rfl
  · exact ⟨"news", by decide +kernel, rfl⟩
  · exact ⟨"part", by decide +kernel, rfl⟩
  · exact ⟨"had", by decide +kernel, rfl⟩
  · exact ⟨"ask", by decide +kernel, rfl⟩
  · exact ⟨"answer", by decide +kernel, rfl⟩
  · exact ⟨"news", by decide +kernel, rfl⟩
  · exact ⟨"part", by decide +kernel, rfl⟩
theorem way6 {H : Hp} {p1 p2 p3 p4 p5 p6 : Addr} (c : Int) (e1 : H p1 = some (.lst [.int 0, .int 1])) (e2 : H p2 = some (.lst [.int 0, .int 2, .int 1])) (e3 : H p3 = some (.lst [.int 0, .int 2])) (e4 : H p4 = some (.lst [.int 3, .int 1])) (e5 : H p5 = some (.lst [.int 2])) (e6 : H p6 = some (.lst [.int 2, .int 5, .int 4, .int 3, .int 1, .int 0])) :
    ∃ (p : Addr) (v : List Int), atI [V.ref p1, V.ref p2, V.ref p3, V.ref p4, V.ref p5, V.ref p6] (c % 6) = some (.ref p) ∧ v ∈ ways ∧ H p = some (.lst (v.map V.int)) := by
  have h0 := Int.emod_nonneg c (b := 6) (by decide)
  have h1 := Int.emod_lt_of_pos c (b := 6) (by decide)
  generalize c % 6 = d at h0 h1
  have : d = 0 ∨ d = 1 ∨ d = 2 ∨ d = 3 ∨ d = 4 ∨ d = 5 := by omega
  rcases this with rfl | rfl | rfl | rfl | rfl | rfl
  · exact ⟨p1, _, rfl, (by decide : [0, 1] ∈ ways), e1⟩
  · exact ⟨p2, _, rfl, (by decide : [0, 2, 1] ∈ ways), e2⟩
  · exact ⟨p3, _, rfl, (by decide : [0, 2] ∈ ways), e3⟩
  · exact ⟨p4, _, rfl, (by decide : [3, 1] ∈ ways), e4⟩
  · exact ⟨p5, _, rfl, (by decide : [2] ∈ ways), e5⟩
  · exact ⟨p6, _, rfl, (by decide : [2, 5, 4, 3, 1, 0] ∈ ways), e6⟩
theorem about4 {H : Hp} {p1 p2 p3 p4 : Addr} (c z : Int) (z0 : 0 ≤ z) (z1 : z < 3) (e1 : H p1 = some (.lst [])) (e2 : H p2 = some (.lst [.int 1])) (e3 : H p3 = some (.lst [.int 1, .int 1])) (e4 : H p4 = some (.lst [.int z, .int 0, .int 0, .int 96])) :
    ∃ (p : Addr) (v : List Int), atI [V.ref p1, V.ref p2, V.ref p3, V.ref p4] (c % 4) = some (.ref p) ∧ SgsOk v 4 ∧ H p = some (.lst (v.map V.int)) := by
  have h0 := Int.emod_nonneg c (b := 4) (by decide)
  have h1 := Int.emod_lt_of_pos c (b := 4) (by decide)
  generalize c % 4 = d at h0 h1
  have : d = 0 ∨ d = 1 ∨ d = 2 ∨ d = 3 := by omega
  have sg : ∀ v : List Int, (v.length : Int) ≤ 4 → (∀ n ∈ v, 0 ≤ n ∧ n < 97) → SgsOk v 4 := fun v a b => ⟨a, b⟩
  rcases this with rfl | rfl | rfl | rfl
  · exact ⟨p1, [], rfl, sg _ (by decide) (by decide), e1⟩
  · exact ⟨p2, [1], rfl, sg _ (by decide) (by decide), e2⟩
  · exact ⟨p3, [1, 1], rfl, sg _ (by decide) (by decide), e3⟩
  · exact ⟨p4, [z, 0, 0, 96], rfl, sg _ (by show (4 : Int) ≤ 4; decide) (fun n hn => by simp only [List.mem_cons, List.not_mem_nil, or_false] at hn; omega), e4⟩
theorem star_lst {X : Cx} {es1 es : List Expr} {p1 : Pos} : starEach (.List es1 p1 :: es) X.env = (false, eval (.List es1 p1) X.env) :: starEach es X.env := rfl
theorem x_lst {X : Cx} {es : List Expr} {tt : TA} {pos : Pos} (h : PAx X es tt) : PEx X (.List es pos) (tLst tt) := ⟨pe_lst h.out⟩
theorem x_consS {X : Cx} {es1 es : List Expr} {te : TE} {tt : TA} {p1 : Pos} (ha : PEx X (.List es1 p1) te) (hr : PAx X es tt) : PAx X (.List es1 p1 :: es) (tCons te tt) := ⟨pa_cons ha.out hr.out star_lst⟩
structure PSx (X : Cx) (st : Stmt) (tt : TS) : Prop where
  out : PS X st tt
theorem xs_setIx {X : Cx} (K : PySem.W.Frag) {i : Nat} {x : Str} {es : List Expr} {b : Expr} {tt : TA} {tb : TE} {lp ip pos' pos : Pos} (hN : X.N.Nodup) (hi : X.N[i]? = some x) (hx : Loc X.env.scope x) (h : PAx X es tt) (hb : PE X b tb) (hp : PlainIx b) (hK : X.K = K := by rfl) (hf : X.fn x = true ∨ X.env.scope.names.lookup x = some .local := by first | exact .inl rfl | exact .inr rfl | assumption) :
    PSx X (.Assign [.Name x pos'] (.Subscript (.List es lp) b ip) pos) (tAsg (tOp (rIxL K) (tLst tt) tb) (gName i)) := ⟨ps_set hN hi hx (pe_ix (ix_listK K hK) (pe_lst h.out) hb hp) rfl hf⟩
theorem pss_cons3 {X : Cx} {s1 s2 s3 : Stmt} {ss : List Stmt} {t1 t2 t3 u : TS} (h1 : PS X s1 t1) (h2 : PSx X s2 t2) (h3 : PSx X s3 t3) (h4 : PSs X ss u) : PSs X (s1 :: s2 :: s3 :: ss) (tSeq t1 (tSeq t2 (tSeq t3 u))) := pss_cons h1 (pss_cons h2.out (pss_cons h3.out h4))
theorem sc__law_letter : FnScope ["numbers", "k", "count", "kind", "way", "about", "parts"] ["numbers", "k"] (defScope s__law_letter) := ⟨rfl, rfl, rfl, by decide +kernel, rfl, by decide +kernel, by decide +kernel⟩
set_option maxHeartbeats 4000000 in
theorem ok__law_letter (F : Site K mg "_law_letter" s__law_letter) (T : Txt K mg t) (D__law_parts : Def P w K mg base 2 "_law_parts" ["numbers"] (sp__law_parts K)) (D_made_letter : Def P w K mg base 3 "made_letter" ["count", "way", "kind", "about", "body"] (sp_made_letter K t.BadLetter)) : Def P w K mg base 4 "_law_letter" ["numbers", "k"] (sp__law_letter K) := by
  refine F.def sc__law_letter (fun _ _ _ _ _ _ us hl => match us, hl with | [_, _], _ => rfl) (fun vs H Q E h => ?_) (fun f cdv A outer s H vs Q E hr h => ?_)
  · obtain ⟨l, ns, k, rfl, _⟩ := h
    rfl
  · obtain ⟨l, ns, k, rfl, hl, h73, hs, k0, k1, q⟩ := h
    refine ⟨_, pss_cons (ps_set (i := 2) sc__law_letter.nd rfl (Or.inl rfl) (pe_op op_add (pe_op op_mul (pe_op op_add (pe_op op_mul (pe_ix (ix_listK K) (pv 0) pe_int (fun _ _ => rfl)) pe_int) (pe_ix (ix_listK K) (pv 0) pe_int (fun _ _ => rfl))) pe_int) (pv 1)))
      (pss_cons3 (ps_set (i := 3) sc__law_letter.nd rfl (Or.inl rfl) (pe_ix (ix_listK K) (pe_lst (pa_cons pe_str (pa_cons pe_str (pa_cons pe_str (pa_cons pe_str (pa_cons pe_str (pa_cons pe_str (pa_cons pe_str pa_nil)))))))) (pe_op op_mod (pe_ix (ix_listK K) (pv 0) pe_int (fun _ _ => rfl)) pe_int) (fun _ _ => rfl)))
      (xs_setIx K (i := 4) sc__law_letter.nd rfl (Or.inl rfl) (x_consS (x_lst (x_consC x_int (x_consC x_int x_nil))) (x_consS (x_lst (x_consC x_int (x_consC x_int (x_consC x_int x_nil)))) (x_consS (x_lst (x_consC x_int (x_consC x_int x_nil))) (x_consS (x_lst (x_consC x_int (x_consC x_int x_nil))) (x_consS (x_lst (x_consC x_int x_nil)) (x_consS (x_lst (x_consC x_int (x_consC x_int (x_consC x_int (x_consC x_int (x_consC x_int (x_consC x_int x_nil))))))) x_nil)))))) (pe_op op_mod (pe_ix (ix_listK K) (pv 0) pe_int (fun _ _ => rfl)) pe_int) (fun _ _ => rfl))
      (xs_setIx K (i := 5) sc__law_letter.nd rfl (Or.inl rfl) (x_consS (x_lst x_nil) (x_consS (x_lst (x_consC x_int x_nil)) (x_consS (x_lst (x_consC x_int (x_consC x_int x_nil))) (x_consS (x_lst (x_consB (x_of (pe_op op_mod (pe_ix (ix_listK K) (pv 0) pe_int (fun _ _ => rfl)) pe_int)) (x_consC x_int (x_consC x_int (x_consC x_int x_nil))))) x_nil)))) (pe_op op_mod (pe_ix (ix_listK K) (pv 0) pe_int (fun _ _ => rfl)) pe_int) (fun _ _ => rfl))
      (pss_cons (ps_if (pt_cmpR op_eq (pe_op op_mod (pe_op op_fdiv (pe_ix (ix_listK K) (pv 0) pe_int (fun _ _ => rfl)) pe_int) pe_int) pe_int (nomark _))
        (pss_cons (ps_set (i := 6) sc__law_letter.nd rfl (Or.inl rfl) (pe_def (D__law_parts.mono (by decide)) hr passN (pa_cons (pv 0) pa_nil)))
        (pss_one (ps_ret (pe_def (D_made_letter.mono (by decide)) hr passN (pa_cons (pv 2) (pa_cons (pe_ix (ix_listK K) (pv 6) pe_int (fun _ _ => rfl)) (pa_cons (pe_ix (ix_listK K) (pv 6) pe_int (fun _ _ => rfl)) (pa_cons (pe_ix (ix_listK K) (pv 6) pe_int (fun _ _ => rfl)) (pa_cons (pe_ix (ix_listK K) (pv 6) pe_int (fun _ _ => rfl)) pa_nil)))))))))
        (pss_nil))
      (pss_one (ps_ret (pe_def (D_made_letter.mono (by decide)) hr passN (pa_cons (pv 2) (pa_cons (pv 4) (pa_cons (pv 3) (pa_cons (pv 5) (pa_cons (pe_slice (sl_listK K) (pv 0) (po_some pe_int) (po_some (pe_op op_add pe_int (pe_op op_mod (pe_ix (ix_listK K) (pv 0) pe_int (fun _ _ => rfl)) pe_int)))) pa_nil)))))))))), ?_⟩
    have sg : ∀ i, i < 73 → Sgn (ns.getD i 0) := fun i hi => hs _ (getD_mem (by omega))
    have at_ : ∀ {H' : Hp}, Same H H' → SqL K H' l (ns.map V.int) := fun s => s.seq hl
    have s0 := Same.refl H
    have n5 := sg 5 (by decide); have n6 := sg 6 (by decide)
    unfold Sgn at n5 n6
    refine ⟨_, rfl, l, _, _, _, rfl, rfl, hl, at_int (i := 5) (by omega) rfl, _, _, rfl, rfl, .inr ⟨by decide, by decide⟩, _, rfl, l, _, _, _, rfl, rfl, hl, at_int (i := 6) (by omega) rfl, _, _, rfl, rfl, _, _, rfl, rfl, .inr ⟨by decide, by decide⟩, _, rfl, _, _, rfl, rfl, ?_⟩
    have c0 : 0 ≤ (ns.getD 5 0 * 97 + ns.getD 6 0) * 64 + k ∧ (ns.getD 5 0 * 97 + ns.getD 6 0) * 64 + k ≤ 900000 := by omega
    -- kind
    refine ⟨by show 7 ≤ sizeLine; decide, fun pk hpk => ?_⟩
    have s1 := s0.new (o := .lst [V.str "news", V.str "part", V.str "had", V.str "ask", V.str "answer", V.str "news", V.str "part"]) hpk
    obtain ⟨kd, hkd, ek⟩ := kind7 (ns.getD 1 0)
    refine ⟨_, rfl, l, _, _, _, rfl, rfl, at_ s1, at_int (i := 1) (by omega) rfl, _, _, rfl, rfl, (by show (0 : Int) < 7; decide), pk, _, _, _, rfl, rfl, SqL.of upd_same, ek, ?_⟩
    generalize upd H pk (.lst [V.str "news", V.str "part", V.str "had", V.str "ask", V.str "answer", V.str "news", V.str "part"]) = H1 at s1 ⊢
    -- way
    have b0 := Same.refl H1
    refine ⟨by show 2 ≤ sizeLine; decide, fun p1 f1 => ?_⟩
    have t1 := b0.new (o := .lst [.int 0, .int 1]) f1
    have e1 : (upd H1 p1 (.lst [.int 0, .int 1])) p1 = some (.lst [.int 0, .int 1]) := upd_same
    generalize upd H1 p1 (.lst [.int 0, .int 1]) = G1 at t1 e1 ⊢
    refine ⟨by show 3 ≤ sizeLine; decide, fun p2 f2 => ?_⟩
    have t2 := (Same.refl G1).new (o := .lst [.int 0, .int 2, .int 1]) f2
    have e2 : (upd G1 p2 (.lst [.int 0, .int 2, .int 1])) p2 = some (.lst [.int 0, .int 2, .int 1]) := upd_same
    generalize upd G1 p2 (.lst [.int 0, .int 2, .int 1]) = G2 at t2 e2 ⊢
    refine ⟨by show 2 ≤ sizeLine; decide, fun p3 f3 => ?_⟩
    have t3 := (Same.refl G2).new (o := .lst [.int 0, .int 2]) f3
    have e3 : (upd G2 p3 (.lst [.int 0, .int 2])) p3 = some (.lst [.int 0, .int 2]) := upd_same
    generalize upd G2 p3 (.lst [.int 0, .int 2]) = G3 at t3 e3 ⊢
    refine ⟨by show 2 ≤ sizeLine; decide, fun p4 f4 => ?_⟩
    have t4 := (Same.refl G3).new (o := .lst [.int 3, .int 1]) f4
    have e4 : (upd G3 p4 (.lst [.int 3, .int 1])) p4 = some (.lst [.int 3, .int 1]) := upd_same
    generalize upd G3 p4 (.lst [.int 3, .int 1]) = G4 at t4 e4 ⊢
    refine ⟨by show 1 ≤ sizeLine; decide, fun p5 f5 => ?_⟩
    have t5 := (Same.refl G4).new (o := .lst [.int 2]) f5
    have e5 : (upd G4 p5 (.lst [.int 2])) p5 = some (.lst [.int 2]) := upd_same
    generalize upd G4 p5 (.lst [.int 2]) = G5 at t5 e5 ⊢
    refine ⟨by show 6 ≤ sizeLine; decide, fun p6 f6 => ?_⟩
    have t6 := (Same.refl G5).new (o := .lst [.int 2, .int 5, .int 4, .int 3, .int 1, .int 0]) f6
    have e6 : (upd G5 p6 (.lst [.int 2, .int 5, .int 4, .int 3, .int 1, .int 0])) p6 = some (.lst [.int 2, .int 5, .int 4, .int 3, .int 1, .int 0]) := upd_same
    generalize upd G5 p6 (.lst [.int 2, .int 5, .int 4, .int 3, .int 1, .int 0]) = G6 at t6 e6 ⊢
    have t56 := t5.trans t6
    have t46 := t4.trans t56
    have t36 := t3.trans t46
    have t26 := t2.trans t36
    obtain ⟨pw, wy, ew, wm, hw⟩ := way6 (ns.getD 2 0) (t26 _ _ e1) (t36 _ _ e2) (t46 _ _ e3) (t56 _ _ e4) (t6 _ _ e5) e6
    have s6 := (s1.trans t1).trans t26
    clear t1 t2 t3 t4 t5 t56 t46 t36 t26 e1 e2 e3 e4 e5 e6 t6
    refine ⟨by show 6 ≤ sizeLine; decide, fun p7 f7 => ?_⟩
    have s7 := s6.new (o := .lst [.ref p1, .ref p2, .ref p3, .ref p4, .ref p5, .ref p6]) f7
    have hw7 := (Same.refl G6).new (o := .lst [.ref p1, .ref p2, .ref p3, .ref p4, .ref p5, .ref p6]) f7 _ _ hw
    refine ⟨_, rfl, l, _, _, _, rfl, rfl, at_ s7, at_int (i := 2) (by omega) rfl, _, _, rfl, rfl, (by show (0 : Int) < 6; decide), p7, _, _, _, rfl, rfl, SqL.of upd_same, ew, ?_⟩
    generalize upd G6 p7 (.lst [.ref p1, .ref p2, .ref p3, .ref p4, .ref p5, .ref p6]) = H2 at s7 hw7 ⊢
    -- about
    refine ⟨by show 0 ≤ sizeLine; decide, fun a1 f1 => ?_⟩
    have t1 := (Same.refl H2).new (o := .lst []) f1
    have e1 : (upd H2 a1 (.lst [])) a1 = some (.lst []) := upd_same
    generalize upd H2 a1 (.lst []) = G1 at t1 e1 ⊢
    refine ⟨by show 1 ≤ sizeLine; decide, fun a2 f2 => ?_⟩
    have t2 := (Same.refl G1).new (o := .lst [.int 1]) f2
    have e2 : (upd G1 a2 (.lst [.int 1])) a2 = some (.lst [.int 1]) := upd_same
    generalize upd G1 a2 (.lst [.int 1]) = G2 at t2 e2 ⊢
    refine ⟨by show 2 ≤ sizeLine; decide, fun a3 f3 => ?_⟩
    have t3 := (Same.refl G2).new (o := .lst [.int 1, .int 1]) f3
    have e3 : (upd G2 a3 (.lst [.int 1, .int 1])) a3 = some (.lst [.int 1, .int 1]) := upd_same
    generalize upd G2 a3 (.lst [.int 1, .int 1]) = G3 at t3 e3 ⊢
    have s3 := ((s7.trans t1).trans t2).trans t3
    refine ⟨_, rfl, l, _, _, _, rfl, rfl, at_ s3, at_int (i := 3) (by omega) rfl, _, _, rfl, rfl, (by show (0 : Int) < 3; decide), by show 4 ≤ sizeLine; decide, fun a4 f4 => ?_⟩
    have z0 := Int.emod_nonneg (ns.getD 3 0) (b := 3) (by decide)
    have z1 := Int.emod_lt_of_pos (ns.getD 3 0) (b := 3) (by decide)
    have t4 := (Same.refl G3).new (o := .lst [.int (ns.getD 3 0 % 3), .int 0, .int 0, .int 96]) f4
    have e4 : (upd G3 a4 (.lst [.int (ns.getD 3 0 % 3), .int 0, .int 0, .int 96])) a4 = some (.lst [.int (ns.getD 3 0 % 3), .int 0, .int 0, .int 96]) := upd_same
    have t34 := t3.trans t4
    have t24 := t2.trans t34
    obtain ⟨pa, ab, ea, am, ha⟩ := about4 (ns.getD 4 0) _ z0 z1 (t24 _ _ e1) (t34 _ _ e2) (t4 _ _ e3) e4
    have s4 := s3.trans t4
    have hw4 := (t1.trans t24) _ _ hw7
    clear t1 t2 t3 t4 t34 t24 e1 e2 e3 e4
    refine ⟨by show 4 ≤ sizeLine; decide, fun a5 f5 => ?_⟩
    have s5 := s4.new (o := .lst [.ref a1, .ref a2, .ref a3, .ref a4]) f5
    have u5 := (Same.refl (upd G3 a4 (.lst [.int (ns.getD 3 0 % 3), .int 0, .int 0, .int 96]))).new (o := .lst [.ref a1, .ref a2, .ref a3, .ref a4]) f5
    have hw5 := u5 _ _ hw4
    have ha5 := u5 _ _ ha
    refine ⟨_, rfl, l, _, _, _, rfl, rfl, at_ s5, at_int (i := 4) (by omega) rfl, _, _, rfl, rfl, (by show (0 : Int) < 4; decide), a5, _, _, _, rfl, rfl, SqL.of upd_same, ea, ?_⟩
    have rep : ∀ k ∈ kds, (reprText k).length ≤ 1000 := by decide +kernel
    have cb : ((ns.getD 5 0 * 97 + ns.getD 6 0) * 64 + k).natAbs < 2 ^ 1000 := far_abs (by omega) (by omega)
    refine ⟨_, rfl, l, _, _, _, rfl, rfl, at_ s5, at_int (i := 0) (by omega) rfl, _, _, rfl, rfl, ⟨by decide, by decide⟩, _, _, rfl, rfl, (by show (0 : Int) < 6; decide), rfl, _, rfl, ?_⟩
    by_cases hz : ns.getD 0 0 / 8 % 6 = 0
    · refine iteY (show V.int (ns.getD 0 0 / 8 % 6) = V.int 0 by rw [hz]) ?_
      refine ⟨_, rfl, l, ns, rfl, at_ s5, h73, hs, fun p w' a' d' L H4 okL _ _ _ _ _ s6 ep ew' ea' ed' => ?_⟩
      refine ⟨_, rfl, _, rfl, p, _, _, _, rfl, rfl, SqL.of ep, rfl, _, rfl, p, _, _, _, rfl, rfl, SqL.of ep, rfl, _, rfl, p, _, _, _, rfl, rfl, SqL.of ep, rfl, _, rfl, p, _, _, _, rfl, rfl, SqL.of ep, rfl, ?_⟩
      have okM : LtOk { L with c := ((ns.getD 5 0 * 97 + ns.getD 6 0) * 64 + k) } := ⟨c0, okL.way, okL.kind, okL.ab, okL.bd⟩
      exact ⟨true, true, true, w', a', d', { L with c := ((ns.getD 5 0 * 97 + ns.getD 6 0) * 64 + k) }, rfl, SqL.of ew', SqL.of ea', SqL.of ed', cb, fun n hn => hse_abs (okL.way.2.1 n hn), fun n hn => sgn_abs (okL.ab.2 n hn), fun n hn => sgn_abs (okL.bd.2 n hn), rep _ okL.kind, fun _ r H5 s7 hr' => q r _ H5 okM ((s5.trans s6).trans s7) hr', fun no => absurd okM no⟩
    · refine iteN (fun z => hz (V.int.inj z)) ?_
      have b0 := Int.emod_nonneg (ns.getD 12 0) (b := 57) (by decide)
      have b1 := Int.emod_lt_of_pos (ns.getD 12 0) (b := 57) (by decide)
      refine ⟨_, rfl, _, rfl, _, rfl, _, rfl, _, rfl, _, rfl, _, rfl, l, _, _, _, rfl, rfl, at_ s5, at_int (i := 12) (by omega) rfl, _, _, rfl, rfl, (by show (0 : Int) < 57; decide), _, _, rfl, rfl, _, rfl, l, _, rfl, at_ s5, fun pd hpd => ?_⟩
      obtain ⟨bd, ebd, obd⟩ := cut_sgs hs (lo := 17) (hi := 17 + ns.getD 12 0 % 57) (by decide) (by omega) (m := 56) (by omega) (by decide)
      rw [ebd]
      have s6 := s5.new (o := .lst (bd.map V.int)) hpd
      have u6 := (Same.refl _).new (o := .lst (bd.map V.int)) hpd
      have okM : LtOk ⟨((ns.getD 5 0 * 97 + ns.getD 6 0) * 64 + k), wy, kd, ab, bd⟩ := ⟨c0, ways_ok _ wm, hkd, am, obd⟩
      exact ⟨true, true, true, pw, pa, pd, ⟨((ns.getD 5 0 * 97 + ns.getD 6 0) * 64 + k), wy, kd, ab, bd⟩, rfl, SqL.of (u6 _ _ hw5), SqL.of (u6 _ _ ha5), SqL.of upd_same, cb, fun n hn => hse_abs (okM.way.2.1 n hn), fun n hn => sgn_abs (am.2 n hn), fun n hn => sgn_abs (obd.2 n hn), rep _ hkd, fun _ r H5 s7 hr' => q r _ H5 okM (s6.trans s7) hr', fun no => absurd okM no⟩
end
end K43
namespace K43
open PySem L2 PyProof.Rows
section
variable {P : Program} {w : World} {K : PySem.W.Frag} {mg : Str → Option Value} {base : Heap} {t : Ad}
/-! pieces join to the letter's signs -/
def JoinOk (js : List Int) (q : Qs) : Prop := (q.p = [] → js = []) ∧ ∀ L, q.b = some L → ∃ i, i < pcN (lsg L).length ∧ q.p = (pcsOf (lsg L)).drop i ∧ js = (lsg L).take (9 * i)
theorem join0 : JoinOk [] q0 := ⟨fun _ => rfl, fun L e => by cases e⟩
theorem join_put {js : List Int} {q : Qs} (h : JoinOk js q) (M : Ltr) : JoinOk js (putQ q M) := by
  unfold putQ
  split
  · exact h
  · exact h
theorem pcN_pos (L : Ltr) : 0 < pcN (lsg L).length := by
  rw [lsg_len]; unfold pcN; omega
theorem join_bg {js : List Int} {q : Qs} {n : Nat} (ok : QOk q n) (h : JoinOk js q) : JoinOk js (bg q) := by
  unfold bg
  split
  · rename_i hp
    have j0 := h.1 hp
    obtain ⟨qh, qu, qb, qp⟩ := q
    have nb : qb = none := by
      rcases ok.b with z | z
      · exact z.2
      · exact absurd hp z.1
    have hp : qp = [] := hp
    subst nb hp j0
    have new : ∀ (hh uu : List Ltr) (L : Ltr), JoinOk [] ⟨hh, uu, some L, pcsOf (lsg L)⟩ := fun hh uu L => ⟨fun _ => rfl, fun M e => by
      cases e
      exact ⟨0, pcN_pos L, rfl, rfl⟩⟩
    match qh, qu with
    | L :: hh, uu => exact new hh uu L
    | [], L :: uu => exact new [] uu L
    | [], [] => exact h
  · exact h
/-- the next piece, and what is joined with it -/
theorem join_next {js : List Int} {q : Qs} {n : Nat} {r : List Int} {t : List (List Int)} (ok : QOk q n) (h : JoinOk js q) (hp : q.p = r :: t) : ∃ L, q.b = some L ∧ LtOk L ∧ IsPc r ∧
    ((t ≠ [] ∧ r.head? = some 0 ∧ JoinOk (js ++ r.tail) (popQ q)) ∨ (t = [] ∧ r.head? ≠ some 0 ∧ js ++ r.tail = lsg L ∧ JoinOk [] (popQ q))) := by
  obtain ⟨L, hb, okL⟩ : ∃ L, q.b = some L ∧ LtOk L := by
    rcases ok.b with z | z
    · rw [z.1] at hp; cases hp
    · exact z.2
  obtain ⟨i, hi, ep, ej⟩ := h.2 L hb
  have hd : (pcsOf (lsg L)).drop i = pcAt (lsg L) i :: (pcsOf (lsg L)).drop (i + 1) := by
    have hl : i < (pcsOf (lsg L)).length := by rw [pcsOf_len]; exact hi
    rw [List.drop_eq_getElem_cons hl]
    congr 1
    have := pcsOf_at hi
    rw [List.getElem?_eq_getElem hl] at this
    exact Option.some.inj this
  rw [hp] at ep
  rw [hd] at ep
  injection ep with er et
  refine ⟨L, hb, okL, by rw [er]; exact pcAt_pc (lsg_sgn okL), ?_⟩
  have ln : (popQ q).p = t := by show q.p.tail = t; rw [hp]; rfl
  by_cases hl : i + 1 < pcN (lsg L).length
  · have tn : t ≠ [] := fun z => by
      rw [z] at et
      have := congrArg List.length et
      rw [List.length_drop, pcsOf_len] at this
      simp at this
      omega
    refine .inl ⟨tn, by rw [er]; exact pcAt_go hl, fun z => absurd (ln ▸ z) tn, fun M e => ?_⟩
    have e' : (if q.p.tail = [] then none else q.b) = some M := e
    rw [show q.p.tail = t by rw [hp]; rfl, if_neg tn, hb] at e'
    cases e'
    exact ⟨i + 1, hl, by rw [ln, et], by rw [er, ej]; exact pcAt_join _ _⟩
  · have tn : t = [] := by
      rw [et]
      exact List.drop_of_length_le (by rw [pcsOf_len]; omega)
    refine .inr ⟨tn, by rw [er, pcAt_end hl]; decide, ?_, fun _ => rfl, fun M e => ?_⟩
    · rw [er, ej, pcAt_join]
      exact List.take_of_length_le (by unfold pcN at hl; omega)
    · have e' : (if q.p.tail = [] then none else q.b) = some M := e
      rw [show q.p.tail = t by rw [hp]; rfl, if_pos tn] at e'
      cases e'
/-- how many letters, how many pieces at most -/
def nl (q : Qs) : Nat := q.h.length + q.u.length + q.b.toList.length
def rem (q : Qs) : Nat := q.p.length + 8 * (q.h.length + q.u.length)
theorem pcs_8 {L : Ltr} (ok : LtOk L) : (pcsOf (lsg L)).length ≤ 8 := by
  rw [pcsOf_len, lsg_len]
  have := ok.way.1.2; have := ok.ab.1; have := ok.bd.1
  unfold pcN
  omega
theorem bg_rem {q : Qs} {n : Nat} (ok : QOk q n) : rem (bg q) ≤ rem q ∧ nl (bg q) ≤ nl q := by
  unfold bg
  split
  · rename_i hp
    obtain ⟨qh, qu, qb, qp⟩ := q
    have hp : qp = [] := hp
    subst hp
    match qh, qu with
    | L :: hh, uu =>
      have := pcs_8 (ok.h L List.mem_cons_self)
      unfold rem nl bgn
      simp only [List.length_cons, List.length_nil, Option.toList_some]
      omega
    | [], L :: uu =>
      have := pcs_8 (ok.u L List.mem_cons_self)
      unfold rem nl bgn
      simp only [List.length_cons, List.length_nil, Option.toList_some]
      omega
    | [], [] => exact ⟨Nat.le_refl _, Nat.le_refl _⟩
  · exact ⟨Nat.le_refl _, Nat.le_refl _⟩
theorem bg_none {q : Qs} (h : (bg q).p = []) : q.h = [] ∧ q.u = [] ∧ q.p = [] := by
  unfold bg at h
  split at h
  · rename_i hp
    obtain ⟨qh, qu, qb, qp⟩ := q
    match qh, qu with
    | L :: hh, uu => exact absurd h (pcs_ne L)
    | [], L :: uu => exact absurd h (pcs_ne L)
    | [], [] => exact ⟨rfl, rfl, hp⟩
  · rename_i hp; exact absurd h hp
theorem pop_b (q : Qs) : (popQ q).b.toList.length ≤ q.b.toList.length := by
  show (if q.p.tail = [] then none else q.b).toList.length ≤ _
  split
  · exact Nat.zero_le _
  · exact Nat.le_refl _
theorem pop_rem {q : Qs} {r : List Int} {t : List (List Int)} (hp : q.p = r :: t) : rem (popQ q) + 1 = rem q ∧ nl (popQ q) ≤ nl q := by
  have h1 := pop_b q
  have h2 : (popQ q).p = t := by show q.p.tail = t; rw [hp]; rfl
  have h3 : (popQ q).h = q.h := rfl
  have h4 : (popQ q).u = q.u := rfl
  unfold rem nl
  rw [h2, h3, h4, hp, List.length_cons]
  omega
theorem pop_last {q : Qs} {r : List Int} {L : Ltr} (hp : q.p = [r]) (hb : q.b = some L) : nl (popQ q) + 1 = nl q := by
  have h1 : (popQ q).b = none := by
    show (if q.p.tail = [] then none else q.b) = none
    rw [if_pos (by rw [hp]; rfl)]
  have h3 : (popQ q).h = q.h := rfl
  have h4 : (popQ q).u = q.u := rfl
  unfold nl
  rw [h1, h3, h4, hb]
  rfl
theorem put_nl (q : Qs) (M : Ltr) : nl (putQ q M) ≤ nl q + 1 ∧ rem (putQ q M) ≤ rem q + 8 := by
  have h1 := putL_len q.h M
  have h2 := putL_len q.u M
  unfold nl rem putQ
  split
  · simp only; omega
  · simp only; omega
theorem nl_rem {q : Qs} {n : Nat} (ok : QOk q n) {js : List Int} (h : JoinOk js q) : rem q ≤ 8 * nl q := by
  unfold rem nl
  rcases ok.b with ⟨e1, e2⟩ | ⟨_, L, e2, okL⟩
  · rw [e1, e2]; simp
  · obtain ⟨i, _, ep, _⟩ := h.2 L e2
    have := pcs_8 okL
    rw [ep, e2, List.length_drop]
    simp only [Option.toList_some, List.length_cons, List.length_nil]
    omega
end
end K43
namespace K43
open PySem L2 PyProof.Rows
section
variable {P : Program} {w : World} {K : PySem.W.Frag} {mg : Str → Option Value} {base : Heap} {t : Ad}
/-! the law's state: [rows of news, other rows, what is due] -/
inductive SAt (K : PySem.W.Frag) (H : Hp) : Addr → Addr → Addr → Qs → Prop
  | mk {S r0 r1 : Addr} {b : V} {hs us : List Addr} {q : Qs} (eS : H S = some (.lst [.ref r0, .ref r1, b])) (e0 : H r0 = some (.lst (hs.map V.ref))) (e1 : H r1 = some (.lst (us.map V.ref))) (lh : LsAt K H hs q.h) (lu : LsAt K H us q.u)
    (eb : (q.b = none ∧ b = .non) ∨ ∃ L r, q.b = some L ∧ b = .ref r ∧ LtAt K H r L) (nd : [S, r0, r1].Nodup) : SAt K H S r0 r1 q
section
variable {K : PySem.W.Frag} {S0 r0 r1 : Addr} {H H' : Hp} {S : List Addr} {q : Qs}
theorem SAt.out (h : SAt K H S0 r0 r1 q) : ∃ (b : V) (hs us : List Addr), H S0 = some (.lst [.ref r0, .ref r1, b]) ∧ H r0 = some (.lst (hs.map V.ref)) ∧ H r1 = some (.lst (us.map V.ref)) ∧ LsAt K H hs q.h ∧ LsAt K H us q.u ∧ ((q.b = none ∧ b = .non) ∨ ∃ L r, q.b = some L ∧ b = .ref r ∧ LtAt K H r L) ∧ [S0, r0, r1].Nodup := by
  cases h with
  | mk eS e0 e1 lh lu eb nd => exact ⟨_, _, _, eS, e0, e1, lh, lu, eb, nd⟩
theorem SAt.nt (h : SAt K H S0 r0 r1 q) : ∀ a ∈ [S0, r0, r1], NT H a ∧ ∃ o, H a = some o := by
  obtain ⟨b, hs, us, eS, e0, e1, -⟩ := h.out
  intro a ha
  simp only [List.mem_cons, List.not_mem_nil, or_false] at ha
  rcases ha with rfl | rfl | rfl
  · exact ⟨.lst eS, _, eS⟩
  · exact ⟨.lst e0, _, e0⟩
  · exact ⟨.lst e1, _, e1⟩
theorem SAt.mods (h : SAt K H S0 r0 r1 q) (m : Mods S H H') (k : Kept H H') (n : ∀ a ∈ [S0, r0, r1], a ∉ S) : SAt K H' S0 r0 r1 q := by
  obtain ⟨b, hs, us, eS, e0, e1, lh, lu, eb, nd⟩ := h.out
  exact ⟨m _ _ (n _ (by simp)) eS, m _ _ (n _ (by simp)) e0, m _ _ (n _ (by simp)) e1, lh.kept k, lu.kept k, eb.elim .inl fun ⟨L, r, a1, a2, a3⟩ => .inr ⟨L, r, a1, a2, a3.kept k⟩, nd⟩
theorem SAt.same (h : SAt K H S0 r0 r1 q) (s : Same H H') : SAt K H' S0 r0 r1 q := h.mods (S := []) (Mods.same s) (.same s) fun _ _ => List.not_mem_nil
theorem SAt.kept (h : SAt K H S0 r0 r1 q) (m : Mods [S0, r0, r1] H H') : Kept H H' := m.kept fun a ha => (h.nt a ha).1
theorem SAt.like (h : SAt K H S0 r0 r1 q) {q' : Qs} (e1 : q'.h = q.h) (e2 : q'.u = q.u) (e3 : q'.b = q.b) : SAt K H S0 r0 r1 q' := by
  obtain ⟨b, hs, us, eS, e0, e1', lh, lu, eb, nd⟩ := h.out
  exact .mk eS e0 e1' (e1 ▸ lh) (e2 ▸ lu) (e3 ▸ eb) nd
end
theorem nilD {K : PySem.W.Frag} {H : Hp} {l : Addr} (h : H l = some (.lst [])) {n : Nat} : IsDat K H (n + 1) (.ref l) (.list []) := .lst (SqL.of h) rfl fun i x d e1 _ => by simp at e1
theorem eqv_nil (ds : List PyData) : PyData.eqv (.list ds) (.list []) = decide (ds = []) := by
  cases ds with
  | nil => rw [decide_eq_true rfl]; rfl
  | cons a t => rw [decide_eq_false (by intro z; cases z)]; rfl
theorem kept_lst {H : Hp} {l : Addr} {xs : List V} {o : HO} (h : H l = some (.lst xs)) : Kept H (upd H l o) := (Mods.refl.upd (.inl List.mem_cons_self) : Mods [l] H (upd H l o)).kept fun a ha => by rw [List.mem_singleton.mp ha]; exact NT.lst h
/-! _law_due_next -/
def sp__law_due_next (K : PySem.W.Frag) : Sp := fun vs H Q _ => ∃ (S r0 r1 : Addr) (q : Qs), vs = [.ref S] ∧ SAt K H S r0 r1 q ∧ QOk q 1000 ∧
  ((bg q).b = none → ∀ H', Same H H' → Q .non H') ∧ ∀ (r : Addr) (L : Ltr) (H' : Hp), (bg q).b = some L → Mods [S, r0, r1] H H' → SAt K H' S r0 r1 (bg q) → LtAt K H' r L → Q (.ref r) H'
theorem sc__law_due_next : FnScope ["state", "row"] ["state"] (defScope s__law_due_next) := ⟨rfl, rfl, rfl, by decide +kernel, rfl, by decide +kernel, by decide +kernel⟩
theorem ok__law_due_next (F : Site K mg "_law_due_next" s__law_due_next) (T : Txt K mg t) : Def P w K mg base 1 "_law_due_next" ["state"] (sp__law_due_next K) := by
  refine F.def sc__law_due_next (fun _ _ _ _ _ _ us hl => match us, hl with | [_], _ => rfl) (fun vs H Q E h => ?_) (fun f cdv A outer s H vs Q E hr h => ?_)
  · obtain ⟨S, r0, r1, q, rfl, _⟩ := h
    rfl
  · obtain ⟨S, r0, r1, q, rfl, hs, ok, k1, k2⟩ := h
    refine ⟨_, pss_cons (ps_if (pt_cmpR op_notN (pe_ix (ix_listK K) (pv 0) pe_int (fun _ _ => rfl)) pe_non (nomark _))
        (pss_one (ps_ret (pe_ix (ix_listK K) (pv 0) pe_int (fun _ _ => rfl))))
        (pss_nil))
      (pss_cons (PS.nox (ps_for PassesOwn.never rfl (pi_listK K (pe_slice (sl_listK K) (pv 0) po_none (po_some pe_int))) (pg_name (i := 1) sc__law_due_next.nd rfl (Or.inl rfl))
        (pss_one (ps_if (pt_cmpR (op_neD K (hu16 hr)) (pv 1) (pe_lst pa_nil) (nomark _))
          (pss_cons (ps_asg (pe_bmK K PySem.F.plainAttrs_list PySem.F.slot_list_pop PySem.F.type_list_pop mt_popAt (pv 1) (pa_cons pe_int pa_nil)) (pg_sub (pv 0) pe_int set_list))
          (pss_one (ps_ret (pe_ix (ix_listK K) (pv 0) pe_int (fun _ _ => rfl)))))
          (pss_nil)))))
      (pss_one (ps_ret pe_non))), ?_⟩
    have hsA := hs
    obtain ⟨b, ls, us, eS, e0, e1, lh, lu, eb, nd⟩ := hs.out
    have nd' := nd
    simp only [List.nodup_cons, List.mem_cons, List.not_mem_nil, or_false, not_or] at nd'
    obtain ⟨⟨n1, n2⟩, n3, -⟩ := nd'
    rcases eb with ⟨hb, rfl⟩ | ⟨L, r, hb, rfl, lr⟩
    · have hp : q.p = [] := by
        rcases ok.b with z | ⟨_, L, z, _⟩
        · exact z.1
        · rw [hb] at z; cases z
      have bq : bg q = bgn q := by unfold bg; rw [if_pos hp]
      refine ⟨_, rfl, S, _, _, _, rfl, rfl, SqL.of eS, rfl, rfl, _, rfl, iteNN rfl ?_⟩
      refine ⟨_, rfl, _, rfl, S, _, rfl, SqL.of eS, fun pc hpc => ?_⟩
      have ec : cutV [V.ref r0, V.ref r1, V.non] none (some 2) = [.ref r0, .ref r1] := by rw [cutV_ns (by decide)]; rfl
      rw [ec]
      have s1 := (Same.refl H).new (o := .lst [.ref r0, .ref r1]) hpc
      have epc : (upd H pc (.lst [.ref r0, .ref r1])) pc = some (.lst [.ref r0, .ref r1]) := upd_same
      generalize upd H pc (.lst [.ref r0, .ref r1]) = H1 at s1 epc ⊢
      refine ⟨pc, rfl, ⟨_, SqL.of epc⟩, for_list (K := K) (a := pc) (xs := [.ref r0, .ref r1]) (fun i σ H' => ∃ x : Option V, σ = [some (.ref S), x] ∧ Same H H' ∧ H' pc = some (.lst [.ref r0, .ref r1]) ∧ (1 ≤ i → q.h = []) ∧ (2 ≤ i → q.u = [])) ⟨none, rfl, s1, epc, fun h => by omega, fun h => by omega⟩ (fun i σ H' _ ⟨_, _, _, e, _⟩ => SqL.of e) ?_ ?_⟩
      · rintro i y σ H2 hi ⟨x, rfl, s2, ep2, i1, i2⟩
        have tk : ∀ (r : Addr) (L : Ltr) (hs' us' : List Addr) (h' u' : List Ltr) (H3 H4 H5 : Hp), bgn q = ⟨h', u', some L, pcsOf (lsg L)⟩ → LtAt K H r L → LsAt K H hs' h' → LsAt K H us' u' → Same H H3 → Mods [r0, r1] H3 H4 → H4 r0 = some (.lst (hs'.map V.ref)) → H4 r1 = some (.lst (us'.map V.ref)) → H5 = upd H4 S (.lst [.ref r0, .ref r1, .ref r]) → Q (.ref r) H5 := by
          rintro r L hs' us' h' u' H3 H4 H5 eq lr lh' lu' s3 m4 e4 e5 rfl
          have m5 : Mods [S, r0, r1] H3 (upd H4 S (.lst [.ref r0, .ref r1, .ref r])) := (m4.up fun a ha => List.mem_cons_of_mem _ ha).upd (.inl List.mem_cons_self)
          have kp := (hsA.same s3).kept m5
          have kp' : Kept H (upd H4 S (.lst [.ref r0, .ref r1, .ref r])) := (Kept.same s3).trans kp
          refine k2 r L _ (by rw [bq, eq]) ((Mods.same s3).trans m5) ?_ (lr.kept kp')
          rw [bq, eq]
          exact .mk (b := .ref r) upd_same (by rw [upd_ne (Ne.symm n1)]; exact e4) (by rw [upd_ne (Ne.symm n2)]; exact e5) (lh'.kept kp') (lu'.kept kp') (.inr ⟨L, r, rfl, rfl, lr.kept kp'⟩) nd
        match i, hi with
        | 0, hi =>
          cases hi
          refine ⟨_, rfl, by show 0 ≤ sizeLine; decide, fun pf hpf => ?_⟩
          have s3 := s2.new (o := .lst []) hpf
          refine ⟨_, _, (lh.kept (.same s3)).dat (n := 5) (SqL.of (s3 _ _ e0)) ok.h, nilD upd_same, _, rfl, ?_⟩
          show if (!(PyData.eqv _ (.list []))) = true then _ else _
          rw [eqv_nil]
          have ep3 := (Same.refl H2).new (o := .lst []) hpf _ _ ep2
          generalize upd H2 pf (.lst []) = H3 at s3 ep3 ⊢
          cases hq : q.h with
          | nil =>
            refine iteNN rfl ?_
            exact ⟨_, rfl, s3, ep3, fun _ => (by first | exact hq | rfl), fun h => by omega⟩
          | cons L h' =>
            refine iteNY (by intro z; cases z) ?_
            obtain ⟨r, hs', rfl, lr, lh'⟩ := (hq ▸ lh : LsAt K H ls (L :: h')).un
            refine ⟨_, rfl, .inl ⟨rfl, _, SqL.of (s3 _ _ e0)⟩, r0, _, 0, 0, .ref r, rfl, rfl, s3 _ _ e0, by decide, by decide, ix0 _ _, rfl, ?_⟩
            refine ⟨_, rfl, S, _, _, 2, rfl, rfl, by rw [upd_ne n1]; exact s3 _ _ eS, rfl, ?_⟩
            refine ⟨_, rfl, S, _, _, _, rfl, rfl, SqL.of upd_same, rfl, ?_⟩
            exact tk r L hs' us h' q.u H3 _ _ (by unfold bgn; rw [hq]) lr lh' lu s3 (Mods.refl.upd (.inl List.mem_cons_self)) upd_same (by rw [upd_ne (Ne.symm n3)]; exact s3 _ _ e1) rfl
        | 1, hi =>
          cases hi
          have qh := i1 (Nat.le_refl _)
          refine ⟨_, rfl, by show 0 ≤ sizeLine; decide, fun pf hpf => ?_⟩
          have s3 := s2.new (o := .lst []) hpf
          refine ⟨_, _, (lu.kept (.same s3)).dat (n := 5) (SqL.of (s3 _ _ e1)) ok.u, nilD upd_same, _, rfl, ?_⟩
          show if (!(PyData.eqv _ (.list []))) = true then _ else _
          rw [eqv_nil]
          have ep3 := (Same.refl H2).new (o := .lst []) hpf _ _ ep2
          generalize upd H2 pf (.lst []) = H3 at s3 ep3 ⊢
          cases hq : q.u with
          | nil =>
            refine iteNN rfl ?_
            exact ⟨_, rfl, s3, ep3, fun _ => qh, fun _ => (by first | exact hq | rfl)⟩
          | cons L u' =>
            refine iteNY (by intro z; cases z) ?_
            obtain ⟨r, us', rfl, lr, lu'⟩ := (hq ▸ lu : LsAt K H us (L :: u')).un
            have z0 := (qh ▸ lh : LsAt K H ls []).no
            subst z0
            refine ⟨_, rfl, .inl ⟨rfl, _, SqL.of (s3 _ _ e1)⟩, r1, _, 0, 0, .ref r, rfl, rfl, s3 _ _ e1, by decide, by decide, ix0 _ _, rfl, ?_⟩
            refine ⟨_, rfl, S, _, _, 2, rfl, rfl, by rw [upd_ne n2]; exact s3 _ _ eS, rfl, ?_⟩
            refine ⟨_, rfl, S, _, _, _, rfl, rfl, SqL.of upd_same, rfl, ?_⟩
            exact tk r L [] us' [] u' H3 _ _ (by unfold bgn; rw [qh, hq]) lr LsAt.nil lu' s3 (Mods.refl.upd (.inl (by simp))) (by rw [upd_ne n3]; exact s3 _ _ e0) upd_same rfl
        | i + 2, hi => simp at hi
      · rintro σ H2 ⟨x, rfl, s2, ep2, i1, i2⟩
        refine k1 ?_ H2 s2
        rw [bq]
        unfold bgn
        rw [i1 (show 1 ≤ 2 by decide), i2 (show 2 ≤ 2 by decide)]
        exact hb
    · have hp : q.p ≠ [] := by
        rcases ok.b with z | z
        · rw [hb] at z; cases z.2
        · exact z.1
      have bq : bg q = q := by unfold bg; rw [if_neg hp]
      refine ⟨_, rfl, S, _, _, _, rfl, rfl, SqL.of eS, rfl, rfl, _, rfl, iteNY (by intro z; cases z) ?_⟩
      exact ⟨_, rfl, S, _, _, _, rfl, rfl, SqL.of eS, rfl, k2 r L H (by rw [bq]; exact hb) Mods.refl (by rw [bq]; exact hsA) lr⟩
/-! _law_put_both -/
def sp__law_put_both (K : PySem.W.Frag) (C : Addr) : Sp := fun vs H Q _ => ∃ (x S r0 r1 r : Addr) (own : List Addr) (q : Qs) (M : Ltr), vs = [.ref x, .ref S, .ref r] ∧ QAt K C H x own q ∧ SAt K H S r0 r1 q ∧ (∀ a ∈ own, a ∉ [S, r0, r1]) ∧ QOk q 1000 ∧ LtAt K H r M ∧ LtOk M ∧
  ∀ (r0' r1' : Addr) (H' : Hp), Mods (own ++ [S, r0, r1]) H H' → Grw [S, r0, r1] [S, r0', r1'] H → QAt K C H' x own (putQ q M) → SAt K H' S r0' r1' (putQ q M) → Q .non H'
theorem sc__law_put_both : FnScope ["queue", "state", "letter", "at"] ["queue", "state", "letter"] (defScope s__law_put_both) := ⟨rfl, rfl, rfl, by decide +kernel, rfl, by decide +kernel, by decide +kernel⟩
theorem ok__law_put_both {fp : FuncData} (F : Site K mg "_law_put_both" s__law_put_both) (T : Txt K mg t) (D__law_put : Def P w K mg base 2 "_law_put" ["row", "letter"] (sp__law_put K)) (F_put : FnOk P w K mg base (CX1 P w) 4 t.m_put fp ["self", "letter"] (sp_put K t.Queue)) (B_put : Binds K fp ["self", "letter"] []) :
    Def P w K mg base 5 "_law_put_both" ["queue", "state", "letter"] (sp__law_put_both K t.Queue) := by
  refine F.def sc__law_put_both (fun _ _ _ _ _ _ us hl => match us, hl with | [_, _, _], _ => rfl) (fun vs H Q E h => ?_) (fun f cdv A outer s H vs Q E hr h => ?_)
  · obtain ⟨x, S, r0, r1, r, own, q, M, rfl, _⟩ := h
    rfl
  · obtain ⟨x, S, r0, r1, r, own, q, M, rfl, hq, hs, dj, ok, lt, okM, k⟩ := h
    refine ⟨_, pss_cons (ps_set (i := 3) sc__law_put_both.nd rfl (Or.inl rfl) (pe_callTy call_int1 (by rfl) T.n_int boot_int (pa_cons (pe_cmpR op_ne (pe_ix (ix_tupK K) (pv 2) pe_int (fun _ _ => rfl)) pe_str (nomark _)) pa_nil)))
      (pss_cons (ps_asg (pe_def (D__law_put.mono (by decide)) hr passN (pa_cons (pe_ix (ix_listK K) (pv 1) (pv 3) (fun _ _ => rfl)) (pa_cons (pv 2) pa_nil))) (pg_sub (pv 1) (pv 3) set_list))
      (pss_one (ps_expr (pe_meth (pv 0) T.cQueue T.me_put (F_put.mono (by decide)) hr B_put .nil passN (pa_cons (pv 2) pa_nil))))), ?_⟩
    have lt' := lt
    obtain ⟨w', a', b', z1, z2⟩ := lt'
    obtain ⟨b, ls, us, eS, e0, e1, lh, lu, eb, nd⟩ := hs.out
    have nd' := nd
    simp only [List.nodup_cons, List.mem_cons, List.not_mem_nil, or_false, not_or] at nd'
    obtain ⟨⟨n1, n2⟩, n3, -⟩ := nd'
    refine ⟨_, rfl, r, _, _, _, rfl, rfl, z1, rfl, rfl, .inr ⟨_, rfl, ?_⟩⟩
    have djS : ∀ a ∈ own, a ≠ S := fun a ha z => dj a ha (by rw [z]; simp)
    by_cases hk : M.kind = "news"
    · rw [show (!decide (V.str M.kind = V.str "news")) = false by rw [hk]; simp]
      refine ⟨_, rfl, _, rfl, S, _, _, _, rfl, rfl, SqL.of eS, (rfl : atI [V.ref r0, V.ref r1, b] 0 = some (.ref r0)), _, rfl, r0, r, ls, q.h, M, rfl, e0, lh, ok.h, lt, okM, ok.lh, fun p as1 H2 s2 fp ep la => ?_⟩
      refine ⟨_, rfl, _, rfl, S, _, _, 0, rfl, rfl, s2 _ _ eS, rfl, ?_⟩
      have m3 : Mods [S] H2 (upd H2 S (.lst ([V.ref r0, V.ref r1, b].set 0 (.ref p)))) := Mods.refl.upd (.inl List.mem_cons_self)
      have k3 := kept_lst (o := .lst ([V.ref r0, V.ref r1, b].set 0 (.ref p))) (s2 _ _ eS)
      have q3 := (hq.same s2).mods m3 k3 fun a ha z => djS a ha (List.mem_singleton.mp z)
      have lt3 := (lt.same s2).kept k3
      have nS : S ≠ p := ne_of_none eS fp
      have n1p : r1 ≠ p := ne_of_none e1 fp
      have st3 : SAt K (upd H2 S (.lst ([V.ref r0, V.ref r1, b].set 0 (.ref p)))) S p r1 (putQ q M) := by
        have ee : putQ q M = { q with h := putL q.h M } := by unfold putQ; rw [if_pos hk]
        rw [ee]
        refine .mk (b := b) upd_same (m3 _ _ (by simpa using Ne.symm nS) ep) (m3 _ _ (by simpa using Ne.symm n2) (s2 _ _ e1)) (la.kept k3) ((lu.kept (.same s2)).kept k3) (eb.elim .inl fun ⟨L, r, a1, a2, a3⟩ => .inr ⟨L, r, a1, a2, (a3.same s2).kept k3⟩) ?_
        simp only [List.nodup_cons, List.mem_cons, List.not_mem_nil, or_false, not_or, not_false_eq_true, List.nodup_nil, and_true]
        exact ⟨⟨nS, n2⟩, Ne.symm n1p⟩
      generalize upd H2 S (.lst ([V.ref r0, V.ref r1, b].set 0 (.ref p))) = H3 at m3 k3 q3 lt3 st3 ⊢
      obtain ⟨dx, _, _, _, _, _, _, _, _, ex, _⟩ := q3.out
      refine ⟨_, rfl, x, dx, _, rfl, ex, rfl, _, rfl, x, r, own, q, M, rfl, q3, ok, lt3, okM, fun H4 m4 q4 => ?_⟩
      have m34 : Mods (own ++ [S, r0, r1]) H2 H4 := (m3.up (S' := own ++ [S, r0, r1]) fun a ha => by rw [List.mem_singleton.mp ha]; simp).trans (m4.up fun a ha => List.mem_append_left _ ha)
      refine k p r1 H4 ((Mods.same s2).trans m34) (fun a ha => ?_) q4 (st3.mods m4 (q3.kept m4) fun a ha z => ?_)
      · simp only [List.mem_cons, List.not_mem_nil, or_false] at ha
        rcases ha with rfl | rfl | rfl
        · exact .inl (by simp)
        · exact .inr fp
        · exact .inl (by simp)
      · simp only [List.mem_cons, List.not_mem_nil, or_false] at ha
        rcases ha with rfl | rfl | rfl
        · exact djS _ z rfl
        · obtain ⟨o, ho⟩ := (hq.nt _ z).2; rw [fp] at ho; cases ho
        · exact dj _ z (by simp)
    · rw [show (!decide (V.str M.kind = V.str "news")) = true by simp [hk]]
      refine ⟨_, rfl, _, rfl, S, _, _, _, rfl, rfl, SqL.of eS, (rfl : atI [V.ref r0, V.ref r1, b] 1 = some (.ref r1)), _, rfl, r1, r, us, q.u, M, rfl, e1, lu, ok.u, lt, okM, ok.lu, fun p as1 H2 s2 fp ep la => ?_⟩
      refine ⟨_, rfl, _, rfl, S, _, _, 1, rfl, rfl, s2 _ _ eS, rfl, ?_⟩
      have m3 : Mods [S] H2 (upd H2 S (.lst ([V.ref r0, V.ref r1, b].set 1 (.ref p)))) := Mods.refl.upd (.inl List.mem_cons_self)
      have k3 := kept_lst (o := .lst ([V.ref r0, V.ref r1, b].set 1 (.ref p))) (s2 _ _ eS)
      have q3 := (hq.same s2).mods m3 k3 fun a ha z => djS a ha (List.mem_singleton.mp z)
      have lt3 := (lt.same s2).kept k3
      have nS : S ≠ p := ne_of_none eS fp
      have n0p : r0 ≠ p := ne_of_none e0 fp
      have st3 : SAt K (upd H2 S (.lst ([V.ref r0, V.ref r1, b].set 1 (.ref p)))) S r0 p (putQ q M) := by
        have ee : putQ q M = { q with u := putL q.u M } := by unfold putQ; rw [if_neg hk]
        rw [ee]
        refine .mk (b := b) upd_same (m3 _ _ (by simpa using Ne.symm n1) (s2 _ _ e0)) (m3 _ _ (by simpa using Ne.symm nS) ep) ((lh.kept (.same s2)).kept k3) (la.kept k3) (eb.elim .inl fun ⟨L, r, a1, a2, a3⟩ => .inr ⟨L, r, a1, a2, (a3.same s2).kept k3⟩) ?_
        simp only [List.nodup_cons, List.mem_cons, List.not_mem_nil, or_false, not_or, not_false_eq_true, List.nodup_nil, and_true]
        exact ⟨⟨n1, nS⟩, n0p⟩
      generalize upd H2 S (.lst ([V.ref r0, V.ref r1, b].set 1 (.ref p))) = H3 at m3 k3 q3 lt3 st3 ⊢
      obtain ⟨dx, _, _, _, _, _, _, _, _, ex, _⟩ := q3.out
      refine ⟨_, rfl, x, dx, _, rfl, ex, rfl, _, rfl, x, r, own, q, M, rfl, q3, ok, lt3, okM, fun H4 m4 q4 => ?_⟩
      have m34 : Mods (own ++ [S, r0, r1]) H2 H4 := (m3.up (S' := own ++ [S, r0, r1]) fun a ha => by rw [List.mem_singleton.mp ha]; simp).trans (m4.up fun a ha => List.mem_append_left _ ha)
      refine k r0 p H4 ((Mods.same s2).trans m34) (fun a ha => ?_) q4 (st3.mods m4 (q3.kept m4) fun a ha z => ?_)
      · simp only [List.mem_cons, List.not_mem_nil, or_false] at ha
        rcases ha with rfl | rfl | rfl
        · exact .inl (by simp)
        · exact .inl (by simp)
        · exact .inr fp
      · simp only [List.mem_cons, List.not_mem_nil, or_false] at ha
        rcases ha with rfl | rfl | rfl
        · exact djS _ z rfl
        · exact dj _ z (by simp)
        · obtain ⟨o, ho⟩ := (hq.nt _ z).2; rw [fp] at ho; cases ho
end
end K43
namespace K43
open PySem L2 PyProof.Rows
section
variable {P : Program} {w : World} {K : PySem.W.Frag} {mg : Str → Option Value} {base : Heap} {t : Ad}
theorem Mods.app {S S' : List Addr} {H H1 H2 : Hp} (a : Mods S H H1) (b : Mods S' H1 H2) : Mods (S ++ S') H H2 := fun x o n e => b x o (fun z => n (List.mem_append_right _ z)) (a x o (fun z => n (List.mem_append_left _ z)) e)
theorem QOk.le {q : Qs} {n m : Nat} (h : QOk q n) (l : n ≤ m) : QOk q m := ⟨h.h, h.u, h.kh, h.ku, Nat.le_trans h.lh l, Nat.le_trans h.lu l, h.b, h.lp⟩
theorem Grw.of {own own1 own2 : List Addr} {H H1 : Hp} (g : Grw own own1 H) (m : Mods own H H1) (g2 : Grw own1 own2 H1) : Grw own own2 H := fun a ha => by
  rcases g2 a ha with h | h
  · exact g a h
  · by_cases z : a ∈ own
    · exact .inl z
    · exact .inr (m.free h z)
/-! a side: queue, joiner and state -/
inductive Sd (K : PySem.W.Frag) (Cq Cj : Addr) (H : Hp) (x S y : Addr) : List Addr → Qs → List Int → Nat → Prop
  | mk {own : List Addr} {r0 r1 l : Addr} {q : Qs} {js : List Int} {n : Nat} (hq : QAt K Cq H x own q) (hs : SAt K H S r0 r1 q) (hj : JnAt Cj H y l js) (d1 : ∀ a ∈ own, a ∉ [S, r0, r1]) (d2 : ∀ a ∈ own, a ∉ [y, l]) (d3 : ∀ a ∈ [S, r0, r1], a ∉ [y, l]) (ok : QOk q n) (jo : JoinOk js q) : Sd K Cq Cj H x S y (own ++ [S, r0, r1] ++ [y, l]) q js n
section
variable {K : PySem.W.Frag} {Cq Cj x S0 y : Addr} {H H' : Hp} {O S : List Addr} {q : Qs} {js : List Int} {n : Nat}
theorem Sd.out (h : Sd K Cq Cj H x S0 y O q js n) : ∃ (own : List Addr) (r0 r1 l : Addr), O = own ++ [S0, r0, r1] ++ [y, l] ∧ QAt K Cq H x own q ∧ SAt K H S0 r0 r1 q ∧ JnAt Cj H y l js ∧ (∀ a ∈ own, a ∉ [S0, r0, r1]) ∧ (∀ a ∈ own, a ∉ [y, l]) ∧ (∀ a ∈ [S0, r0, r1], a ∉ [y, l]) ∧ QOk q n ∧ JoinOk js q := by
  cases h with
  | mk hq hs hj d1 d2 d3 ok jo => exact ⟨_, _, _, _, rfl, hq, hs, hj, d1, d2, d3, ok, jo⟩
theorem JnAt.nt {C l : Addr} (h : JnAt C H y l js) : ∀ a ∈ [y, l], NT H a ∧ ∃ o, H a = some o := by
  obtain ⟨⟨dx, h1⟩, h2⟩ := h
  intro a ha
  simp only [List.mem_cons, List.not_mem_nil, or_false] at ha
  rcases ha with rfl | rfl
  · exact ⟨.ins h1, _, h1⟩
  · exact ⟨.lst h2, _, h2⟩
theorem Sd.nt (h : Sd K Cq Cj H x S0 y O q js n) : ∀ a ∈ O, NT H a ∧ ∃ o, H a = some o := by
  obtain ⟨own, r0, r1, l, rfl, hq, hs, hj, -⟩ := h.out
  intro a ha
  rcases List.mem_append.mp ha with ha | ha
  · rcases List.mem_append.mp ha with ha | ha
    · exact hq.nt a ha
    · exact hs.nt a ha
  · exact hj.nt a ha
theorem Sd.mods (h : Sd K Cq Cj H x S0 y O q js n) (m : Mods S H H') (k : Kept H H') (d : ∀ a ∈ O, a ∉ S) : Sd K Cq Cj H' x S0 y O q js n := by
  obtain ⟨own, r0, r1, l, rfl, hq, hs, hj, d1, d2, d3, ok, jo⟩ := h.out
  exact .mk (hq.mods m k fun a ha => d a (List.mem_append_left _ (List.mem_append_left _ ha))) (hs.mods m k fun a ha => d a (List.mem_append_left _ (List.mem_append_right _ ha))) (hj.mods m (d _ (by simp)) (d _ (by simp))) d1 d2 d3 ok jo
theorem Sd.same (h : Sd K Cq Cj H x S0 y O q js n) (s : Same H H') : Sd K Cq Cj H' x S0 y O q js n := h.mods (S := []) (Mods.same s) (.same s) fun _ _ => List.not_mem_nil
theorem Sd.kept (h : Sd K Cq Cj H x S0 y O q js n) (m : Mods O H H') : Kept H H' := m.kept fun a ha => (h.nt a ha).1
end
theorem join_len {js : List Int} {q : Qs} {n : Nat} (ok : QOk q n) (h : JoinOk js q) : js.length ≤ 100 := by
  rcases ok.b with ⟨e, _⟩ | ⟨_, L, e, o⟩
  · rw [h.1 e]; exact Nat.zero_le _
  · obtain ⟨i, _, _, ej⟩ := h.2 L e
    rw [ej, List.length_take, lsg_len]
    have := o.way.1.2; have := o.ab.1; have := o.bd.1
    omega
/-! _law_carried -/
def sp__law_carried (K : PySem.W.Frag) (Cq Cj : Addr) : Sp := fun vs H Q _ => ∃ (x y S : Addr) (O : List Addr) (q : Qs) (js : List Int) (n : Nat) (m : Int), vs = [.ref x, .ref y, .ref S, .int m] ∧ 0 ≤ m ∧ m ≤ 1000 ∧ n ≤ 1000 ∧ nl q ≤ 1000 ∧ Sd K Cq Cj H x S y O q js n ∧
  ∀ (wA : Addr) (as : List Addr) (ws : List Ltr) (O' : List Addr) (q' : Qs) (js' : List Int) (H' : Hp), Mods O H H' → Grw O O' H → H wA = none → wA ∉ O' → H' wA = some (.lst (as.map V.ref)) → LsAt K H' as ws → (∀ L ∈ ws, LtOk L) → Sd K Cq Cj H' x S y O' q' js' n → nl q' + ws.length ≤ nl q → (rem q' + m.toNat ≤ rem q ∨ rem q' = 0) → Q (.ref wA) H'
theorem sc__law_carried : FnScope ["queue", "joiner", "state", "many", "whole", "k", "due", "piece", "signs", "letter"] ["queue", "joiner", "state", "many"] (defScope s__law_carried) := ⟨rfl, rfl, rfl, by decide +kernel, rfl, by decide +kernel, by decide +kernel⟩
set_option maxHeartbeats 2000000 in
theorem ok__law_carried {fn ft : FuncData} (F : Site K mg "_law_carried" s__law_carried) (T : Txt K mg t) (D__law_due_next : Def P w K mg base 1 "_law_due_next" ["state"] (sp__law_due_next K)) (D_letter_of : Def P w K mg base 4 "letter_of" ["signs"] (sp_letter_of K t.BadLetter)) (F_next_piece : FnOk P w K mg base (CX1 P w) 5 t.m_next_piece fn ["self"] (sp_next_piece K t.Queue)) (B_next_piece : Binds K fn ["self"] [])
    (F_take : FnOk P w K mg base (CX1 P w) 3 t.m_take ft ["self", "piece"] (sp_take K t.Joiner t.BadPiece)) (B_take : Binds K ft ["self", "piece"] []) : Def P w K mg base 6 "_law_carried" ["queue", "joiner", "state", "many"] (sp__law_carried K t.Queue t.Joiner) := by
  refine F.def sc__law_carried (fun _ _ _ _ _ _ us hl => match us, hl with | [_, _, _, _], _ => rfl) (fun vs H Q E h => ?_) (fun f cdv A outer s H vs Q E hr h => ?_)
  · obtain ⟨x, y, S, O, q, js, n, m, rfl, _⟩ := h
    rfl
  · obtain ⟨x, y, S, O, q, js, n, m, rfl, m0, m1, hn, hnl, hd, k⟩ := h
    refine ⟨_, pss_cons (ps_set (i := 4) sc__law_carried.nd rfl (Or.inl rfl) (pe_lst pa_nil))
      (pss_cons (PS.nox (ps_for PassesOwn.never rfl (pi_range1 (by rfl) T.n_range (pa_cons (pv 3) pa_nil)) (pg_name (i := 5) sc__law_carried.nd rfl (Or.inl rfl))
        (pss_cons (ps_set (i := 6) sc__law_carried.nd rfl (Or.inl rfl) (pe_def (D__law_due_next.mono (by decide)) hr passN (pa_cons (pv 2) pa_nil)))
        (pss_cons (ps_set (i := 7) sc__law_carried.nd rfl (Or.inl rfl) (pe_meth0 (pv 0) T.cQueue T.me_next_piece (F_next_piece.mono (by decide)) hr B_next_piece .nil passN))
        (pss_cons (ps_if (pt_cmpR op_ne (pe_cmpR op_isN (pv 7) pe_non (nomark _)) (pe_cmpR op_isN (pv 6) pe_non (nomark _)) (nomark _))
          (pss_one (ps_ret pe_non))
          (pss_nil))
        (pss_one (ps_if (pt_cmpR op_notN (pv 7) pe_non (nomark _))
          (pss_cons (ps_set (i := 8) sc__law_carried.nd rfl (Or.inl rfl) (pe_meth (pv 1) T.cJoiner T.me_take (F_take.mono (by decide)) hr B_take .nil passN (pa_cons (pv 7) pa_nil)))
          (pss_one (ps_if (pt_cmpR op_notN (pv 8) pe_non (nomark _))
            (pss_cons (ps_set (i := 9) sc__law_carried.nd rfl (Or.inl rfl) (pe_def (D_letter_of.mono (by decide)) hr passN (pa_cons (pv 8) pa_nil)))
            (pss_cons (ps_if (pt_cmpR (op_neD K (hu16 hr)) (pv 9) (pv 6) (nomark _))
              (pss_one (ps_ret pe_non))
              (pss_nil))
            (pss_cons (ps_expr (pe_bmK K PySem.F.plainAttrs_list PySem.F.slot_list_append PySem.F.type_list_append mt_append (pv 4) (pa_cons (pv 9) pa_nil)))
            (pss_one (ps_asg pe_non (pg_sub (pv 2) pe_int set_list))))))
            (pss_nil))))
          (pss_nil))))))))
      (pss_one (ps_ret (pv 4)))), ?_⟩
    have hsz : (3000 : Nat) ≤ sizeLine := by decide
    refine ⟨by show 0 ≤ sizeLine; decide, fun wA hw => ?_⟩
    have s0 := (Same.refl H).new (o := .lst []) hw
    have fresh : ∀ {O' : List Addr} {G : Hp}, Grw O O' H → G wA ≠ none → ∀ a, H a = none → True := fun _ _ _ _ => trivial
    clear fresh
    let I : Nat → L2.St → Hp → Prop := fun i σ H' => ∃ (as : List Addr) (ws : List Ltr) (O' : List Addr) (q' : Qs) (js' : List Int), (∃ v5 v6 v7 v8 v9 : Option V, σ = [some (.ref x), some (.ref y), some (.ref S), some (.int m), some (.ref wA), v5, v6, v7, v8, v9]) ∧ Mods O H H' ∧ Grw O O' H ∧ wA ∉ O' ∧ H' wA = some (.lst (as.map V.ref)) ∧ LsAt K H' as ws ∧ (∀ L ∈ ws, LtOk L) ∧ Sd K t.Queue t.Joiner H' x S y O' q' js' n ∧ nl q' + ws.length ≤ nl q ∧ (rem q' + i ≤ rem q ∨ rem q' = 0)
    have nw : wA ∉ O := fun z => by obtain ⟨o, ho⟩ := (hd.nt wA z).2; rw [hw] at ho; cases ho
    refine ⟨_, rfl, m, rfl, by omega, by omega, for_range (lo := 0) (n := m.toNat) I ⟨[], [], O, q, js, ⟨none, none, none, none, none, rfl⟩, Mods.same s0, fun a ha => .inl ha, nw, upd_same, LsAt.nil, fun L h => by simp at h, hd.same s0, Nat.le_refl _, .inl (Nat.le_refl _)⟩ ?_ ?_⟩
    · rintro i σ H1 hi ⟨as, ws, O1, q1, js1, ⟨v5, v6, v7, v8, v9, rfl⟩, m1', g1, nw1, ew1, la1, ok1, sd1, hl1, hr1⟩
      have sd1' := sd1
      obtain ⟨own, r0, r1, l, rfl, hq, hs, hj, d1, d2, d3, ok, jo⟩ := sd1.out
      have okk := ok.le hn
      refine ⟨_, rfl, S, r0, r1, q1, rfl, hs, okk, fun hb H2 s2 => ?_, fun r L H2 hb m2 hs2 lr => ?_⟩
      · -- nothing is due
        have hp : (bg q1).p = [] := by
          rcases (bg_ok ok).b with z | ⟨_, L, z, _⟩
          · exact z.1
          · rw [hb] at z; cases z
        obtain ⟨z1, z2, z3⟩ := bg_none hp
        have bq : bg q1 = q1 := by unfold bg; rw [if_pos z3]; unfold bgn; rw [z1, z2]
        have sd2 := sd1'.same s2
        have hq2 := hq.same s2
        obtain ⟨dx, _, _, _, _, _, _, _, _, ex, _⟩ := hq2.out
        refine ⟨_, rfl, x, dx, _, rfl, ex, rfl, x, own, q1, rfl, hq2, okk, ?_, ?_⟩
        rotate_left
        · intro a rr tl o' H' e
          rw [hp] at e; cases e
        intro _ own' H3 m3 g3 qa3
        rw [bq] at qa3
        refine ⟨_, rfl, rfl, _, rfl, rfl, rfl, _, rfl, iteNN rfl ?_⟩
        refine ⟨_, rfl, rfl, _, rfl, iteNN rfl ?_⟩
        have k3 := hq2.kept m3
        have frz : ∀ a, (∃ o, H2 a = some o) → a ∉ own → a ∉ own' := fun a ⟨o, ho⟩ na z => (g3 a z).elim na fun e => by rw [ho] at e; cases e
        have hs3 := (hs.same s2).mods m3 k3 fun a ha z => d1 a z ha
        have hj3 := (hj.same s2).mods m3 (fun z => d2 _ z (by simp)) (fun z => d2 _ z (by simp))
        have nwo : wA ∉ own := fun z => nw1 (List.mem_append_left _ (List.mem_append_left _ z))
        have mt : Mods (own ++ [S, r0, r1] ++ [y, l]) H1 H3 := (Mods.same s2).trans (m3.up fun a ha => List.mem_append_left _ (List.mem_append_left _ ha))
        have gt : Grw (own ++ [S, r0, r1] ++ [y, l]) (own' ++ [S, r0, r1] ++ [y, l]) H1 := fun a ha => by
          rcases List.mem_append.mp ha with ha | ha
          · rcases List.mem_append.mp ha with ha | ha
            · exact (g3 a ha).elim (fun z => .inl (List.mem_append_left _ (List.mem_append_left _ z))) fun z => .inr (s2.free z)
            · exact .inl (List.mem_append_left _ (List.mem_append_right _ ha))
          · exact .inl (List.mem_append_right _ ha)
        have e0 : rem q1 = 0 := by unfold rem; rw [z1, z2, z3]; rfl
        refine ⟨as, ws, _, q1, js1, ⟨_, _, _, _, _, rfl⟩, m1'.trans' mt g1, Grw.of g1 m1' gt, ?_, m3 _ _ nwo (s2 _ _ ew1), (la1.kept (.same s2)).kept k3, ok1, .mk qa3 hs3 hj3 (fun a ha z => frz a ((hs.same s2).nt a z).2 (fun y => d1 a y z) ha) (fun a ha z => frz a ((hj.same s2).nt a z).2 (fun y => d2 a y z) ha) d3 ok jo, hl1, .inr e0⟩
        intro z
        rcases List.mem_append.mp z with z | z
        · rcases List.mem_append.mp z with z | z
          · exact frz wA ⟨_, s2 _ _ ew1⟩ nwo z
          · exact nw1 (List.mem_append_left _ (List.mem_append_right _ z))
        · exact nw1 (List.mem_append_right _ z)
      · -- a letter is due, and a piece comes
        have okb := bg_ok ok
        have jb := join_bg ok jo
        have k2 := hs.kept m2
        obtain ⟨rr, tl, hp⟩ : ∃ rr tl, (bg q1).p = rr :: tl := by
          rcases okb.b with z | z
          · rw [hb] at z; cases z.2
          · cases e : (bg q1).p with
            | nil => exact absurd e z.1
            | cons a b => exact ⟨a, b, rfl⟩
        have hq2 := hq.mods m2 k2 d1
        have hj2 := hj.mods m2 (fun z => d3 _ z (by simp)) (fun z => d3 _ z (by simp))
        obtain ⟨dx, _, _, _, _, _, _, _, _, ex, _⟩ := hq2.out
        refine ⟨_, rfl, x, dx, _, rfl, ex, rfl, x, own, q1, rfl, hq2, okk, ?_, ?_⟩
        · intro e; rw [hp] at e; cases e
        intro a rr' tl' own' H3 hp' m3 g3 qa3 na ha ea
        rw [hp] at hp'
        cases hp'
        have k3 := hq2.kept m3
        have frz : ∀ a, (∃ o, H2 a = some o) → a ∉ own → a ∉ own' := fun a ⟨o, ho⟩ na z => (g3 a z).elim na fun e => by rw [ho] at e; cases e
        have hs3 := hs2.mods m3 k3 fun a ha z => d1 a z ha
        have hj3 := hj2.mods m3 (fun z => d2 _ z (by simp)) (fun z => d2 _ z (by simp))
        have nwo : wA ∉ own := fun z => nw1 (List.mem_append_left _ (List.mem_append_left _ z))
        have nws : wA ∉ [S, r0, r1] := fun z => nw1 (List.mem_append_left _ (List.mem_append_right _ z))
        have nwj : wA ∉ [y, l] := fun z => nw1 (List.mem_append_right _ z)
        have ew3 := m3 _ _ nwo (m2 _ _ nws ew1)
        have la3 := (la1.kept k2).kept k3
        have lr3 := lr.kept k3
        have mt : Mods (own ++ [S, r0, r1] ++ [y, l]) H1 H3 := (m2.up fun a ha => List.mem_append_left _ (List.mem_append_right _ ha)).trans (m3.up fun a ha => List.mem_append_left _ (List.mem_append_left _ ha))
        have nwo' : wA ∉ own' := frz wA ⟨_, m2 _ _ nws ew1⟩ nwo
        have dd1 : ∀ a ∈ own', a ∉ [S, r0, r1] := fun a ha z => frz a (hs2.nt a z).2 (fun y => d1 a y z) ha
        have dd2 : ∀ a ∈ own', a ∉ [y, l] := fun a ha z => frz a (hj2.nt a z).2 (fun y => d2 a y z) ha
        have g13 : ∀ a ∈ own', a ∈ own ++ [S, r0, r1] ++ [y, l] ∨ H1 a = none := fun a ha => (g3 a ha).elim (fun z => .inl (List.mem_append_left _ (List.mem_append_left _ z))) fun z => by
          by_cases y' : a ∈ [S, r0, r1]
          · exact .inl (List.mem_append_left _ (List.mem_append_right _ y'))
          · exact .inr (m2.free z y')
        obtain ⟨pr1, pr2⟩ := pop_rem hp
        obtain ⟨br1, br2⟩ := bg_rem ok
        have hr2 : rem (popQ (bg q1)) + (i + 1) ≤ rem q ∨ rem (popQ (bg q1)) = 0 := by
          rcases hr1 with h | h
          · exact .inl (by omega)
          · omega
        refine ⟨_, rfl, rfl, _, rfl, rfl, rfl, _, rfl, iteNN (by simp) ?_⟩
        refine ⟨_, rfl, rfl, _, rfl, iteNY (by intro z; cases z) ?_⟩
        obtain ⟨L', hb', okL, ipc, hc⟩ := join_next okb jb hp
        rw [hb] at hb'
        cases hb'
        have hj3' := hj3
        obtain ⟨⟨dy, ey⟩, el⟩ := hj3
        have nal : a ≠ l := fun z => by
          rcases ha with h | h
          · exact d2 a h (by rw [z]; simp)
          · obtain ⟨o, ho⟩ := (hj2.nt l (by simp)).2
            rw [z, ho] at h; cases h
        have nyw : wA ≠ y := fun z => nwj (by rw [z]; simp)
        have nlw : wA ≠ l := fun z => nwj (by rw [z]; simp)
        refine ⟨_, rfl, y, dy, _, rfl, ey, rfl, _, rfl, y, l, a, js1, rr, rfl, hj3', SqL.of ea, nal, fun n hn' => sgn_abs (ipc.2 n hn'), by have := join_len ok jo; omega, ?_, ?_, fun no => absurd ipc no⟩
        · -- it goes on
          intro _ hh H4 m4 hj4
          rcases hc with ⟨tn, _, jn⟩ | ⟨_, h0, _⟩
          · refine ⟨_, rfl, rfl, _, rfl, iteNN rfl ?_⟩
            have k4 : Kept H3 H4 := m4.kept fun a ha => by rw [List.mem_singleton.mp ha]; exact NT.lst el
            have hs4 := hs3.mods m4 k4 fun a ha z => d3 a ha (by rw [List.mem_singleton.mp z]; simp)
            have qa4 := qa3.mods m4 k4 fun a ha z => dd2 a ha (by rw [List.mem_singleton.mp z]; simp)
            have pb : (popQ (bg q1)).b = (bg q1).b := by
              show (if (bg q1).p.tail = [] then none else (bg q1).b) = _
              rw [if_neg (by rw [hp]; exact tn)]
            refine ⟨as, ws, own' ++ [S, r0, r1] ++ [y, l], popQ (bg q1), _, ⟨_, _, _, _, _, rfl⟩, m1'.trans' (mt.trans (m4.up fun a ha => by rw [List.mem_singleton.mp ha]; simp)) g1, Grw.of g1 m1' (fun a ha => ?_), fun z => ?_, m4 _ _ (by simpa using nlw) ew3, la3.kept k4, ok1, .mk qa4 (hs4.like rfl rfl pb) hj4 dd1 dd2 d3 (popQ_ok okb) jn, by omega, hr2⟩
            · rcases List.mem_append.mp ha with ha | ha
              · rcases List.mem_append.mp ha with ha | ha
                · exact g13 a ha
                · exact .inl (List.mem_append_left _ (List.mem_append_right _ ha))
              · exact .inl (List.mem_append_right _ ha)
            · rcases List.mem_append.mp z with z | z
              · rcases List.mem_append.mp z with z | z
                · exact nwo' z
                · exact nws z
              · exact nwj z
          · exact absurd hh h0
        · -- it is whole
          intro _ hh l' H4 fl' m4 el4 hj4
          rcases hc with ⟨_, h0, _⟩ | ⟨tn, _, ej, jn⟩
          · exact absurd h0 hh
          · refine ⟨_, rfl, rfl, _, rfl, iteNY (by intro z; cases z) ?_⟩
            rw [ej] at el4
            have k4 : Kept H3 H4 := m4.kept fun a ha => (hj3'.nt a ha).1
            have hs4 := hs3.mods m4 k4 fun a ha z => d3 a ha z
            have qa4 := qa3.mods m4 k4 fun a ha z => dd2 a ha z
            have ew4 := m4 _ _ nwj ew3
            refine ⟨_, rfl, l, lsg L, rfl, SqL.of el4, fun n hn' => sgn_abs (lsg_sgn okL n hn'), fun isl r2 H5 s5 lt5 => ?_, fun no => absurd ⟨(lsg_hd okL).1, by rw [(lsg_hd okL).2]; exact okL⟩ no⟩
            rw [(lsg_hd okL).2] at lt5
            have lr5 := (lr3.kept k4).same s5
            refine ⟨_, rfl, _, rfl, _, _, lt5.dat (n := 6) okL.kind, lr5.dat (n := 6) okL.kind, _, rfl, ?_⟩
            show if (!(PyData.eqv (ltD L) (ltD L))) = true then _ else _
            rw [(lt5.dat (n := 6) okL.kind).eqv]
            refine iteF ?_
            have ew5 := s5 _ _ ew4
            have la5 := (la3.kept k4).kept (.same s5)
            refine ⟨_, rfl, .inl ⟨rfl, _, SqL.of ew5⟩, _, rfl, wA, _, _, rfl, rfl, ew5, by rw [List.length_map, la5.1]; omega, ?_⟩
            have m6 : Mods [wA] H5 (upd H5 wA (.lst (as.map V.ref ++ [.ref r2]))) := Mods.refl.upd (.inl List.mem_cons_self)
            have k6 : Kept H5 (upd H5 wA (.lst (as.map V.ref ++ [.ref r2]))) := kept_lst ew5
            have hs6 := (hs4.same s5).mods m6 k6 fun a ha z => nws (by rw [List.mem_singleton.mp z] at ha; exact ha)
            have qa6 := (qa4.same s5).mods m6 k6 fun a ha z => nwo' (by rw [List.mem_singleton.mp z] at ha; exact ha)
            have nwl' : l' ≠ wA := (ne_of_none ew3 fl').symm
            have hj6 := (hj4.same s5).mods m6 (by simpa using Ne.symm nyw) (by simpa using nwl')
            have ew6 : (upd H5 wA (.lst (as.map V.ref ++ [.ref r2]))) wA = some (.lst ((as ++ [r2]).map V.ref)) := by rw [upd_same, List.map_append]; rfl
            have la6 := (la5.app (LsAt.one lt5)).kept k6
            have mt6 : Mods (own ++ [S, r0, r1] ++ [y, l]) H1 H5 := (mt.trans (m4.up fun a ha => List.mem_append_right _ ha)).trans (Mods.same s5)
            have mO : Mods O H (upd H5 wA (.lst (as.map V.ref ++ [.ref r2]))) := (m1'.trans' mt6 g1).upd (.inr hw)
            generalize upd H5 wA (.lst (as.map V.ref ++ [.ref r2])) = H6 at m6 k6 hs6 qa6 hj6 ew6 la6 mO ⊢
            obtain ⟨b6, hs_, us_, eS6, e06, e16, lh6, lu6, eb6, nd6⟩ := hs6.out
            have nd' := nd6
            simp only [List.nodup_cons, List.mem_cons, List.not_mem_nil, or_false, not_or] at nd'
            obtain ⟨⟨n1, n2⟩, n3, -⟩ := nd'
            refine ⟨_, rfl, S, _, _, 2, rfl, rfl, eS6, rfl, ?_⟩
            have m7 : Mods [S] H6 (upd H6 S (.lst ([V.ref r0, V.ref r1, b6].set 2 .non))) := Mods.refl.upd (.inl List.mem_cons_self)
            have k7 : Kept H6 (upd H6 S (.lst ([V.ref r0, V.ref r1, b6].set 2 .non))) := kept_lst eS6
            have nSw : wA ≠ S := fun z => nws (by rw [z]; simp)
            have dS : ∀ a ∈ own', a ≠ S := fun a ha z => dd1 a ha (by rw [z]; simp)
            have nyS : y ≠ S := fun z => d3 S (by simp) (by rw [← z]; simp)
            obtain ⟨b3, _, _, eS3, _⟩ := hs3.out
            have nlS : l' ≠ S := (ne_of_none eS3 fl').symm
            have st7 : SAt K (upd H6 S (.lst ([V.ref r0, V.ref r1, b6].set 2 .non))) S r0 r1 (popQ (bg q1)) := .mk (b := .non) upd_same (m7 _ _ (by simpa using Ne.symm n1) e06) (m7 _ _ (by simpa using Ne.symm n2) e16) (lh6.kept k7) (lu6.kept k7) (.inl ⟨by show (if (bg q1).p.tail = [] then none else (bg q1).b) = none; rw [if_pos (by rw [hp]; exact tn)], rfl⟩) nd6
            have pl := pop_last (by rw [hp, tn]) hb
            refine ⟨as ++ [r2], ws ++ [L], own' ++ [S, r0, r1] ++ [y, l'], popQ (bg q1), [], ⟨_, _, _, _, _, rfl⟩, mO.upd (g1 S (by simp)), Grw.of g1 m1' (fun a ha => ?_), fun z => ?_, m7 _ _ (by simpa using nSw) ew6, la6.kept k7, fun M hM => (List.mem_append.mp hM).elim (ok1 M) fun z => by rw [List.mem_singleton.mp z]; exact okL, .mk (qa6.mods m7 k7 fun a ha z => dS a ha (List.mem_singleton.mp z)) st7 (hj6.mods m7 (by simpa using nyS) (by simpa using nlS)) dd1 (fun a ha z => ?_) (fun a ha z => ?_) (popQ_ok okb) jn, by rw [List.length_append, List.length_cons, List.length_nil]; omega, hr2⟩
            · rcases List.mem_append.mp ha with ha | ha
              · rcases List.mem_append.mp ha with ha | ha
                · exact g13 a ha
                · exact .inl (List.mem_append_left _ (List.mem_append_right _ ha))
              · simp only [List.mem_cons, List.not_mem_nil, or_false] at ha
                rcases ha with rfl | rfl
                · exact .inl (by simp)
                · by_cases y' : a ∈ own ++ [S, r0, r1] ++ [y, l]
                  · exact .inl y'
                  · exact .inr (mt.free fl' y')
            · rcases List.mem_append.mp z with z | z
              · rcases List.mem_append.mp z with z | z
                · exact nwo' z
                · exact nws z
              · simp only [List.mem_cons, List.not_mem_nil, or_false] at z
                rcases z with z | z
                · exact nyw z
                · exact nwl' z.symm
            · simp only [List.mem_cons, List.not_mem_nil, or_false] at z
              rcases z with z | z
              · exact dd2 a ha (by rw [z]; simp)
              · obtain ⟨o, ho⟩ := (qa3.nt a ha).2
                rw [z, fl'] at ho; cases ho
            · simp only [List.mem_cons, List.not_mem_nil, or_false] at z
              rcases z with z | z
              · exact d3 a ha (by rw [z]; simp)
              · obtain ⟨o, ho⟩ := (hs3.nt a ha).2
                rw [z, fl'] at ho; cases ho
    · rintro σ H1 ⟨as, ws, O1, q1, js1, ⟨v5, v6, v7, v8, v9, rfl⟩, m1', g1, nw1, ew1, la1, ok1, sd1, hl1, hr1⟩
      exact ⟨_, rfl, k wA as ws O1 q1 js1 H1 m1' g1 hw nw1 ew1 la1 ok1 sd1 hl1 hr1⟩
end
end K43
namespace K43
open PySem L2 PyProof.Rows
section
variable {P : Program} {w : World} {K : PySem.W.Frag} {mg : Str → Option Value} {base : Heap} {t : Ad}
theorem QOk.re {q : Qs} {n m : Nat} (h : QOk q n) (l : nl q ≤ m) : QOk q m := ⟨h.h, h.u, h.kh, h.ku, by unfold nl at l; omega, by unfold nl at l; omega, h.b, h.lp⟩
section
variable {K : PySem.W.Frag} {Cq Cj x S y : Addr} {H H' : Hp} {O : List Addr} {q : Qs} {js : List Int} {n : Nat}
theorem Sd.re (h : Sd K Cq Cj H x S y O q js n) {m : Nat} (l : nl q ≤ m) : Sd K Cq Cj H x S y O q js m := by
  obtain ⟨own, r0, r1, l', rfl, hq, hs, hj, d1, d2, d3, ok, jo⟩ := h.out
  exact .mk hq hs hj d1 d2 d3 (ok.re l) jo
/-- a letter was put in -/
theorem Sd.putted {own : List Addr} {r0 r1 l r0' r1' : Addr} {M : Ltr} (hq : QAt K Cq H x own q) (hs : SAt K H S r0 r1 q) (hj : JnAt Cj H y l js) (d1 : ∀ a ∈ own, a ∉ [S, r0, r1]) (d2 : ∀ a ∈ own, a ∉ [y, l]) (d3 : ∀ a ∈ [S, r0, r1], a ∉ [y, l]) (ok : QOk q n) (jo : JoinOk js q) (okM : LtOk M)
    (m : Mods (own ++ [S, r0, r1]) H H') (g : Grw [S, r0, r1] [S, r0', r1'] H) (q' : QAt K Cq H' x own (putQ q M)) (s' : SAt K H' S r0' r1' (putQ q M)) :
    Mods (own ++ [S, r0, r1] ++ [y, l]) H H' ∧ Grw (own ++ [S, r0, r1] ++ [y, l]) (own ++ [S, r0', r1'] ++ [y, l]) H ∧ Sd K Cq Cj H' x S y (own ++ [S, r0', r1'] ++ [y, l]) (putQ q M) js (n + 1) := by
  have jm : ∀ a ∈ [y, l], a ∉ own ++ [S, r0, r1] := fun a ha z => (List.mem_append.mp z).elim (fun z => d2 a z ha) fun z => d3 a z ha
  refine ⟨m.up fun a ha => List.mem_append_left _ ha, fun a ha => ?_, .mk q' s' (hj.mods m (jm _ (by simp)) (jm _ (by simp))) (fun a ha z => ?_) d2 (fun a ha z => ?_) (putQ_ok ok okM) (join_put jo M)⟩
  · rcases List.mem_append.mp ha with ha | ha
    · rcases List.mem_append.mp ha with ha | ha
      · exact .inl (List.mem_append_left _ (List.mem_append_left _ ha))
      · exact (g a ha).elim (fun z => .inl (List.mem_append_left _ (List.mem_append_right _ z))) .inr
    · exact .inl (List.mem_append_right _ ha)
  · rcases g a z with h | h
    · exact d1 a ha h
    · obtain ⟨o, ho⟩ := (hq.nt a ha).2; rw [h] at ho; cases ho
  · rcases g a ha with h | h
    · exact d3 a h z
    · obtain ⟨o, ho⟩ := (hj.nt a z).2; rw [h] at ho; cases ho
end
/-! both sides, and the lists that hold them -/
structure Wd (K : PySem.W.Frag) (Cq Cj : Addr) (H : Hp) (qs jl st x0 x1 y0 y1 S0 S1 : Addr) (O0 O1 : List Addr) (a b : Qs) (ja jb : List Int) : Prop where
  eq : H qs = some (.lst [.ref x0, .ref x1])
  ej : H jl = some (.lst [.ref y0, .ref y1])
  es : H st = some (.lst [.ref S0, .ref S1])
  s0 : Sd K Cq Cj H x0 S0 y0 O0 a ja 1000
  s1 : Sd K Cq Cj H x1 S1 y1 O1 b jb 1000
  dj : ∀ a ∈ O0, a ∉ O1
  dl : ∀ p ∈ [qs, jl, st], p ∉ O0 ∧ p ∉ O1
section
variable {K : PySem.W.Frag} {Cq Cj qs jl st x0 x1 y0 y1 S0 S1 : Addr} {H H' : Hp} {O0 O1 O' S : List Addr} {a b c : Qs} {ja jb jc : List Int}
theorem Wd.mods (h : Wd K Cq Cj H qs jl st x0 x1 y0 y1 S0 S1 O0 O1 a b ja jb) (m : Mods S H H') (k : Kept H H') (n0 : ∀ p ∈ O0, p ∉ S) (n1 : ∀ p ∈ O1, p ∉ S) (n2 : ∀ p ∈ [qs, jl, st], p ∉ S) : Wd K Cq Cj H' qs jl st x0 x1 y0 y1 S0 S1 O0 O1 a b ja jb :=
  ⟨m _ _ (n2 _ (by simp)) h.eq, m _ _ (n2 _ (by simp)) h.ej, m _ _ (n2 _ (by simp)) h.es, h.s0.mods m k n0, h.s1.mods m k n1, h.dj, h.dl⟩
theorem Wd.same (h : Wd K Cq Cj H qs jl st x0 x1 y0 y1 S0 S1 O0 O1 a b ja jb) (s : Same H H') : Wd K Cq Cj H' qs jl st x0 x1 y0 y1 S0 S1 O0 O1 a b ja jb := h.mods (S := []) (Mods.same s) (.same s) (fun _ _ => List.not_mem_nil) (fun _ _ => List.not_mem_nil) fun _ _ => List.not_mem_nil
theorem Wd.som (h : Wd K Cq Cj H qs jl st x0 x1 y0 y1 S0 S1 O0 O1 a b ja jb) : ∀ p ∈ [qs, jl, st], ∃ o, H p = some o := by
  intro p hp
  simp only [List.mem_cons, List.not_mem_nil, or_false] at hp
  rcases hp with rfl | rfl | rfl
  · exact ⟨_, h.eq⟩
  · exact ⟨_, h.ej⟩
  · exact ⟨_, h.es⟩
/-- the first side moves -/
theorem Wd.mv0 (h : Wd K Cq Cj H qs jl st x0 x1 y0 y1 S0 S1 O0 O1 a b ja jb) (m : Mods O0 H H') (g : Grw O0 O' H) (s : Sd K Cq Cj H' x0 S0 y0 O' c jc 1000) : Wd K Cq Cj H' qs jl st x0 x1 y0 y1 S0 S1 O' O1 c b jc jb := by
  have k := h.s0.kept m
  have fz : ∀ p, (∃ o, H p = some o) → p ∉ O0 → p ∉ O' := fun p ⟨o, ho⟩ n z => (g p z).elim n fun e => by rw [ho] at e; cases e
  exact ⟨m _ _ (h.dl _ (by simp)).1 h.eq, m _ _ (h.dl _ (by simp)).1 h.ej, m _ _ (h.dl _ (by simp)).1 h.es, s, h.s1.mods m k fun p hp z => h.dj p z hp, fun p hp z => fz p (h.s1.nt p z).2 (fun y => h.dj p y z) hp, fun p hp => ⟨fz p (h.som p hp) (h.dl p hp).1, (h.dl p hp).2⟩⟩
/-- the second side moves -/
theorem Wd.mv1 (h : Wd K Cq Cj H qs jl st x0 x1 y0 y1 S0 S1 O0 O1 a b ja jb) (m : Mods O1 H H') (g : Grw O1 O' H) (s : Sd K Cq Cj H' x1 S1 y1 O' c jc 1000) : Wd K Cq Cj H' qs jl st x0 x1 y0 y1 S0 S1 O0 O' a c ja jc := by
  have k := h.s1.kept m
  have fz : ∀ p, (∃ o, H p = some o) → p ∉ O1 → p ∉ O' := fun p ⟨o, ho⟩ n z => (g p z).elim n fun e => by rw [ho] at e; cases e
  exact ⟨m _ _ (h.dl _ (by simp)).2 h.eq, m _ _ (h.dl _ (by simp)).2 h.ej, m _ _ (h.dl _ (by simp)).2 h.es, h.s0.mods m k fun p hp z => h.dj p hp z, s, fun p hp z => fz p (h.s0.nt p hp).2 (h.dj p hp) z, fun p hp => ⟨(h.dl p hp).1, fz p (h.som p hp) (h.dl p hp).2⟩⟩
end
theorem Grw.left {A B A' : List Addr} {H : Hp} (g : Grw A A' H) : Grw (A ++ B) (A' ++ B) H := fun p hp => (List.mem_append.mp hp).elim (fun z => (g p z).elim (fun z => .inl (List.mem_append_left _ z)) .inr) fun z => .inl (List.mem_append_right _ z)
theorem Grw.right {A B B' : List Addr} {H : Hp} (g : Grw B B' H) : Grw (A ++ B) (A ++ B') H := fun p hp => (List.mem_append.mp hp).elim (fun z => .inl (List.mem_append_left _ z)) fun z => (g p z).elim (fun z => .inl (List.mem_append_right _ z)) .inr
/-! _law_step -/
def sp__law_step (K : PySem.W.Frag) (Cq Cj : Addr) : Sp := fun vs H Q _ => ∃ (qs jl st x0 x1 y0 y1 S0 S1 : Addr) (O0 O1 : List Addr) (a b : Qs) (ja jb : List Int) (i m : Int), vs = [.ref qs, .ref jl, .ref st, .int i, .int m] ∧ (i = 0 ∨ i = 1) ∧ 0 ≤ m ∧ m ≤ 1000 ∧ nl a + nl b ≤ 500 ∧ Wd K Cq Cj H qs jl st x0 x1 y0 y1 S0 S1 O0 O1 a b ja jb ∧
  ∀ (O0' O1' : List Addr) (a' b' : Qs) (ja' jb' : List Int) (H' : Hp), Mods (O0 ++ O1) H H' → Grw (O0 ++ O1) (O0' ++ O1') H → Wd K Cq Cj H' qs jl st x0 x1 y0 y1 S0 S1 O0' O1' a' b' ja' jb' → nl a' + nl b' ≤ nl a + nl b →
    ((i = 0 ∧ (rem a' + m.toNat ≤ rem a ∨ rem a' = 0)) ∨ (i = 1 ∧ a' = a ∧ ja' = ja ∧ (rem b' + m.toNat ≤ rem b ∨ rem b' = 0))) → Q (.bl true) H'
theorem sc__law_step : FnScope ["queues", "joiners", "states", "at", "many", "whole", "letter"] ["queues", "joiners", "states", "at", "many"] (defScope s__law_step) := ⟨rfl, rfl, rfl, by decide +kernel, rfl, by decide +kernel, by decide +kernel⟩
set_option maxHeartbeats 2000000 in
theorem ok__law_step (F : Site K mg "_law_step" s__law_step) (T : Txt K mg t) (D__law_carried : Def P w K mg base 6 "_law_carried" ["queue", "joiner", "state", "many"] (sp__law_carried K t.Queue t.Joiner)) (D__law_put_both : Def P w K mg base 5 "_law_put_both" ["queue", "state", "letter"] (sp__law_put_both K t.Queue)) :
    Def P w K mg base 7 "_law_step" ["queues", "joiners", "states", "at", "many"] (sp__law_step K t.Queue t.Joiner) := by
  refine F.def sc__law_step (fun _ _ _ _ _ _ us hl => match us, hl with | [_, _, _, _, _], _ => rfl) (fun vs H Q E h => ?_) (fun f cdv A outer s H vs Q E hr h => ?_)
  · obtain ⟨qs, jl, st, x0, x1, y0, y1, S0, S1, O0, O1, a, b, ja, jb, i, m, rfl, _⟩ := h
    rfl
  · obtain ⟨qs, jl, st, x0, x1, y0, y1, S0, S1, O0, O1, a, b, ja, jb, i, m, rfl, hi, m0, m1, hnl, hw, k⟩ := h
    refine ⟨_, pss_cons (ps_set (i := 5) sc__law_step.nd rfl (Or.inl rfl) (pe_def (D__law_carried.mono (by decide)) hr passN (pa_cons (pe_ix (ix_listK K) (pv 0) (pv 3) (fun _ _ => rfl)) (pa_cons (pe_ix (ix_listK K) (pv 1) (pv 3) (fun _ _ => rfl)) (pa_cons (pe_ix (ix_listK K) (pv 2) (pv 3) (fun _ _ => rfl)) (pa_cons (pv 4) pa_nil))))))
      (pss_cons (ps_if (pt_cmpR op_isN (pv 5) pe_non (nomark _))
        (pss_one (ps_ret pe_bl))
        (pss_nil))
      (pss_cons (ps_if (pt_cmpR op_eq (pv 3) pe_int (nomark _))
        (pss_one (PS.nox (ps_for PassesOwn.never rfl (pi_listK K (pv 5)) (pg_name (i := 6) sc__law_step.nd rfl (Or.inl rfl))
          (pss_one (ps_expr (pe_def (D__law_put_both.mono (by decide)) hr passN (pa_cons (pe_ix (ix_listK K) (pv 0) pe_int (fun _ _ => rfl)) (pa_cons (pe_ix (ix_listK K) (pv 2) pe_int (fun _ _ => rfl)) (pa_cons (pv 6) pa_nil)))))))))
        (pss_nil))
      (pss_one (ps_ret pe_bl)))), ?_⟩
    rcases hi with rfl | rfl
    · refine ⟨_, rfl, _, rfl, qs, _, _, _, rfl, rfl, SqL.of hw.eq, rfl, _, rfl, _, rfl, jl, _, _, _, rfl, rfl, SqL.of hw.ej, rfl, _, rfl, _, rfl, st, _, _, _, rfl, rfl, SqL.of hw.es, rfl, _, rfl, ?_⟩
      refine ⟨x0, y0, S0, O0, a, ja, 1000, m, rfl, m0, m1, Nat.le_refl _, by omega, hw.s0, fun wA as ws O' a' ja' H1 mm g fw nw ew la okw sd hl hr' => ?_⟩
      have w1 := hw.mv0 mm g sd
      refine ⟨_, rfl, rfl, _, rfl, iteN (by intro z; cases z) ?_⟩
      refine ⟨_, rfl, rfl, _, rfl, iteY rfl ?_⟩
      have nw1 : wA ∉ O1 := fun z => by obtain ⟨o, ho⟩ := (hw.s1.nt wA z).2; rw [fw] at ho; cases ho
      have nwl : wA ∉ [qs, jl, st] := fun z => by obtain ⟨o, ho⟩ := hw.som wA z; rw [fw] at ho; cases ho
      refine ⟨_, rfl, wA, rfl, ⟨_, SqL.of ew⟩, for_list (K := K) (a := wA) (xs := as.map V.ref) (fun j σ H2 => ∃ (v6 : Option V) (O1' : List Addr) (b' : Qs), σ = [some (.ref qs), some (.ref jl), some (.ref st), some (.int 0), some (.int m), some (.ref wA), v6] ∧ Mods O1 H1 H2 ∧ Grw O1 O1' H1 ∧ wA ∉ O1' ∧ H2 wA = some (.lst (as.map V.ref)) ∧ LsAt K H2 as ws ∧ Wd K t.Queue t.Joiner H2 qs jl st x0 x1 y0 y1 S0 S1 O' O1' a' b' ja' jb ∧ nl b' ≤ nl b + j)
        ⟨none, O1, b, rfl, Mods.refl, fun p hp => .inl hp, nw1, ew, la, w1, Nat.le_refl _⟩ (fun j σ H2 _ ⟨_, _, _, _, _, _, _, e, _⟩ => SqL.of e) ?_ ?_⟩
      · rintro j v σ H2 hj ⟨v6, O1', b', rfl, m2, g2, nw2, ew2, la2, w2, hb2⟩
        rw [List.getElem?_map] at hj
        cases ea : as[j]? with
        | none => rw [ea] at hj; cases hj
        | some r =>
          rw [ea] at hj; cases hj
          have hlt : j < ws.length := by rw [← la2.1]; exact (List.getElem?_eq_some_iff.mp ea).1
          have eL := List.getElem?_eq_getElem hlt
          have okL := okw _ (List.mem_of_getElem? eL)
          obtain ⟨own, r0, r1, l, rfl, hq, hs, hjn, d1, d2, d3, ok, jo⟩ := w2.s1.out
          refine ⟨_, rfl, qs, _, _, _, rfl, rfl, SqL.of w2.eq, rfl, _, rfl, st, _, _, _, rfl, rfl, SqL.of w2.es, rfl, _, rfl, ?_⟩
          refine ⟨x1, S1, r0, r1, r, own, b', ws[j], rfl, hq, hs, d1, ok, la2.2 j r _ ea eL, okL, fun r0' r1' H3 m3 g3 q3 s3 => ?_⟩
          obtain ⟨mm3, gg3, sd3⟩ := Sd.putted hq hs hjn d1 d2 d3 ok jo okL m3 g3 q3 s3
          have nl3 := (put_nl b' ws[j]).1
          have w3 := w2.mv1 mm3 gg3 (sd3.re (by omega))
          have k3 := w2.s1.kept mm3
          have nw3 : wA ∉ own ++ [S1, r0', r1'] ++ [y1, l] := fun z => (gg3 wA z).elim nw2 fun e => by rw [ew2] at e; cases e
          exact ⟨_, _, _, rfl, m2.trans' mm3 g2, Grw.of g2 m2 gg3, nw3, mm3 _ _ nw2 ew2, la2.kept k3, w3, by omega⟩
      · rintro σ H2 ⟨v6, O1', b', rfl, m2, g2, nw2, ew2, la2, w2, hb2⟩
        rw [List.length_map, la2.1] at hb2
        have mt : Mods (O0 ++ O1) H H2 := mm.app m2
        refine k O' O1' a' b' ja' jb H2 mt (fun p hp => ?_) w2 (by omega) (.inl ⟨rfl, hr'⟩)
        rcases List.mem_append.mp hp with z | z
        · exact (g p z).elim (fun z => .inl (List.mem_append_left _ z)) .inr
        · rcases g2 p z with z | z
          · exact .inl (List.mem_append_right _ z)
          · by_cases y : p ∈ O0
            · exact .inl (List.mem_append_left _ y)
            · exact .inr (mm.free z y)
    · refine ⟨_, rfl, _, rfl, qs, _, _, _, rfl, rfl, SqL.of hw.eq, rfl, _, rfl, _, rfl, jl, _, _, _, rfl, rfl, SqL.of hw.ej, rfl, _, rfl, _, rfl, st, _, _, _, rfl, rfl, SqL.of hw.es, rfl, _, rfl, ?_⟩
      refine ⟨x1, y1, S1, O1, b, jb, 1000, m, rfl, m0, m1, Nat.le_refl _, by omega, hw.s1, fun wA as ws O' b' jb' H1 mm g fw nw ew la okw sd hl hr' => ?_⟩
      have w1 := hw.mv1 mm g sd
      refine ⟨_, rfl, rfl, _, rfl, iteN (by intro z; cases z) ?_⟩
      refine ⟨_, rfl, rfl, _, rfl, iteN (by intro z; cases z) ?_⟩
      exact k O0 O' a b' ja jb' H1 (mm.up fun p hp => List.mem_append_right _ hp) g.right w1 (by omega) (.inr ⟨rfl, rfl, rfl, hr'⟩)
end
end K43
namespace K43
open PySem L2 PyProof.Rows
section
variable {P : Program} {w : World} {K : PySem.W.Frag} {mg : Str → Option Value} {base : Heap} {t : Ad}
/-! what is laid in turn stands apart -/
def PD (G : Hp) (Ls : List (List Addr)) : Prop := Ls.Pairwise (fun A B => ∀ a ∈ A, a ∉ B) ∧ ∀ A ∈ Ls, ∀ a ∈ A, ∃ o, G a = some o
theorem PD.nil {G : Hp} : PD G [] := ⟨.nil, fun A h => by simp at h⟩
theorem PD.add {G G' : Hp} {Ls : List (List Addr)} {B : List Addr} (h : PD G Ls) (s : Same G G') (n : ∀ b ∈ B, G b = none) (e : ∀ b ∈ B, ∃ o, G' b = some o) : PD G' (Ls ++ [B]) := by
  refine ⟨List.pairwise_append.mpr ⟨h.1, by simp, fun A hA C hC a ha z => ?_⟩, fun A hA a ha => ?_⟩
  · rw [List.mem_singleton.mp hC] at z
    obtain ⟨o, ho⟩ := h.2 A hA a ha
    rw [n a z] at ho; cases ho
  · rcases List.mem_append.mp hA with hA | hA
    · obtain ⟨o, ho⟩ := h.2 A hA a ha
      exact ⟨o, s _ _ ho⟩
    · rw [List.mem_singleton.mp hA] at ha; exact e a ha
theorem PD.dj {G : Hp} {Ls : List (List Addr)} (h : PD G Ls) (i j : Nat) (hij : i < j) {A B : List Addr} (hA : Ls[i]? = some A) (hB : Ls[j]? = some B) : ∀ a ∈ A, a ∉ B := by
  obtain ⟨g1, rfl⟩ := List.getElem?_eq_some_iff.mp hA
  obtain ⟨g2, rfl⟩ := List.getElem?_eq_some_iff.mp hB
  exact List.pairwise_iff_getElem.mp h.1 i j g1 g2 hij
theorem mk_new {H H1 : Hp} {C x dx : Addr} {own : List Addr} (nx : H x = none) (ndx : H dx = none) (m : Mods [x] (upd (upd H dx (.own x)) x (.ins C dx [])) H1) (g : Grw [x] own (upd (upd H dx (.own x)) x (.ins C dx []))) : Same H H1 ∧ ∀ b ∈ own, H b = none := by
  have sA : Same H (upd (upd H dx (.own x)) x (.ins C dx [])) := (Same.refl H).new ndx |>.put nx
  refine ⟨fun b o e => m b o (fun z => by rw [List.mem_singleton.mp z, nx] at e; cases e) (sA b o e), fun b hb => ?_⟩
  rcases g b hb with z | z
  · rw [List.mem_singleton.mp z]; exact nx
  · exact sA.free z
theorem new_s (K : PySem.W.Frag) {H : Hp} {r0 r1 S : Addr} (h0 : H r0 = none) (h1 : (upd H r0 (.lst [])) r1 = none) (h2 : (upd (upd H r0 (.lst [])) r1 (.lst [])) S = none) :
    Same H (upd (upd (upd H r0 (.lst [])) r1 (.lst [])) S (.lst [.ref r0, .ref r1, .non])) ∧ (∀ a ∈ [S, r0, r1], H a = none) ∧ SAt K (upd (upd (upd H r0 (.lst [])) r1 (.lst [])) S (.lst [.ref r0, .ref r1, .non])) S r0 r1 q0 := by
  have s1 := (Same.refl H).new (o := .lst []) h0
  have e1 : (upd H r0 (.lst [])) r0 = some (.lst []) := upd_same
  generalize upd H r0 (.lst []) = H1 at *
  have t2 := (Same.refl H1).new (o := .lst []) h1
  have e2 : (upd H1 r1 (.lst [])) r1 = some (.lst []) := upd_same
  have e12 := t2 _ _ e1
  generalize upd H1 r1 (.lst []) = H2 at *
  have t3 := (Same.refl H2).new (o := .lst [.ref r0, .ref r1, .non]) h2
  have e3 : (upd H2 S (.lst [.ref r0, .ref r1, .non])) S = some (.lst [.ref r0, .ref r1, .non]) := upd_same
  refine ⟨(s1.trans t2).trans t3, fun a ha => ?_, .mk (b := .non) (hs := []) (us := []) e3 (t3 _ _ e12) (t3 _ _ e2) LsAt.nil LsAt.nil (.inl ⟨rfl, rfl⟩) ?_⟩
  · simp only [List.mem_cons, List.not_mem_nil, or_false] at ha
    rcases ha with rfl | rfl | rfl
    · exact (s1.trans t2).free h2
    · exact h0
    · exact s1.free h1
  · simp only [List.nodup_cons, List.mem_cons, List.not_mem_nil, or_false, not_or, not_false_eq_true, List.nodup_nil, and_true]
    exact ⟨⟨(ne_of_none e12 h2).symm, (ne_of_none e2 h2).symm⟩, ne_of_none e1 h1⟩
def D3 : PyData := .list [.list [], .list [], .none]
theorem SAt.dat0 {K : PySem.W.Frag} {H : Hp} {S r0 r1 : Addr} {q : Qs} (h : SAt K H S r0 r1 q) (e1 : q.h = []) (e2 : q.u = []) (e3 : q.b = none) {n : Nat} : IsDat K H (n + 2) (.ref S) D3 := by
  obtain ⟨b, hs, us, eS, e0, e1', lh, lu, eb, nd⟩ := h.out
  have z1 := (e1 ▸ lh : LsAt K H hs []).no
  have z2 := (e2 ▸ lu : LsAt K H us []).no
  subst z1 z2
  have z3 : b = .non := by
    rcases eb with z | ⟨L, r, z, _⟩
    · exact z.2
    · rw [e3] at z; cases z
  subst z3
  refine .lst (SqL.of eS) rfl fun i x d g1 g2 => ?_
  match i with
  | 0 => cases g1; cases g2; exact nilD e0
  | 1 => cases g1; cases g2; exact nilD e1'
  | 2 => cases g1; cases g2; exact .non
  | i + 3 => simp at g1
theorem two_dat {K : PySem.W.Frag} {H : Hp} {st S0 S1 : Addr} (e : H st = some (.lst [.ref S0, .ref S1])) {n : Nat} (a : IsDat K H n (.ref S0) D3) (b : IsDat K H n (.ref S1) D3) : IsDat K H (n + 1) (.ref st) (.list [D3, D3]) := by
  refine .lst (SqL.of e) rfl fun i x d g1 g2 => ?_
  match i with
  | 0 => cases g1; cases g2; exact a
  | 1 => cases g1; cases g2; exact b
  | i + 2 => simp at g1
theorem rem0 {q : Qs} {n : Nat} (ok : QOk q n) (h : rem q = 0) : q.h = [] ∧ q.u = [] ∧ q.b = none := by
  unfold rem at h
  have h1 : q.p = [] := List.eq_nil_of_length_eq_zero (by omega)
  refine ⟨List.eq_nil_of_length_eq_zero (by omega), List.eq_nil_of_length_eq_zero (by omega), ?_⟩
  rcases ok.b with z | z
  · exact z.2
  · exact absurd h1 z.1
/-! law -/
theorem cell_of {i : Nat} {v : V} {ns : List Int} (h : (ns.map V.int)[i]? = some v) : ∃ c, v = .int c := by
  obtain ⟨z, _, e⟩ := item_of h
  exact ⟨z, e⟩
theorem cut63 (ns : List Int) (h : ns.length ≤ 63) : cutV (ns.map V.int) none (some 63) = ns.map V.int := by
  rw [cutV_ns (by decide), List.take_of_length_le (by rw [List.length_map]; exact h)]
theorem sc_law : FnScope ["script", "queues", "joiners", "states", "k", "cell", "numbers", "way", "at"] ["script"] (defScope s_law) := ⟨rfl, rfl, rfl, by decide +kernel, rfl, by decide +kernel, by decide +kernel⟩
set_option maxHeartbeats 8000000 in
theorem law_fn {f : Addr} {fd fi fq fw : FuncData} (T : Txt K mg t) (F : Fun K "law" "law" s_law f fd) (D__law_digits : Def P w K mg base 1 "_law_digits" ["cell", "many", "size"] sp__law_digits) (D__law_letter : Def P w K mg base 4 "_law_letter" ["numbers", "k"] (sp__law_letter K)) (D__law_put_both : Def P w K mg base 5 "_law_put_both" ["queue", "state", "letter"] (sp__law_put_both K t.Queue)) (D__law_step : Def P w K mg base 7 "_law_step" ["queues", "joiners", "states", "at", "many"] (sp__law_step K t.Queue t.Joiner))
    (F_init : FnOk P w K mg base (CX1 P w) 1 t.init fi ["self"] (sp_init t.Joiner)) (B_init : Binds K fi ["self"] []) (F_init_Queue : FnOk P w K mg base (CX1 P w) 2 t.init_Queue fq ["self"] (sp_init_Queue K t.Queue)) (B_init_Queue : Binds K fq ["self"] []) (F_waiting : FnOk P w K mg base (CX1 P w) 1 t.m_waiting fw ["self"] (sp_waiting K t.Queue)) (B_waiting : Binds K fw ["self"] []) :
    FnOk P w K mg base (CX1 P w) 8 f fd ["script"] (spLaw K) := by
  refine F.ok1 sc_law (fun vs H Q E h => ?_) (fun f cdv A outer s H vs Q E hr h => ?_)
  · obtain ⟨a, ns, rfl, _⟩ := h
    rfl
  · obtain ⟨a, cs, rfl, hS, hlen, k⟩ := h
    refine ⟨_, pss_cons (ps_set (i := 1) sc_law.nd rfl (Or.inl rfl) (pe_lst (pa_cons (pe_make0 T.kQueue (F_init_Queue.mono (by decide)) hr (by rfl) T.mQueue B_init_Queue .nil passN) (pa_cons (pe_make0 T.kQueue (F_init_Queue.mono (by decide)) hr (by rfl) T.mQueue B_init_Queue .nil passN) pa_nil))))
      (pss_cons (ps_set (i := 2) sc_law.nd rfl (Or.inl rfl) (pe_lst (pa_cons (pe_make0 T.kJoiner (F_init.mono (by decide)) hr (by rfl) T.mJoiner B_init .nil passN) (pa_cons (pe_make0 T.kJoiner (F_init.mono (by decide)) hr (by rfl) T.mJoiner B_init .nil passN) pa_nil))))
      (pss_cons (ps_set (i := 3) sc_law.nd rfl (Or.inl rfl) (pe_lst (pa_cons (pe_lst (pa_cons (pe_lst pa_nil) (pa_cons (pe_lst pa_nil) (pa_cons pe_non pa_nil)))) (pa_cons (pe_lst (pa_cons (pe_lst pa_nil) (pa_cons (pe_lst pa_nil) (pa_cons pe_non pa_nil)))) pa_nil))))
      (pss_cons (PS.nox (ps_for PassesOwn.never rfl (pi_enumerateK K (by rfl) T.n_enumerate (pa_cons (pe_slice (sl_listK K) (pv 0) po_none (po_some pe_int)) pa_nil)) (pg_twoK K (i := 4) (j := 5) rfl sc_law.nd rfl rfl (Or.inl rfl) (Or.inl rfl))
        (pss_cons (ps_set (i := 6) sc_law.nd rfl (Or.inl rfl) (pe_def (D__law_digits.mono (by decide)) hr passN (pa_cons (pv 5) (pa_cons pe_int (pa_cons pe_int pa_nil)))))
        (pss_cons (ps_set (i := 7) sc_law.nd rfl (Or.inl rfl) (pe_op op_mod (pe_ix (ix_listK K) (pv 6) pe_int (fun _ _ => rfl)) pe_int))
        (pss_one (ps_if (pt_cmpR op_lt (pv 7) pe_int (nomark _))
          (pss_one (ps_expr (pe_def (D__law_put_both.mono (by decide)) hr passN (pa_cons (pe_ix (ix_listK K) (pv 1) pe_int (fun _ _ => rfl)) (pa_cons (pe_ix (ix_listK K) (pv 3) pe_int (fun _ _ => rfl)) (pa_cons (pe_def (D__law_letter.mono (by decide)) hr passN (pa_cons (pv 6) (pa_cons (pv 4) pa_nil))) pa_nil))))))
          (pss_one (ps_if (pt_not (pt_val (pe_def (D__law_step.mono (by decide)) hr passN (pa_cons (pv 1) (pa_cons (pv 2) (pa_cons (pv 3) (pa_cons (pe_op op_mod (pv 7) pe_int) (pa_cons (pe_op op_mod (pe_ix (ix_listK K) (pv 6) pe_int (fun _ _ => rfl)) pe_int) pa_nil))))))))
            (pss_one (ps_ret pe_bl))
            (pss_nil)))))))))
      (pss_cons (PS.nox (ps_for PassesOwn.never rfl (pi_range1 (by rfl) T.n_range (pa_cons pe_int pa_nil)) (pg_name (i := 8) sc_law.nd rfl (Or.inl rfl))
        (pss_one (ps_if (pt_not (pt_val (pe_def (D__law_step.mono (by decide)) hr passN (pa_cons (pv 1) (pa_cons (pv 2) (pa_cons (pv 3) (pa_cons (pv 8) (pa_cons (pe_op op_mul pe_int pe_int) pa_nil))))))))
          (pss_one (ps_ret pe_bl))
          (pss_nil)))))
      (pss_one (ps_ret (pe_and (pe_cmpR (op_eqD K (hu16 hr)) (pe_meth0 (pe_ix (ix_listK K) (pv 1) pe_int (fun _ _ => rfl)) T.cQueue T.me_waiting (F_waiting.mono (by decide)) hr B_waiting .nil passN) (pe_lst pa_nil) (nomark _)) (pe_and (pe_cmpR (op_eqD K (hu16 hr)) (pe_meth0 (pe_ix (ix_listK K) (pv 1) pe_int (fun _ _ => rfl)) T.cQueue T.me_waiting (F_waiting.mono (by decide)) hr B_waiting .nil passN) (pe_lst pa_nil) (nomark _)) (pe_one (pe_cmpR (op_eqD K (hu16 hr)) (pv 3) (pe_lst (pa_cons (pe_lst (pa_cons (pe_lst pa_nil) (pa_cons (pe_lst pa_nil) (pa_cons pe_non pa_nil)))) (pa_cons (pe_lst (pa_cons (pe_lst pa_nil) (pa_cons (pe_lst pa_nil) (pa_cons pe_non pa_nil)))) pa_nil))) (nomark _))))))))))), ?_⟩
    have hsz : (3000 : Nat) ≤ sizeLine := by decide
    intro x0 dx0 nx0 ndx0 _
    refine ⟨x0, dx0, rfl, upd_same, fun w0 H1 m1 g1 qa0 => ⟨rfl, ?_⟩⟩
    obtain ⟨s1, f1⟩ := mk_new nx0 ndx0 m1 g1
    clear m1 g1 nx0 ndx0
    have P1 := PD.nil.add s1 f1 fun b hb => (qa0.nt b hb).2
    intro x1 dx1 nx1 ndx1 _
    refine ⟨x1, dx1, rfl, upd_same, fun w1 H2 m2 g2 qa1 => ⟨rfl, ?_⟩⟩
    obtain ⟨s2, f2⟩ := mk_new nx1 ndx1 m2 g2
    clear m2 g2 nx1 ndx1
    have P2 := P1.add s2 f2 fun b hb => (qa1.nt b hb).2
    refine ⟨by show 2 ≤ sizeLine; decide, fun qs hqs => ?_⟩
    have s3 := (Same.refl H2).new (o := .lst [.ref x0, .ref x1]) hqs
    have eq3 : (upd H2 qs (.lst [.ref x0, .ref x1])) qs = some (.lst [.ref x0, .ref x1]) := upd_same
    have P3 := P2.add s3 (B := [qs]) (fun b hb => by rw [List.mem_singleton.mp hb]; exact hqs) fun b hb => by rw [List.mem_singleton.mp hb]; exact ⟨_, eq3⟩
    generalize upd H2 qs (.lst [.ref x0, .ref x1]) = H3 at s3 eq3 P3 ⊢
    intro y0 dy0 ny0 ndy0 _
    refine ⟨y0, dy0, rfl, upd_same, fun l0 H4 fl0 m4 j0 => ⟨rfl, ?_⟩⟩
    obtain ⟨s4, f4⟩ := mk_new (own := [y0, l0]) ny0 ndy0 m4 (fun b hb => by
      simp only [List.mem_cons, List.not_mem_nil, or_false] at hb
      rcases hb with rfl | rfl
      · exact .inl List.mem_cons_self
      · exact .inr fl0)
    clear m4 ny0 ndy0 fl0
    have P4 := P3.add s4 f4 fun b hb => (j0.nt b hb).2
    intro y1 dy1 ny1 ndy1 _
    refine ⟨y1, dy1, rfl, upd_same, fun l1 H5 fl1 m5 j1 => ⟨rfl, ?_⟩⟩
    obtain ⟨s5, f5⟩ := mk_new (own := [y1, l1]) ny1 ndy1 m5 (fun b hb => by
      simp only [List.mem_cons, List.not_mem_nil, or_false] at hb
      rcases hb with rfl | rfl
      · exact .inl List.mem_cons_self
      · exact .inr fl1)
    clear m5 ny1 ndy1 fl1
    have P5 := P4.add s5 f5 fun b hb => (j1.nt b hb).2
    refine ⟨by show 2 ≤ sizeLine; decide, fun jl hjl => ?_⟩
    have s6 := (Same.refl H5).new (o := .lst [.ref y0, .ref y1]) hjl
    have ej6 : (upd H5 jl (.lst [.ref y0, .ref y1])) jl = some (.lst [.ref y0, .ref y1]) := upd_same
    have P6 := P5.add s6 (B := [jl]) (fun b hb => by rw [List.mem_singleton.mp hb]; exact hjl) fun b hb => by rw [List.mem_singleton.mp hb]; exact ⟨_, ej6⟩
    generalize upd H5 jl (.lst [.ref y0, .ref y1]) = H6 at s6 ej6 P6 ⊢
    refine ⟨by show 0 ≤ sizeLine; decide, fun r00 h0 => ⟨by show 0 ≤ sizeLine; decide, fun r01 h1 => ⟨by show 3 ≤ sizeLine; decide, fun S0 h2 => ?_⟩⟩⟩
    obtain ⟨s7, f7, u0⟩ := new_s K h0 h1 h2
    have P7 := P6.add s7 f7 fun b hb => (u0.nt b hb).2
    generalize upd (upd (upd H6 r00 (.lst [])) r01 (.lst [])) S0 (.lst [.ref r00, .ref r01, .non]) = H7 at s7 u0 P7 ⊢
    clear h0 h1 h2
    refine ⟨by show 0 ≤ sizeLine; decide, fun r10 h0 => ⟨by show 0 ≤ sizeLine; decide, fun r11 h1 => ⟨by show 3 ≤ sizeLine; decide, fun S1 h2 => ?_⟩⟩⟩
    obtain ⟨s8, f8, u1⟩ := new_s K h0 h1 h2
    have P8 := P7.add s8 f8 fun b hb => (u1.nt b hb).2
    generalize upd (upd (upd H7 r10 (.lst [])) r11 (.lst [])) S1 (.lst [.ref r10, .ref r11, .non]) = H8 at s8 u1 P8 ⊢
    clear h0 h1 h2
    refine ⟨by show 2 ≤ sizeLine; decide, fun st hst => ?_⟩
    have s9 := (Same.refl H8).new (o := .lst [.ref S0, .ref S1]) hst
    have es9 : (upd H8 st (.lst [.ref S0, .ref S1])) st = some (.lst [.ref S0, .ref S1]) := upd_same
    have P9 := P8.add s9 (B := [st]) (fun b hb => by rw [List.mem_singleton.mp hb]; exact hst) fun b hb => by rw [List.mem_singleton.mp hb]; exact ⟨_, es9⟩
    generalize upd H8 st (.lst [.ref S0, .ref S1]) = H9 at s9 es9 P9 ⊢
    have t89 := s8.trans s9
    have t79 := s7.trans t89
    have t69 := s6.trans t79
    have t59 := s5.trans t69
    have t49 := s4.trans t59
    have t39 := s3.trans t49
    have t29 := s2.trans t39
    have sH := s1.trans t29
    have D : ∀ (i j : Nat) (_ : i < j) {A B : List Addr}, ([w0, w1, [qs], [y0, l0], [y1, l1], [jl], [S0, r00, r01], [S1, r10, r11], [st]] : List (List Addr))[i]? = some A → ([w0, w1, [qs], [y0, l0], [y1, l1], [jl], [S0, r00, r01], [S1, r10, r11], [st]] : List (List Addr))[j]? = some B → ∀ a ∈ A, a ∉ B := fun i j hij {A B} hA hB => PD.dj (Ls := [w0, w1, [qs], [y0, l0], [y1, l1], [jl], [S0, r00, r01], [S1, r10, r11], [st]]) P9 i j hij hA hB
    have sd0 : Sd K t.Queue t.Joiner H9 x0 S0 y0 (w0 ++ [S0, r00, r01] ++ [y0, l0]) q0 [] 1000 := .mk (qa0.same t29) (u0.same t89) (j0.same t59) (D 0 6 (by decide) rfl rfl) (D 0 3 (by decide) rfl rfl) (fun a ha z => D 3 6 (by decide) rfl rfl a z ha) (q0_ok _) join0
    have sd1 : Sd K t.Queue t.Joiner H9 x1 S1 y1 (w1 ++ [S1, r10, r11] ++ [y1, l1]) q0 [] 1000 := .mk (qa1.same t39) (u1.same s9) (j1.same t69) (D 1 7 (by decide) rfl rfl) (D 1 4 (by decide) rfl rfl) (fun a ha z => D 4 7 (by decide) rfl rfl a z ha) (q0_ok _) join0
    have W : Wd K t.Queue t.Joiner H9 qs jl st x0 x1 y0 y1 S0 S1 (w0 ++ [S0, r00, r01] ++ [y0, l0]) (w1 ++ [S1, r10, r11] ++ [y1, l1]) q0 q0 [] [] := by
      refine ⟨t49 _ _ eq3 |> fun z => z, t79 _ _ ej6, es9, sd0, sd1, fun p hp z => ?_, fun p hp => ⟨fun z => ?_, fun z => ?_⟩⟩
      · rcases List.mem_append.mp hp with hp | hp
        · rcases List.mem_append.mp hp with hp | hp
          · rcases List.mem_append.mp z with z | z
            · rcases List.mem_append.mp z with z | z
              · exact D 0 1 (by decide) rfl rfl p hp z
              · exact D 0 7 (by decide) rfl rfl p hp z
            · exact D 0 4 (by decide) rfl rfl p hp z
          · rcases List.mem_append.mp z with z | z
            · rcases List.mem_append.mp z with z | z
              · exact D 1 6 (by decide) rfl rfl p z hp
              · exact D 6 7 (by decide) rfl rfl p hp z
            · exact D 4 6 (by decide) rfl rfl p z hp
        · rcases List.mem_append.mp z with z | z
          · rcases List.mem_append.mp z with z | z
            · exact D 1 3 (by decide) rfl rfl p z hp
            · exact D 3 7 (by decide) rfl rfl p hp z
          · exact D 3 4 (by decide) rfl rfl p hp z
      · simp only [List.mem_cons (a := p) (b := qs), List.mem_cons (a := p) (b := jl), List.mem_cons (a := p) (b := st), List.not_mem_nil, or_false] at hp
        rcases List.mem_append.mp z with z | z
        · rcases List.mem_append.mp z with z | z
          · rcases hp with rfl | rfl | rfl
            · exact D 0 2 (by decide) rfl rfl p z List.mem_cons_self
            · exact D 0 5 (by decide) rfl rfl p z List.mem_cons_self
            · exact D 0 8 (by decide) rfl rfl p z List.mem_cons_self
          · rcases hp with rfl | rfl | rfl
            · exact D 2 6 (by decide) rfl rfl p List.mem_cons_self z
            · exact D 5 6 (by decide) rfl rfl p List.mem_cons_self z
            · exact D 6 8 (by decide) rfl rfl p z List.mem_cons_self
        · rcases hp with rfl | rfl | rfl
          · exact D 2 3 (by decide) rfl rfl p List.mem_cons_self z
          · exact D 3 5 (by decide) rfl rfl p z List.mem_cons_self
          · exact D 3 8 (by decide) rfl rfl p z List.mem_cons_self
      · simp only [List.mem_cons (a := p) (b := qs), List.mem_cons (a := p) (b := jl), List.mem_cons (a := p) (b := st), List.not_mem_nil, or_false] at hp
        rcases List.mem_append.mp z with z | z
        · rcases List.mem_append.mp z with z | z
          · rcases hp with rfl | rfl | rfl
            · exact D 1 2 (by decide) rfl rfl p z List.mem_cons_self
            · exact D 1 5 (by decide) rfl rfl p z List.mem_cons_self
            · exact D 1 8 (by decide) rfl rfl p z List.mem_cons_self
          · rcases hp with rfl | rfl | rfl
            · exact D 2 7 (by decide) rfl rfl p List.mem_cons_self z
            · exact D 5 7 (by decide) rfl rfl p List.mem_cons_self z
            · exact D 7 8 (by decide) rfl rfl p z List.mem_cons_self
        · rcases hp with rfl | rfl | rfl
          · exact D 2 4 (by decide) rfl rfl p List.mem_cons_self z
          · exact D 4 5 (by decide) rfl rfl p z List.mem_cons_self
          · exact D 4 8 (by decide) rfl rfl p z List.mem_cons_self
    clear sd0 sd1 D P1 P2 P3 P4 P5 P6 P7 P8 P9 f1 f2 f4 f5 f7 f8 u0 u1 j0 j1 qa0 qa1 eq3 ej6 es9 s1 s2 s3 s4 s5 s6 s7 s8 s9 t89 t79 t69 t59 t49 t39 t29 hqs hjl hst
    generalize w0 ++ [S0, r00, r01] ++ [y0, l0] = O0 at W
    generalize w1 ++ [S1, r10, r11] ++ [y1, l1] = O1 at W
    -- the script
    refine ⟨_, rfl, _, rfl, a, _, rfl, sH.seq hS, fun sl hsl => ?_⟩
    rw [cut63 cs hlen] at *
    have s10 := (Same.refl H9).new (o := .lst (cs.map V.int)) hsl
    have nsl : sl ∉ O0 ++ O1 := fun z => (List.mem_append.mp z).elim (fun z => by obtain ⟨o, ho⟩ := (W.s0.nt sl z).2; rw [hsl] at ho; cases ho) fun z => by obtain ⟨o, ho⟩ := (W.s1.nt sl z).2; rw [hsl] at ho; cases ho
    let I : Nat → L2.St → Hp → Prop := fun i σ H' => ∃ (O0 O1 : List Addr) (p q : Qs) (jp jq : List Int), (∃ v4 v5 v6 v7 v8 : Option V, σ = [some (.ref a), some (.ref qs), some (.ref jl), some (.ref st), v4, v5, v6, v7, v8]) ∧ H' sl = some (.lst (cs.map V.int)) ∧ sl ∉ O0 ++ O1 ∧ Wd K t.Queue t.Joiner H' qs jl st x0 x1 y0 y1 S0 S1 O0 O1 p q jp jq ∧ nl p + nl q ≤ i
    refine ⟨sl, _, rfl, upd_same, for_enum (K := K) (a := sl) (xs := cs.map V.int) I ⟨O0, O1, q0, q0, [], [], ⟨none, none, none, none, none, rfl⟩, upd_same, nsl, W.same s10, by show 0 + 0 ≤ 0; decide⟩ (fun i σ H' _ ⟨_, _, _, _, _, _, _, e, _⟩ => SqL.of e) ?_ ?_⟩
    · clear W nsl s10 hsl sH
      rintro i yv pv σ H4 hi ⟨O0, O1, p, q, jp, jq, ⟨v4, v5, v6, v7, v8, rfl⟩, esl, nsl, W, hnl⟩ hpv
      obtain ⟨c, rfl⟩ := cell_of hi
      have hi63 : i < 63 := by have := (List.getElem?_eq_some_iff.mp hi).1; rw [List.length_map] at this; omega
      refine take_two (SqT.of upd_same) ?_
      have s5 := (Same.refl H4).new (o := .tup [.int (i : Nat), .int c]) hpv
      have W5 := W.same s5
      have esl5 := s5 _ _ esl
      generalize upd H4 pv (.tup [.int (i : Nat), .int c]) = H5 at W5 esl5 ⊢
      refine ⟨_, rfl, c, 73, 97, rfl, by decide, by decide, by decide, by decide, fun pn H6 nb hpn s6 e6 l6 b6 => ?_⟩
      have l73 : nb.length = 73 := by omega
      have W6 := W5.same s6
      have esl6 := s6 _ _ esl5
      clear W W5 esl5 esl s5 s6
      refine ⟨_, rfl, pn, _, _, _, rfl, rfl, SqL.of e6, at_int (i := 0) (by omega) rfl, _, _, rfl, rfl, (by show (0 : Int) < 8; decide), ?_⟩
      refine ⟨_, rfl, _, _, rfl, rfl, _, rfl, ?_⟩
      have keep : ∀ {O0' O1' : List Addr} {G : Hp}, G sl = some (.lst (cs.map V.int)) → Grw (O0 ++ O1) (O0' ++ O1') G → sl ∉ O0' ++ O1' := fun e g z => (g sl z).elim nsl fun e' => by rw [e] at e'; cases e'
      by_cases h4 : nb.getD 0 0 % 8 < 4
      · refine iteY h4 ?_
        refine ⟨_, rfl, qs, _, _, _, rfl, rfl, SqL.of W6.eq, rfl, _, rfl, st, _, _, _, rfl, rfl, SqL.of W6.es, rfl, _, rfl, _, rfl, pn, nb, (i : Nat), rfl, SqL.of e6, l73, b6, by omega, by omega, fun r L H7 okL s7 lt => ?_⟩
        have W7 := W6.same s7
        have esl7 := s7 _ _ esl6
        obtain ⟨own, r0, r1, l, eO, hq, hs, hjn, d1, d2, d3, ok, jo⟩ := W7.s0.out
        refine ⟨x0, S0, r0, r1, r, own, p, L, rfl, hq, hs, d1, ok, lt, okL, fun r0' r1' H8 m8 g8 q8 s8 => ?_⟩
        obtain ⟨mm, gg, sd⟩ := Sd.putted hq hs hjn d1 d2 d3 ok jo okL m8 g8 q8 s8
        rw [← eO] at mm gg
        have nl8 := (put_nl p L).1
        have W8 := W7.mv0 mm gg (sd.re (by omega))
        have nO : sl ∉ O0 := fun z => nsl (List.mem_append_left _ z)
        exact ⟨_, O1, putQ p L, q, jp, jq, ⟨_, _, _, _, _, rfl⟩, mm _ _ nO esl7, keep esl7 gg.left, W8, by omega⟩
      · refine iteN h4 ?_
        have d0 := Int.emod_nonneg (nb.getD 1 0) (b := 13) (by decide)
        have d1 := Int.emod_lt_of_pos (nb.getD 1 0) (b := 13) (by decide)
        refine ⟨_, rfl, _, rfl, _, rfl, _, rfl, _, _, rfl, rfl, (by show (0 : Int) < 2; decide), _, rfl, pn, _, _, _, rfl, rfl, SqL.of e6, at_int (i := 1) (by omega) rfl, _, _, rfl, rfl, (by show (0 : Int) < 13; decide), ?_⟩
        refine ⟨qs, jl, st, x0, x1, y0, y1, S0, S1, O0, O1, p, q, jp, jq, _, _, rfl, by omega, d0, by omega, by omega, W6, fun O0' O1' p' q' jp' jq' H7 m7 g7 W7 hl7 _ => ⟨true, rfl, iteF ?_⟩⟩
        exact ⟨O0', O1', p', q', jp', jq', ⟨_, _, _, _, _, rfl⟩, m7 _ _ nsl esl6, keep esl6 g7, W7, by omega⟩
    · clear W nsl s10 hsl sH
      rintro σ H4 ⟨O0, O1, p, q, jp, jq, ⟨v4, v5, v6, v7, v8, rfl⟩, _, _, W, hnl⟩
      rw [List.length_map] at hnl
      refine ⟨2, rfl, by decide, by decide, for_range (lo := 0) (n := 2) (fun j σ H' => ∃ (O0 O1 : List Addr) (p q : Qs) (jp jq : List Int), (∃ v4 v5 v6 v7 v8 : Option V, σ = [some (.ref a), some (.ref qs), some (.ref jl), some (.ref st), v4, v5, v6, v7, v8]) ∧ Wd K t.Queue t.Joiner H' qs jl st x0 x1 y0 y1 S0 S1 O0 O1 p q jp jq ∧ nl p + nl q ≤ 63 ∧ (1 ≤ j → rem p = 0) ∧ (2 ≤ j → rem q = 0)) ⟨O0, O1, p, q, jp, jq, ⟨_, _, _, _, _, rfl⟩, W, by omega, fun h => by omega, fun h => by omega⟩ ?_ ?_⟩
      · clear W hnl
        rintro j σ H5 hj ⟨O0, O1, p, q, jp, jq, ⟨v4, v5, v6, v7, v8, rfl⟩, W, hnl, i1, i2⟩
        refine ⟨_, rfl, _, rfl, _, rfl, _, rfl, _, _, rfl, rfl, .inr ⟨by decide, by decide⟩, ?_⟩
        have rp : rem p ≤ 8 * nl p := by obtain ⟨_, _, _, _, _, _, _, _, _, _, _, ok, jo⟩ := W.s0.out; exact nl_rem ok jo
        have rq : rem q ≤ 8 * nl q := by obtain ⟨_, _, _, _, _, _, _, _, _, _, _, ok, jo⟩ := W.s1.out; exact nl_rem ok jo
        refine ⟨qs, jl, st, x0, x1, y0, y1, S0, S1, O0, O1, p, q, jp, jq, _, _, rfl, by omega, by decide, by decide, by omega, W, fun O0' O1' p' q' jp' jq' H7 m7 g7 W7 hl7 hr' => ⟨true, rfl, iteF ?_⟩⟩
        have e576 : ((64 : Int) * 9).toNat = 576 := by decide
        rw [e576] at hr'
        refine ⟨O0', O1', p', q', jp', jq', ⟨_, _, _, _, _, rfl⟩, W7, by omega, fun h => ?_, fun h => ?_⟩
        · rcases hr' with ⟨_, h | h⟩ | ⟨e, h, _⟩
          · omega
          · exact h
          · rw [h]; exact i1 (by omega)
        · rcases hr' with ⟨e, _⟩ | ⟨_, _, _, h | h⟩
          · omega
          · omega
          · exact h
      · clear W hnl
        rintro σ H5 ⟨O0, O1, p, q, jp, jq, ⟨v4, v5, v6, v7, v8, rfl⟩, W, hnl, i1, i2⟩
        have rp := i1 (by decide)
        have rq := i2 (by decide)
        obtain ⟨own, r0, r1, l, _, hq, hs, hjn, _, _, _, ok, jo⟩ := W.s0.out
        obtain ⟨own1, r2, r3, l1, _, hq1, hs1, hjn1, _, _, _, ok1, jo1⟩ := W.s1.out
        obtain ⟨a1, a2, a3⟩ := rem0 ok rp
        obtain ⟨b1, b2, b3⟩ := rem0 ok1 rq
        have dat0 : ∀ {H' : Hp} {u : Addr} {as : List Addr} {z : Qs}, z.h = [] → z.u = [] → z.b = none → LsAt K H' as (wts z) → H' u = some (.lst (as.map V.ref)) → IsDat K H' 8 (.ref u) (.list []) := fun {H' u as z} e1 e2 e3 la e => by
          have ez : wts z = [] := by unfold wts; rw [e1, e2, e3]; rfl
          rw [ez] at la
          exact (la.dat (n := 5) (SqL.of e) (fun L h => by simp at h) : IsDat K H' 8 (.ref u) (.list (([] : List Ltr).map ltD)))
        obtain ⟨dx, _, _, _, _, _, _, _, _, ex, _⟩ := hq.out
        refine ⟨_, rfl, qs, _, _, _, rfl, rfl, SqL.of W.eq, rfl, x0, dx, _, rfl, ex, rfl, x0, own, p, rfl, hq, ok, fun u as H6 s6 fu eu la => ?_⟩
        refine ⟨by show 0 ≤ sizeLine; decide, fun pe he => ?_⟩
        have s7 := (Same.refl H6).new (o := .lst []) he
        refine ⟨_, _, (dat0 a1 a2 a3 la eu).same s7, nilD upd_same, true, rfl, iteT ?_⟩
        have s57 := s6.trans s7
        generalize upd H6 pe (.lst []) = H7 at s57 ⊢
        have W7 := W.same s57
        have hq7 := hq1.same s57
        obtain ⟨dx1, _, _, _, _, _, _, _, _, ex1, _⟩ := hq7.out
        refine ⟨_, rfl, qs, _, _, _, rfl, rfl, SqL.of W7.eq, rfl, x1, dx1, _, rfl, ex1, rfl, x1, own1, q, rfl, hq7, ok1, fun u as H8 s8 fu eu la => ?_⟩
        refine ⟨by show 0 ≤ sizeLine; decide, fun pe he => ?_⟩
        have s9 := (Same.refl H8).new (o := .lst []) he
        refine ⟨_, _, (dat0 b1 b2 b3 la eu).same s9, nilD upd_same, true, rfl, iteT ?_⟩
        have s59 := (s57.trans s8).trans s9
        generalize upd H8 pe (.lst []) = H9 at s59 ⊢
        have dl : IsDat K H9 8 (.ref st) (.list [D3, D3]) := two_dat (s59 _ _ W.es) (n := 7) ((hs.same s59).dat0 a1 a2 a3 (n := 5)) ((hs1.same s59).dat0 b1 b2 b3 (n := 5))
        refine ⟨_, rfl, by show 0 ≤ sizeLine; decide, fun c0 h0 => ⟨by show 0 ≤ sizeLine; decide, fun c1 h1 => ⟨by show 3 ≤ sizeLine; decide, fun c2 h2 => ?_⟩⟩⟩
        obtain ⟨s10, _, u0⟩ := new_s K h0 h1 h2
        generalize upd (upd (upd H9 c0 (.lst [])) c1 (.lst [])) c2 (.lst [.ref c0, .ref c1, .non]) = H10 at s10 u0 ⊢
        clear h0 h1 h2
        refine ⟨by show 0 ≤ sizeLine; decide, fun c3 h0 => ⟨by show 0 ≤ sizeLine; decide, fun c4 h1 => ⟨by show 3 ≤ sizeLine; decide, fun c5 h2 => ?_⟩⟩⟩
        obtain ⟨s11, _, u1⟩ := new_s K h0 h1 h2
        generalize upd (upd (upd H10 c3 (.lst [])) c4 (.lst [])) c5 (.lst [.ref c3, .ref c4, .non]) = H11 at s11 u1 ⊢
        clear h0 h1 h2
        refine ⟨by show 2 ≤ sizeLine; decide, fun c6 h6 => ?_⟩
        have s12 := (Same.refl H11).new (o := .lst [.ref c2, .ref c5]) h6
        have dr := two_dat (st := c6) upd_same (n := 7) ((u0.same (s11.trans s12)).dat0 rfl rfl rfl (n := 5)) ((u1.same s12).dat0 rfl rfl rfl (n := 5))
        refine ⟨_, _, dl.same ((s10.trans s11).trans s12), dr, ?_⟩
        have ee : PyData.eqv (.list [D3, D3]) (.list [D3, D3]) = true := dr.eqv
        show Q (.bl (PyData.eqv (.list [D3, D3]) (.list [D3, D3]))) _
        rw [ee]
        exact k _
end
end K43
namespace K43
open PySem L2 PyProof.Rows
section
variable {P : Program} {w : World} {K : PySem.W.Frag} {mg : Str → Option Value} {base : Heap} {t : Ad}
theorem law_all {f : Addr} {fd : FuncData} (T : Txt K mg t) (F : Fun K "law" "law" s_law f fd) (S_is_sign : Site K mg "is_sign" s_is_sign) (S_look_sign : Site K mg "look_sign" s_look_sign) (S_number_signs : Site K mg "number_signs" s_number_signs) (S_signs_number : Site K mg "signs_number" s_signs_number) (S_look_piece : Site K mg "look_piece" s_look_piece) (S_is_house : Site K mg "is_house" s_is_house) (S_look_signs : Site K mg "look_signs" s_look_signs) (S_look_way : Site K mg "look_way" s_look_way) (S_made_letter : Site K mg "made_letter" s_made_letter) (S_letter_signs : Site K mg "letter_signs" s_letter_signs) (S_letter_of : Site K mg "letter_of" s_letter_of) (S_pieces_of : Site K mg "pieces_of" s_pieces_of) (S_matter_of : Site K mg "matter_of" s_matter_of) (S_place_of : Site K mg "place_of" s_place_of) (S_put_among : Site K mg "put_among" s_put_among) (S__law_digits : Site K mg "_law_digits" s__law_digits) (S__law_way : Site K mg "_law_way" s__law_way) (S__law_parts : Site K mg "_law_parts" s__law_parts) (S__law_letter : Site K mg "_law_letter" s__law_letter) (S__law_key : Site K mg "_law_key" s__law_key) (S__law_put : Site K mg "_law_put" s__law_put) (S__law_due_next : Site K mg "_law_due_next" s__law_due_next) (S__law_carried : Site K mg "_law_carried" s__law_carried) (S__law_put_both : Site K mg "_law_put_both" s__law_put_both) (S__law_step : Site K mg "_law_step" s__law_step) : FnOk P w K mg base (CX1 P w) 8 f fd ["script"] (spLaw K) := by
  obtain ⟨fd_init, Fun_init⟩ := T.fi
  obtain ⟨fd_init_Queue, Fun_init_Queue⟩ := T.fi_Queue
  obtain ⟨fd_take, Fun_take⟩ := T.f_take
  obtain ⟨fd_make_empty, Fun_make_empty⟩ := T.f_make_empty
  obtain ⟨fd_put, Fun_put⟩ := T.f_put
  obtain ⟨fd_begin_next, Fun_begin_next⟩ := T.f_begin_next
  obtain ⟨fd_next_piece, Fun_next_piece⟩ := T.f_next_piece
  obtain ⟨fd_waiting, Fun_waiting⟩ := T.f_waiting
  have D_is_sign := ok_is_sign (P := P) (w := w) (base := base) S_is_sign T
  have D_look_sign := ok_look_sign S_look_sign T D_is_sign
  have D_number_signs := ok_number_signs (P := P) (w := w) (base := base) S_number_signs T
  have D_signs_number := ok_signs_number S_signs_number T D_look_sign
  have D__law_digits := ok__law_digits (P := P) (w := w) (base := base) S__law_digits T
  have D_is_house := ok_is_house (P := P) (w := w) (base := base) S_is_house T
  have D_look_signs := ok_look_signs S_look_signs T D_is_sign
  have D_look_way := ok_look_way S_look_way T D_is_house
  have D_made_letter := ok_made_letter S_made_letter T D_look_signs D_look_way
  have D__law_way := ok__law_way (P := P) (w := w) (base := base) S__law_way T
  have D__law_parts := ok__law_parts S__law_parts T D__law_way
  have D_letter_signs := ok_letter_signs S_letter_signs T D_number_signs
  have D_letter_of := ok_letter_of S_letter_of T D_look_signs D_signs_number D_made_letter
  have D_look_piece := ok_look_piece S_look_piece T D_is_sign
  have D_pieces_of := ok_pieces_of (P := P) (w := w) (base := base) S_pieces_of T
  obtain ⟨F_init, B_init⟩ := ok_init (P := P) (w := w) (base := base) T Fun_init
  obtain ⟨F_take, B_take⟩ := ok_take T Fun_take D_look_piece
  have D_matter_of := ok_matter_of (P := P) (w := w) (base := base) S_matter_of T
  have D__law_key := ok__law_key (P := P) (w := w) (base := base) S__law_key T
  have D_place_of := ok_place_of S_place_of T D_matter_of
  have D_put_among := ok_put_among S_put_among T D_matter_of D_place_of
  obtain ⟨F_make_empty, B_make_empty⟩ := ok_make_empty (P := P) (w := w) (base := base) T Fun_make_empty
  obtain ⟨F_init_Queue, B_init_Queue⟩ := ok_init_Queue T Fun_init_Queue F_make_empty B_make_empty
  obtain ⟨F_put, B_put⟩ := ok_put T Fun_put D_put_among
  obtain ⟨F_begin_next, B_begin_next⟩ := ok_begin_next T Fun_begin_next D_letter_signs D_pieces_of
  obtain ⟨F_next_piece, B_next_piece⟩ := ok_next_piece T Fun_next_piece F_begin_next B_begin_next
  obtain ⟨F_waiting, B_waiting⟩ := ok_waiting (P := P) (w := w) (base := base) T Fun_waiting
  have D__law_put := ok__law_put S__law_put T D__law_key
  have D__law_letter := ok__law_letter S__law_letter T D__law_parts D_made_letter
  have D__law_due_next := ok__law_due_next (P := P) (w := w) (base := base) S__law_due_next T
  have D__law_put_both := ok__law_put_both S__law_put_both T D__law_put F_put B_put
  have D__law_carried := ok__law_carried S__law_carried T D__law_due_next D_letter_of F_next_piece B_next_piece F_take B_take
  have D__law_step := ok__law_step S__law_step T D__law_carried D__law_put_both
  exact law_fn T F D__law_digits D__law_letter D__law_put_both D__law_step F_init B_init F_init_Queue B_init_Queue F_waiting B_waiting
end
end K43
namespace K43
open PySem L2 PyProof.Rows
theorem txt_mk {K : PySem.W.Frag} {h : Heap} {mg : Str → Option Value} {a_BadLetter a_BadPiece a_BadSign a_Joiner a_KINDS a_Queue a_init a_init_Queue a_m_take a_m_make_empty a_m_put a_m_begin_next a_m_next_piece a_m_waiting a_m_clear : Addr} {tk_cABOUT_LENGTH_AT tk_cCOUNT_SIGNS tk_cENDS tk_cGOES_ON tk_cHOUSES tk_cKIND_AT tk_cLONGEST_ABOUT tk_cLONGEST_BODY tk_cLONGEST_PIECE tk_cLONGEST_WAY tk_cMOST_COUNT tk_cMOST_SIGNS tk_cSIGNS tk_cSIGNS_A_PIECE tk_cWAY_AT tk_cWAY_LENGTH_AT : Tok} {k0_KINDS k1_KINDS k2_KINDS k3_KINDS k4_KINDS : Tok} {n_KINDS : Nat} {os_KINDS : Array (Option Value)} {ioc : Value} {iod ian : Option Addr} {iosl : Array (Option Value)} {ikV idoc ipm icdv ict : Value} {ioc_Queue : Value} {iod_Queue ian_Queue : Option Addr} {iosl_Queue : Array (Option Value)} {ikV_Queue idoc_Queue ipm_Queue icdv_Queue ict_Queue : Value} {oc_take : Value} {od_take an_take : Option Addr} {osl_take : Array (Option Value)} {kV_take doc_take pm_take cdv_take ct_take : Value} {oc_make_empty : Value} {od_make_empty an_make_empty : Option Addr} {osl_make_empty : Array (Option Value)} {kV_make_empty doc_make_empty pm_make_empty cdv_make_empty ct_make_empty : Value} {oc_put : Value} {od_put an_put : Option Addr} {osl_put : Array (Option Value)} {kV_put doc_put pm_put cdv_put ct_put : Value} {oc_begin_next : Value} {od_begin_next an_begin_next : Option Addr} {osl_begin_next : Array (Option Value)} {kV_begin_next doc_begin_next pm_begin_next cdv_begin_next ct_begin_next : Value} {oc_next_piece : Value} {od_next_piece an_next_piece : Option Addr} {osl_next_piece : Array (Option Value)} {kV_next_piece doc_next_piece pm_next_piece cdv_next_piece ct_next_piece : Value} {oc_waiting : Value} {od_waiting an_waiting : Option Addr} {osl_waiting : Array (Option Value)} {kV_waiting doc_waiting pm_waiting cdv_waiting ct_waiting : Value} {oc_clear : Value} {od_clear an_clear : Option Addr} {osl_clear : Array (Option Value)} {kV_clear doc_clear pm_clear cdv_clear ct_clear : Value} (KX : K.In h) (G : h.Ns mainGlobals mg)
    (h_mBadLetter : PySem.W.nsIn K mainGlobals "BadLetter" = some (some (.ref a_BadLetter)))
    (h_mBadPiece : PySem.W.nsIn K mainGlobals "BadPiece" = some (some (.ref a_BadPiece)))
    (h_mBadSign : PySem.W.nsIn K mainGlobals "BadSign" = some (some (.ref a_BadSign)))
    (h_mJoiner : PySem.W.nsIn K mainGlobals "Joiner" = some (some (.ref a_Joiner)))
    (h_mKINDS : PySem.W.nsIn K mainGlobals "KINDS" = some (some (.ref a_KINDS)))
    (h_mQueue : PySem.W.nsIn K mainGlobals "Queue" = some (some (.ref a_Queue)))
    (h_cABOUT_LENGTH_AT : PySem.W.nsIn K mainGlobals "ABOUT_LENGTH_AT" = some (some (.int 5 tk_cABOUT_LENGTH_AT)))
    (h_cCOUNT_SIGNS : PySem.W.nsIn K mainGlobals "COUNT_SIGNS" = some (some (.int 3 tk_cCOUNT_SIGNS)))
    (h_cENDS : PySem.W.nsIn K mainGlobals "ENDS" = some (some (.int 1 tk_cENDS)))
    (h_cGOES_ON : PySem.W.nsIn K mainGlobals "GOES_ON" = some (some (.int 0 tk_cGOES_ON)))
    (h_cHOUSES : PySem.W.nsIn K mainGlobals "HOUSES" = some (some (.int 32 tk_cHOUSES)))
    (h_cKIND_AT : PySem.W.nsIn K mainGlobals "KIND_AT" = some (some (.int 3 tk_cKIND_AT)))
    (h_cLONGEST_ABOUT : PySem.W.nsIn K mainGlobals "LONGEST_ABOUT" = some (some (.int 4 tk_cLONGEST_ABOUT)))
    (h_cLONGEST_BODY : PySem.W.nsIn K mainGlobals "LONGEST_BODY" = some (some (.int 56 tk_cLONGEST_BODY)))
    (h_cLONGEST_PIECE : PySem.W.nsIn K mainGlobals "LONGEST_PIECE" = some (some (.int 10 tk_cLONGEST_PIECE)))
    (h_cLONGEST_WAY : PySem.W.nsIn K mainGlobals "LONGEST_WAY" = some (some (.int 6 tk_cLONGEST_WAY)))
    (h_cMOST_COUNT : PySem.W.nsIn K mainGlobals "MOST_COUNT" = some (some (.int 900000 tk_cMOST_COUNT)))
    (h_cMOST_SIGNS : PySem.W.nsIn K mainGlobals "MOST_SIGNS" = some (some (.int 72 tk_cMOST_SIGNS)))
    (h_cSIGNS : PySem.W.nsIn K mainGlobals "SIGNS" = some (some (.int 97 tk_cSIGNS)))
    (h_cSIGNS_A_PIECE : PySem.W.nsIn K mainGlobals "SIGNS_A_PIECE" = some (some (.int 9 tk_cSIGNS_A_PIECE)))
    (h_cWAY_AT : PySem.W.nsIn K mainGlobals "WAY_AT" = some (some (.int 6 tk_cWAY_AT)))
    (h_cWAY_LENGTH_AT : PySem.W.nsIn K mainGlobals "WAY_LENGTH_AT" = some (some (.int 4 tk_cWAY_LENGTH_AT)))
    (h_n_enumerate : PySem.W.nsIn K mainGlobals "enumerate" = some none)
    (h_n_int : PySem.W.nsIn K mainGlobals "int" = some none)
    (h_n_len : PySem.W.nsIn K mainGlobals "len" = some none)
    (h_n_list : PySem.W.nsIn K mainGlobals "list" = some none)
    (h_n_range : PySem.W.nsIn K mainGlobals "range" = some none)
    (h_n_reversed : PySem.W.nsIn K mainGlobals "reversed" = some none)
    (h_n_set : PySem.W.nsIn K mainGlobals "set" = some none)
    (h_n_tuple : PySem.W.nsIn K mainGlobals "tuple" = some none)
    (h_xBadLetter : PySem.W.excIn K a_BadLetter [.type "ValueError", .type "Exception", .type "BaseException", .type "object"] "ValueError.__new__" = true)
    (h_eBadLetter_ga : PySem.W.findIn K (.ref a_BadLetter) "__getattribute__" = some (some (.builtin "BaseException.__getattribute__")))
    (h_eBadLetter_nga : PySem.W.findIn K (.ref a_BadLetter) "__getattr__" = some none)
    (h_eBadLetter_at_ : PySem.W.findIn K (.ref a_BadLetter) "__class__" = some (some (.builtin "object.__class__")))
    (h_eBadLetter_cls : PySem.W.isClsIn K a_BadLetter = true)
    (h_eBadLetter_obj : PySem.W.mroIn K a_BadLetter (.type "object") = some true)
    (h_eBadLetter_base : PySem.W.subIn K (.ref a_BadLetter) (.type "BaseException") = some true)
    (h_xBadPiece : PySem.W.excIn K a_BadPiece [.type "ValueError", .type "Exception", .type "BaseException", .type "object"] "ValueError.__new__" = true)
    (h_eBadPiece_ga : PySem.W.findIn K (.ref a_BadPiece) "__getattribute__" = some (some (.builtin "BaseException.__getattribute__")))
    (h_eBadPiece_nga : PySem.W.findIn K (.ref a_BadPiece) "__getattr__" = some none)
    (h_eBadPiece_at_ : PySem.W.findIn K (.ref a_BadPiece) "__class__" = some (some (.builtin "object.__class__")))
    (h_eBadPiece_cls : PySem.W.isClsIn K a_BadPiece = true)
    (h_eBadPiece_obj : PySem.W.mroIn K a_BadPiece (.type "object") = some true)
    (h_eBadPiece_base : PySem.W.subIn K (.ref a_BadPiece) (.type "BaseException") = some true)
    (h_xBadSign : PySem.W.excIn K a_BadSign [.type "ValueError", .type "Exception", .type "BaseException", .type "object"] "ValueError.__new__" = true)
    (h_eBadSign_ga : PySem.W.findIn K (.ref a_BadSign) "__getattribute__" = some (some (.builtin "BaseException.__getattribute__")))
    (h_eBadSign_nga : PySem.W.findIn K (.ref a_BadSign) "__getattr__" = some none)
    (h_eBadSign_at_ : PySem.W.findIn K (.ref a_BadSign) "__class__" = some (some (.builtin "object.__class__")))
    (h_eBadSign_cls : PySem.W.isClsIn K a_BadSign = true)
    (h_eBadSign_obj : PySem.W.mroIn K a_BadSign (.type "object") = some true)
    (h_eBadSign_base : PySem.W.subIn K (.ref a_BadSign) (.type "BaseException") = some true)
    (h_dKINDS : K.lookup a_KINDS = some ⟨.type "tuple", none, .seq #[.str "news" k0_KINDS, .str "part" k1_KINDS, .str "had" k2_KINDS, .str "ask" k3_KINDS, .str "answer" k4_KINDS] n_KINDS, os_KINDS⟩)
    (h_k_makes : PySem.W.makesIn K a_Joiner = true)
    (h_k_init : PySem.W.findIn K (.ref a_Joiner) "__init__" = some (some (.ref a_init)))
    (h_k_fn : PySem.W.isFn K (.ref a_init) = true)
    (h_k_kp : PySem.W.keepIn K (.ref a_Joiner) = true)
    (h_fi_l : K.lookup a_init = some ⟨ioc, iod, .func (PySem.W.fnOf "__init__" "Joiner.__init__" (defArgs s_init) (defBody s_init) (defScope s_init) .none ikV idoc ipm ian icdv ict), iosl⟩)
    (h_fi_c : PySem.W.codeIn K icdv "Joiner.__init__" = true)
    (h_fi_k : PySem.W.keepIn K (.ref a_init) = true)
    (h_k_Queue_makes : PySem.W.makesIn K a_Queue = true)
    (h_k_Queue_init : PySem.W.findIn K (.ref a_Queue) "__init__" = some (some (.ref a_init_Queue)))
    (h_k_Queue_fn : PySem.W.isFn K (.ref a_init_Queue) = true)
    (h_k_Queue_kp : PySem.W.keepIn K (.ref a_Queue) = true)
    (h_fi_Queue_l : K.lookup a_init_Queue = some ⟨ioc_Queue, iod_Queue, .func (PySem.W.fnOf "__init__" "Queue.__init__" (defArgs s_init_Queue) (defBody s_init_Queue) (defScope s_init_Queue) .none ikV_Queue idoc_Queue ipm_Queue ian_Queue icdv_Queue ict_Queue), iosl_Queue⟩)
    (h_fi_Queue_c : PySem.W.codeIn K icdv_Queue "Queue.__init__" = true)
    (h_fi_Queue_k : PySem.W.keepIn K (.ref a_init_Queue) = true)
    (h_cJoiner_pg : PySem.W.plainGet K a_Joiner Str.empty = true)
    (h_cJoiner_hd : PySem.W.hasDictIn K a_Joiner = true)
    (h_cJoiner_po : PySem.W.plainOver K a_Joiner = true)
    (h_cJoiner_sa : PySem.W.findIn K (.ref a_Joiner) "__setattr__" = some (some (.builtin "object.__setattr__")))
    (h_na_joined : PySem.W.findIn K (.ref a_Joiner) "joined" = some none)
    (h_me_take_at_ : PySem.W.findIn K (.ref a_Joiner) "take" = some (some (.ref a_m_take)))
    (h_me_take_fn : PySem.W.isFn K (.ref a_m_take) = true)
    (h_me_take_kp : PySem.W.keepIn K (.ref a_m_take) = true)
    (h_f_take_l : K.lookup a_m_take = some ⟨oc_take, od_take, .func (PySem.W.fnOf "take" "Joiner.take" (defArgs s_take) (defBody s_take) (defScope s_take) .none kV_take doc_take pm_take an_take cdv_take ct_take), osl_take⟩)
    (h_f_take_c : PySem.W.codeIn K cdv_take "Joiner.take" = true)
    (h_f_take_k : PySem.W.keepIn K (.ref a_m_take) = true)
    (h_cQueue_pg : PySem.W.plainGet K a_Queue Str.empty = true)
    (h_cQueue_hd : PySem.W.hasDictIn K a_Queue = true)
    (h_cQueue_po : PySem.W.plainOver K a_Queue = true)
    (h_cQueue_sa : PySem.W.findIn K (.ref a_Queue) "__setattr__" = some (some (.builtin "object.__setattr__")))
    (h_na_begun : PySem.W.findIn K (.ref a_Queue) "begun" = some none)
    (h_na_pieces : PySem.W.findIn K (.ref a_Queue) "pieces" = some none)
    (h_na_hurried : PySem.W.findIn K (.ref a_Queue) "hurried" = some none)
    (h_na_unhurried : PySem.W.findIn K (.ref a_Queue) "unhurried" = some none)
    (h_me_make_empty_at_ : PySem.W.findIn K (.ref a_Queue) "make_empty" = some (some (.ref a_m_make_empty)))
    (h_me_make_empty_fn : PySem.W.isFn K (.ref a_m_make_empty) = true)
    (h_me_make_empty_kp : PySem.W.keepIn K (.ref a_m_make_empty) = true)
    (h_f_make_empty_l : K.lookup a_m_make_empty = some ⟨oc_make_empty, od_make_empty, .func (PySem.W.fnOf "make_empty" "Queue.make_empty" (defArgs s_make_empty) (defBody s_make_empty) (defScope s_make_empty) .none kV_make_empty doc_make_empty pm_make_empty an_make_empty cdv_make_empty ct_make_empty), osl_make_empty⟩)
    (h_f_make_empty_c : PySem.W.codeIn K cdv_make_empty "Queue.make_empty" = true)
    (h_f_make_empty_k : PySem.W.keepIn K (.ref a_m_make_empty) = true)
    (h_me_put_at_ : PySem.W.findIn K (.ref a_Queue) "put" = some (some (.ref a_m_put)))
    (h_me_put_fn : PySem.W.isFn K (.ref a_m_put) = true)
    (h_me_put_kp : PySem.W.keepIn K (.ref a_m_put) = true)
    (h_f_put_l : K.lookup a_m_put = some ⟨oc_put, od_put, .func (PySem.W.fnOf "put" "Queue.put" (defArgs s_put) (defBody s_put) (defScope s_put) .none kV_put doc_put pm_put an_put cdv_put ct_put), osl_put⟩)
    (h_f_put_c : PySem.W.codeIn K cdv_put "Queue.put" = true)
    (h_f_put_k : PySem.W.keepIn K (.ref a_m_put) = true)
    (h_me_begin_next_at_ : PySem.W.findIn K (.ref a_Queue) "begin_next" = some (some (.ref a_m_begin_next)))
    (h_me_begin_next_fn : PySem.W.isFn K (.ref a_m_begin_next) = true)
    (h_me_begin_next_kp : PySem.W.keepIn K (.ref a_m_begin_next) = true)
    (h_f_begin_next_l : K.lookup a_m_begin_next = some ⟨oc_begin_next, od_begin_next, .func (PySem.W.fnOf "begin_next" "Queue.begin_next" (defArgs s_begin_next) (defBody s_begin_next) (defScope s_begin_next) .none kV_begin_next doc_begin_next pm_begin_next an_begin_next cdv_begin_next ct_begin_next), osl_begin_next⟩)
    (h_f_begin_next_c : PySem.W.codeIn K cdv_begin_next "Queue.begin_next" = true)
    (h_f_begin_next_k : PySem.W.keepIn K (.ref a_m_begin_next) = true)
    (h_me_next_piece_at_ : PySem.W.findIn K (.ref a_Queue) "next_piece" = some (some (.ref a_m_next_piece)))
    (h_me_next_piece_fn : PySem.W.isFn K (.ref a_m_next_piece) = true)
    (h_me_next_piece_kp : PySem.W.keepIn K (.ref a_m_next_piece) = true)
    (h_f_next_piece_l : K.lookup a_m_next_piece = some ⟨oc_next_piece, od_next_piece, .func (PySem.W.fnOf "next_piece" "Queue.next_piece" (defArgs s_next_piece) (defBody s_next_piece) (defScope s_next_piece) .none kV_next_piece doc_next_piece pm_next_piece an_next_piece cdv_next_piece ct_next_piece), osl_next_piece⟩)
    (h_f_next_piece_c : PySem.W.codeIn K cdv_next_piece "Queue.next_piece" = true)
    (h_f_next_piece_k : PySem.W.keepIn K (.ref a_m_next_piece) = true)
    (h_me_waiting_at_ : PySem.W.findIn K (.ref a_Queue) "waiting" = some (some (.ref a_m_waiting)))
    (h_me_waiting_fn : PySem.W.isFn K (.ref a_m_waiting) = true)
    (h_me_waiting_kp : PySem.W.keepIn K (.ref a_m_waiting) = true)
    (h_f_waiting_l : K.lookup a_m_waiting = some ⟨oc_waiting, od_waiting, .func (PySem.W.fnOf "waiting" "Queue.waiting" (defArgs s_waiting) (defBody s_waiting) (defScope s_waiting) .none kV_waiting doc_waiting pm_waiting an_waiting cdv_waiting ct_waiting), osl_waiting⟩)
    (h_f_waiting_c : PySem.W.codeIn K cdv_waiting "Queue.waiting" = true)
    (h_f_waiting_k : PySem.W.keepIn K (.ref a_m_waiting) = true)
    (h_me_clear_at_ : PySem.W.findIn K (.ref a_Queue) "clear" = some (some (.ref a_m_clear)))
    (h_me_clear_fn : PySem.W.isFn K (.ref a_m_clear) = true)
    (h_me_clear_kp : PySem.W.keepIn K (.ref a_m_clear) = true)
    (h_f_clear_l : K.lookup a_m_clear = some ⟨oc_clear, od_clear, .func (PySem.W.fnOf "clear" "Queue.clear" (defArgs s_clear) (defBody s_clear) (defScope s_clear) .none kV_clear doc_clear pm_clear an_clear cdv_clear ct_clear), osl_clear⟩)
    (h_f_clear_c : PySem.W.codeIn K cdv_clear "Queue.clear" = true)
    (h_f_clear_k : PySem.W.keepIn K (.ref a_m_clear) = true)
    : ∃ t, Txt K mg t := ⟨⟨a_BadLetter, a_BadPiece, a_BadSign, a_Joiner, a_KINDS, a_Queue, a_init, a_init_Queue, a_m_take, a_m_make_empty, a_m_put, a_m_begin_next, a_m_next_piece, a_m_waiting, a_m_clear⟩, ⟨⟨_, PySem.W.mg_of KX G h_cABOUT_LENGTH_AT⟩, ⟨_, PySem.W.mg_of KX G h_cCOUNT_SIGNS⟩, ⟨_, PySem.W.mg_of KX G h_cENDS⟩, ⟨_, PySem.W.mg_of KX G h_cGOES_ON⟩, ⟨_, PySem.W.mg_of KX G h_cHOUSES⟩, ⟨_, PySem.W.mg_of KX G h_cKIND_AT⟩, ⟨_, PySem.W.mg_of KX G h_cLONGEST_ABOUT⟩, ⟨_, PySem.W.mg_of KX G h_cLONGEST_BODY⟩, ⟨_, PySem.W.mg_of KX G h_cLONGEST_PIECE⟩, ⟨_, PySem.W.mg_of KX G h_cLONGEST_WAY⟩, ⟨_, PySem.W.mg_of KX G h_cMOST_COUNT⟩, ⟨_, PySem.W.mg_of KX G h_cMOST_SIGNS⟩, ⟨_, PySem.W.mg_of KX G h_cSIGNS⟩, ⟨_, PySem.W.mg_of KX G h_cSIGNS_A_PIECE⟩, ⟨_, PySem.W.mg_of KX G h_cWAY_AT⟩, ⟨_, PySem.W.mg_of KX G h_cWAY_LENGTH_AT⟩, PySem.W.mg_none_of KX G h_n_enumerate, PySem.W.mg_none_of KX G h_n_int, PySem.W.mg_none_of KX G h_n_len, PySem.W.mg_none_of KX G h_n_list, PySem.W.mg_none_of KX G h_n_range, PySem.W.mg_none_of KX G h_n_reversed, PySem.W.mg_none_of KX G h_n_set, PySem.W.mg_none_of KX G h_n_tuple, PySem.W.mg_of KX G h_mBadLetter, PySem.W.mg_of KX G h_mBadPiece, PySem.W.mg_of KX G h_mBadSign, PySem.W.mg_of KX G h_mJoiner, PySem.W.mg_of KX G h_mKINDS, PySem.W.mg_of KX G h_mQueue, h_xBadLetter, ⟨h_eBadLetter_ga, h_eBadLetter_nga, h_eBadLetter_at_, h_eBadLetter_cls, h_eBadLetter_obj, h_eBadLetter_base⟩, h_xBadPiece, ⟨h_eBadPiece_ga, h_eBadPiece_nga, h_eBadPiece_at_, h_eBadPiece_cls, h_eBadPiece_obj, h_eBadPiece_base⟩, h_xBadSign, ⟨h_eBadSign_ga, h_eBadSign_nga, h_eBadSign_at_, h_eBadSign_cls, h_eBadSign_obj, h_eBadSign_base⟩, ⟨⟨_, _, _, h_dKINDS, rfl, rfl, (by show 5 ≤ sizeLine; decide), (.cons ⟨_, rfl⟩ (.cons ⟨_, rfl⟩ (.cons ⟨_, rfl⟩ (.cons ⟨_, rfl⟩ (.cons ⟨_, rfl⟩ .nil)))))⟩⟩, ⟨_, h_dKINDS, rfl, rfl⟩, ⟨h_k_makes, h_k_init, h_k_fn, h_k_kp⟩, ⟨_, fun_mk h_fi_l h_fi_c h_fi_k⟩, ⟨h_k_Queue_makes, h_k_Queue_init, h_k_Queue_fn, h_k_Queue_kp⟩, ⟨_, fun_mk h_fi_Queue_l h_fi_Queue_c h_fi_Queue_k⟩, ⟨h_cJoiner_pg, h_cJoiner_hd, h_cJoiner_po, h_cJoiner_sa⟩, h_na_joined, ⟨h_me_take_at_, h_me_take_fn, h_me_take_kp⟩, ⟨_, fun_mk h_f_take_l h_f_take_c h_f_take_k⟩, ⟨h_cQueue_pg, h_cQueue_hd, h_cQueue_po, h_cQueue_sa⟩, h_na_begun, h_na_pieces, h_na_hurried, h_na_unhurried, ⟨h_me_make_empty_at_, h_me_make_empty_fn, h_me_make_empty_kp⟩, ⟨_, fun_mk h_f_make_empty_l h_f_make_empty_c h_f_make_empty_k⟩, ⟨h_me_put_at_, h_me_put_fn, h_me_put_kp⟩, ⟨_, fun_mk h_f_put_l h_f_put_c h_f_put_k⟩, ⟨h_me_begin_next_at_, h_me_begin_next_fn, h_me_begin_next_kp⟩, ⟨_, fun_mk h_f_begin_next_l h_f_begin_next_c h_f_begin_next_k⟩, ⟨h_me_next_piece_at_, h_me_next_piece_fn, h_me_next_piece_kp⟩, ⟨_, fun_mk h_f_next_piece_l h_f_next_piece_c h_f_next_piece_k⟩, ⟨h_me_waiting_at_, h_me_waiting_fn, h_me_waiting_kp⟩, ⟨_, fun_mk h_f_waiting_l h_f_waiting_c h_f_waiting_k⟩, ⟨h_me_clear_at_, h_me_clear_fn, h_me_clear_kp⟩, ⟨_, fun_mk h_f_clear_l h_f_clear_c h_f_clear_k⟩⟩⟩
end K43
open PySem PySem.W PyProof.Rows
/-! names of quick twins that are not to be laid beside the largest states of the top: with them the built file is too large -/
def PySem.W.Fast.tw11350987574912721647 : Nat := 0
def PySem.W.Fast.tw2242990684613551434 : Nat := 0
def PySem.W.Fast.tw13984554961399476190 : Nat := 0
def PySem.W.Fast.tw16720102488876318351 : Nat := 0
def PySem.W.Fast.tw625528783624380730 : Nat := 0
def PySem.W.Fast.tw555330276546546579 : Nat := 0
def PySem.W.Fast.tw12533367315094262680 : Nat := 0
def PySem.W.Fast.tw3066034591662590035 : Nat := 0
def PySem.W.Fast.tw13922740453557595440 : Nat := 0
def PySem.W.Fast.tw619352703745594701 : Nat := 0
set_option maxRecDepth 100000 in
set_option maxHeartbeats 0 in
theorem PySem.Challenge.cw_stormpost_k43_whole_letters_come_whole_holds : PySem.Challenge.rw_stormpost_k43_whole_letters_come_whole.Holds := by
  w_on; o_law; k_head; (case hw => w_witness2)
  k_fill
  refine L2.walk_ofS (l := PySem.Challenge.rw_stormpost_k43_whole_letters_come_whole) (k := 8) ⟨rfl, by decide, by decide⟩ rfl rfl (fun w h Y => PySem.W.kIn_of Y) ?F
  case F =>
    intro w mg fa h KX G hmg
    have S_is_sign : L2.Site (L2.KOf KX) mg "is_sign" K43.s_is_sign := by
      dsimp only [L2.KOf]
      refine' L2.Site.mk' KX G ?a ?l ?c ?k
      (case a => k_is); (case l => k_is); (case c => k_is); (case k => k_is)
    have S_look_sign : L2.Site (L2.KOf KX) mg "look_sign" K43.s_look_sign := by
      dsimp only [L2.KOf]
      refine' L2.Site.mk' KX G ?a ?l ?c ?k
      (case a => k_is); (case l => k_is); (case c => k_is); (case k => k_is)
    have S_number_signs : L2.Site (L2.KOf KX) mg "number_signs" K43.s_number_signs := by
      dsimp only [L2.KOf]
      refine' L2.Site.mk' KX G ?a ?l ?c ?k
      (case a => k_is); (case l => k_is); (case c => k_is); (case k => k_is)
    have S_signs_number : L2.Site (L2.KOf KX) mg "signs_number" K43.s_signs_number := by
      dsimp only [L2.KOf]
      refine' L2.Site.mk' KX G ?a ?l ?c ?k
      (case a => k_is); (case l => k_is); (case c => k_is); (case k => k_is)
    have S_look_piece : L2.Site (L2.KOf KX) mg "look_piece" K43.s_look_piece := by
      dsimp only [L2.KOf]
      refine' L2.Site.mk' KX G ?a ?l ?c ?k
      (case a => k_is); (case l => k_is); (case c => k_is); (case k => k_is)
    have S_is_house : L2.Site (L2.KOf KX) mg "is_house" K43.s_is_house := by
      dsimp only [L2.KOf]
      refine' L2.Site.mk' KX G ?a ?l ?c ?k
      (case a => k_is); (case l => k_is); (case c => k_is); (case k => k_is)
    have S_look_signs : L2.Site (L2.KOf KX) mg "look_signs" K43.s_look_signs := by
      dsimp only [L2.KOf]
      refine' L2.Site.mk' KX G ?a ?l ?c ?k
      (case a => k_is); (case l => k_is); (case c => k_is); (case k => k_is)
    have S_look_way : L2.Site (L2.KOf KX) mg "look_way" K43.s_look_way := by
      dsimp only [L2.KOf]
      refine' L2.Site.mk' KX G ?a ?l ?c ?k
      (case a => k_is); (case l => k_is); (case c => k_is); (case k => k_is)
    have S_made_letter : L2.Site (L2.KOf KX) mg "made_letter" K43.s_made_letter := by
      dsimp only [L2.KOf]
      refine' L2.Site.mk' KX G ?a ?l ?c ?k
      (case a => k_is); (case l => k_is); (case c => k_is); (case k => k_is)
    have S_letter_signs : L2.Site (L2.KOf KX) mg "letter_signs" K43.s_letter_signs := by
      dsimp only [L2.KOf]
      refine' L2.Site.mk' KX G ?a ?l ?c ?k
      (case a => k_is); (case l => k_is); (case c => k_is); (case k => k_is)
    have S_letter_of : L2.Site (L2.KOf KX) mg "letter_of" K43.s_letter_of := by
      dsimp only [L2.KOf]
      refine' L2.Site.mk' KX G ?a ?l ?c ?k
      (case a => k_is); (case l => k_is); (case c => k_is); (case k => k_is)
    have S_pieces_of : L2.Site (L2.KOf KX) mg "pieces_of" K43.s_pieces_of := by
      dsimp only [L2.KOf]
      refine' L2.Site.mk' KX G ?a ?l ?c ?k
      (case a => k_is); (case l => k_is); (case c => k_is); (case k => k_is)
    have S_matter_of : L2.Site (L2.KOf KX) mg "matter_of" K43.s_matter_of := by
      dsimp only [L2.KOf]
      refine' L2.Site.mk' KX G ?a ?l ?c ?k
      (case a => k_is); (case l => k_is); (case c => k_is); (case k => k_is)
    have S_place_of : L2.Site (L2.KOf KX) mg "place_of" K43.s_place_of := by
      dsimp only [L2.KOf]
      refine' L2.Site.mk' KX G ?a ?l ?c ?k
      (case a => k_is); (case l => k_is); (case c => k_is); (case k => k_is)
    have S_put_among : L2.Site (L2.KOf KX) mg "put_among" K43.s_put_among := by
      dsimp only [L2.KOf]
      refine' L2.Site.mk' KX G ?a ?l ?c ?k
      (case a => k_is); (case l => k_is); (case c => k_is); (case k => k_is)
    have S__law_digits : L2.Site (L2.KOf KX) mg "_law_digits" K43.s__law_digits := by
      dsimp only [L2.KOf]
      refine' L2.Site.mk' KX G ?a ?l ?c ?k
      (case a => k_is); (case l => k_is); (case c => k_is); (case k => k_is)
    have S__law_way : L2.Site (L2.KOf KX) mg "_law_way" K43.s__law_way := by
      dsimp only [L2.KOf]
      refine' L2.Site.mk' KX G ?a ?l ?c ?k
      (case a => k_is); (case l => k_is); (case c => k_is); (case k => k_is)
    have S__law_parts : L2.Site (L2.KOf KX) mg "_law_parts" K43.s__law_parts := by
      dsimp only [L2.KOf]
      refine' L2.Site.mk' KX G ?a ?l ?c ?k
      (case a => k_is); (case l => k_is); (case c => k_is); (case k => k_is)
    have S__law_letter : L2.Site (L2.KOf KX) mg "_law_letter" K43.s__law_letter := by
      dsimp only [L2.KOf]
      refine' L2.Site.mk' KX G ?a ?l ?c ?k
      (case a => k_is); (case l => k_is); (case c => k_is); (case k => k_is)
    have S__law_key : L2.Site (L2.KOf KX) mg "_law_key" K43.s__law_key := by
      dsimp only [L2.KOf]
      refine' L2.Site.mk' KX G ?a ?l ?c ?k
      (case a => k_is); (case l => k_is); (case c => k_is); (case k => k_is)
    have S__law_put : L2.Site (L2.KOf KX) mg "_law_put" K43.s__law_put := by
      dsimp only [L2.KOf]
      refine' L2.Site.mk' KX G ?a ?l ?c ?k
      (case a => k_is); (case l => k_is); (case c => k_is); (case k => k_is)
    have S__law_due_next : L2.Site (L2.KOf KX) mg "_law_due_next" K43.s__law_due_next := by
      dsimp only [L2.KOf]
      refine' L2.Site.mk' KX G ?a ?l ?c ?k
      (case a => k_is); (case l => k_is); (case c => k_is); (case k => k_is)
    have S__law_carried : L2.Site (L2.KOf KX) mg "_law_carried" K43.s__law_carried := by
      dsimp only [L2.KOf]
      refine' L2.Site.mk' KX G ?a ?l ?c ?k
      (case a => k_is); (case l => k_is); (case c => k_is); (case k => k_is)
    have S__law_put_both : L2.Site (L2.KOf KX) mg "_law_put_both" K43.s__law_put_both := by
      dsimp only [L2.KOf]
      refine' L2.Site.mk' KX G ?a ?l ?c ?k
      (case a => k_is); (case l => k_is); (case c => k_is); (case k => k_is)
    have S__law_step : L2.Site (L2.KOf KX) mg "_law_step" K43.s__law_step := by
      dsimp only [L2.KOf]
      refine' L2.Site.mk' KX G ?a ?l ?c ?k
      (case a => k_is); (case l => k_is); (case c => k_is); (case k => k_is)
    have S_law : L2.Site (L2.KOf KX) mg "law" K43.s_law := by
      dsimp only [L2.KOf]
      refine' L2.Site.mk' KX G ?a ?l ?c ?k
      (case a => k_is); (case l => k_is); (case c => k_is); (case k => k_is)
    have T : ∃ t, K43.Txt (L2.KOf KX) mg t := by
      dsimp only [L2.KOf]
      refine' K43.txt_mk KX G ?h_mBadLetter ?h_mBadPiece ?h_mBadSign ?h_mJoiner ?h_mKINDS ?h_mQueue ?h_cABOUT_LENGTH_AT ?h_cCOUNT_SIGNS ?h_cENDS ?h_cGOES_ON ?h_cHOUSES ?h_cKIND_AT ?h_cLONGEST_ABOUT ?h_cLONGEST_BODY ?h_cLONGEST_PIECE ?h_cLONGEST_WAY ?h_cMOST_COUNT ?h_cMOST_SIGNS ?h_cSIGNS ?h_cSIGNS_A_PIECE ?h_cWAY_AT ?h_cWAY_LENGTH_AT ?h_n_enumerate ?h_n_int ?h_n_len ?h_n_list ?h_n_range ?h_n_reversed ?h_n_set ?h_n_tuple ?h_xBadLetter ?h_eBadLetter_ga ?h_eBadLetter_nga ?h_eBadLetter_at_ ?h_eBadLetter_cls ?h_eBadLetter_obj ?h_eBadLetter_base ?h_xBadPiece ?h_eBadPiece_ga ?h_eBadPiece_nga ?h_eBadPiece_at_ ?h_eBadPiece_cls ?h_eBadPiece_obj ?h_eBadPiece_base ?h_xBadSign ?h_eBadSign_ga ?h_eBadSign_nga ?h_eBadSign_at_ ?h_eBadSign_cls ?h_eBadSign_obj ?h_eBadSign_base ?h_dKINDS ?h_k_makes ?h_k_init ?h_k_fn ?h_k_kp ?h_fi_l ?h_fi_c ?h_fi_k ?h_k_Queue_makes ?h_k_Queue_init ?h_k_Queue_fn ?h_k_Queue_kp ?h_fi_Queue_l ?h_fi_Queue_c ?h_fi_Queue_k ?h_cJoiner_pg ?h_cJoiner_hd ?h_cJoiner_po ?h_cJoiner_sa ?h_na_joined ?h_me_take_at_ ?h_me_take_fn ?h_me_take_kp ?h_f_take_l ?h_f_take_c ?h_f_take_k ?h_cQueue_pg ?h_cQueue_hd ?h_cQueue_po ?h_cQueue_sa ?h_na_begun ?h_na_pieces ?h_na_hurried ?h_na_unhurried ?h_me_make_empty_at_ ?h_me_make_empty_fn ?h_me_make_empty_kp ?h_f_make_empty_l ?h_f_make_empty_c ?h_f_make_empty_k ?h_me_put_at_ ?h_me_put_fn ?h_me_put_kp ?h_f_put_l ?h_f_put_c ?h_f_put_k ?h_me_begin_next_at_ ?h_me_begin_next_fn ?h_me_begin_next_kp ?h_f_begin_next_l ?h_f_begin_next_c ?h_f_begin_next_k ?h_me_next_piece_at_ ?h_me_next_piece_fn ?h_me_next_piece_kp ?h_f_next_piece_l ?h_f_next_piece_c ?h_f_next_piece_k ?h_me_waiting_at_ ?h_me_waiting_fn ?h_me_waiting_kp ?h_f_waiting_l ?h_f_waiting_c ?h_f_waiting_k ?h_me_clear_at_ ?h_me_clear_fn ?h_me_clear_kp ?h_f_clear_l ?h_f_clear_c ?h_f_clear_k
      (case h_mBadLetter => k_is)
      (case h_mBadPiece => k_is)
      (case h_mBadSign => k_is)
      (case h_mJoiner => k_is)
      (case h_mKINDS => k_is)
      (case h_mQueue => k_is)
      (case h_cABOUT_LENGTH_AT => k_is)
      (case h_cCOUNT_SIGNS => k_is)
      (case h_cENDS => k_is)
      (case h_cGOES_ON => k_is)
      (case h_cHOUSES => k_is)
      (case h_cKIND_AT => k_is)
      (case h_cLONGEST_ABOUT => k_is)
      (case h_cLONGEST_BODY => k_is)
      (case h_cLONGEST_PIECE => k_is)
      (case h_cLONGEST_WAY => k_is)
      (case h_cMOST_COUNT => k_is)
      (case h_cMOST_SIGNS => k_is)
      (case h_cSIGNS => k_is)
      (case h_cSIGNS_A_PIECE => k_is)
      (case h_cWAY_AT => k_is)
      (case h_cWAY_LENGTH_AT => k_is)
      (case h_n_enumerate => k_is)
      (case h_n_int => k_is)
      (case h_n_len => k_is)
      (case h_n_list => k_is)
      (case h_n_range => k_is)
      (case h_n_reversed => k_is)
      (case h_n_set => k_is)
      (case h_n_tuple => k_is)
      (case h_xBadLetter => k_exc)
      (case h_eBadLetter_ga => k_is)
      (case h_eBadLetter_nga => k_is)
      (case h_eBadLetter_at_ => k_is)
      (case h_eBadLetter_cls => k_is)
      (case h_eBadLetter_obj => k_is)
      (case h_eBadLetter_base => k_is)
      (case h_xBadPiece => k_exc)
      (case h_eBadPiece_ga => k_is)
      (case h_eBadPiece_nga => k_is)
      (case h_eBadPiece_at_ => k_is)
      (case h_eBadPiece_cls => k_is)
      (case h_eBadPiece_obj => k_is)
      (case h_eBadPiece_base => k_is)
      (case h_xBadSign => k_exc)
      (case h_eBadSign_ga => k_is)
      (case h_eBadSign_nga => k_is)
      (case h_eBadSign_at_ => k_is)
      (case h_eBadSign_cls => k_is)
      (case h_eBadSign_obj => k_is)
      (case h_eBadSign_base => k_is)
      (case h_dKINDS => k_is)
      (case h_k_makes => k_is)
      (case h_k_init => k_is)
      (case h_k_fn => k_is)
      (case h_k_kp => k_is)
      (case h_fi_l => k_is)
      (case h_fi_c => k_is)
      (case h_fi_k => k_is)
      (case h_k_Queue_makes => k_is)
      (case h_k_Queue_init => k_is)
      (case h_k_Queue_fn => k_is)
      (case h_k_Queue_kp => k_is)
      (case h_fi_Queue_l => k_is)
      (case h_fi_Queue_c => k_is)
      (case h_fi_Queue_k => k_is)
      (case h_cJoiner_pg => k_is)
      (case h_cJoiner_hd => k_is)
      (case h_cJoiner_po => k_is)
      (case h_cJoiner_sa => k_is)
      (case h_na_joined => k_is)
      (case h_me_take_at_ => k_is)
      (case h_me_take_fn => k_is)
      (case h_me_take_kp => k_is)
      (case h_f_take_l => k_is)
      (case h_f_take_c => k_is)
      (case h_f_take_k => k_is)
      (case h_cQueue_pg => k_is)
      (case h_cQueue_hd => k_is)
      (case h_cQueue_po => k_is)
      (case h_cQueue_sa => k_is)
      (case h_na_begun => k_is)
      (case h_na_pieces => k_is)
      (case h_na_hurried => k_is)
      (case h_na_unhurried => k_is)
      (case h_me_make_empty_at_ => k_is)
      (case h_me_make_empty_fn => k_is)
      (case h_me_make_empty_kp => k_is)
      (case h_f_make_empty_l => k_is)
      (case h_f_make_empty_c => k_is)
      (case h_f_make_empty_k => k_is)
      (case h_me_put_at_ => k_is)
      (case h_me_put_fn => k_is)
      (case h_me_put_kp => k_is)
      (case h_f_put_l => k_is)
      (case h_f_put_c => k_is)
      (case h_f_put_k => k_is)
      (case h_me_begin_next_at_ => k_is)
      (case h_me_begin_next_fn => k_is)
      (case h_me_begin_next_kp => k_is)
      (case h_f_begin_next_l => k_is)
      (case h_f_begin_next_c => k_is)
      (case h_f_begin_next_k => k_is)
      (case h_me_next_piece_at_ => k_is)
      (case h_me_next_piece_fn => k_is)
      (case h_me_next_piece_kp => k_is)
      (case h_f_next_piece_l => k_is)
      (case h_f_next_piece_c => k_is)
      (case h_f_next_piece_k => k_is)
      (case h_me_waiting_at_ => k_is)
      (case h_me_waiting_fn => k_is)
      (case h_me_waiting_kp => k_is)
      (case h_f_waiting_l => k_is)
      (case h_f_waiting_c => k_is)
      (case h_f_waiting_k => k_is)
      (case h_me_clear_at_ => k_is)
      (case h_me_clear_fn => k_is)
      (case h_me_clear_kp => k_is)
      (case h_f_clear_l => k_is)
      (case h_f_clear_c => k_is)
      (case h_f_clear_k => k_is)
    obtain ⟨t, T⟩ := T
    exact L2.law_site S_law (fun _ _ _ _ _ _ us hl => match us, hl with | [_], _ => rfl) hmg fun f fd base F => K43.law_all T F S_is_sign S_look_sign S_number_signs S_signs_number S_look_piece S_is_house S_look_signs S_look_way S_made_letter S_letter_signs S_letter_of S_pieces_of S_matter_of S_place_of S_put_among S__law_digits S__law_way S__law_parts S__law_letter S__law_key S__law_put S__law_due_next S__law_carried S__law_put_both S__law_step
#print axioms PySem.Challenge.cw_stormpost_k43_whole_letters_come_whole_holds
