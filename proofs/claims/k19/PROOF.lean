import PyProof.Rows.All
import Wide.All
import OpenK.AllK
import Wide.FinOn
import Lean
import PyProof.EqAt
import PyProof.EqKinds
import PyProof.TupleCall
import PySem.Challenge.RW_stormpost_k19_cells_in_the_air
set_option Elab.async false
set_option linter.all false
set_option maxRecDepth 100000
/-! THE HAND LAYER, for ints, bools, texts, own classes, LISTS and tuples (index, slices, in, append, pop ..), calls, loops. Paste it whole ahead of your own text; what your proof does not reach may be deleted. -/
namespace L2
open PySem PySem.Spec PyProof.Rows

/-- a key: an int or a str -/
abbrev Key := Sum Int Str
def keyIs : Key → Value → Bool
  | .inl k, v => Value.isInt k v
  | .inr x, v => Value.isStrOf x v
def keyH (w : World) : Key → Int
  | .inl k => hashInt k
  | .inr x => hashStr w x
theorem keyIs_shape : ∀ {k : Key} {v : Value}, keyIs k v = true → (∃ i t, k = Sum.inl i ∧ v = Value.int i t) ∨ (∃ x t, k = Sum.inr x ∧ v = Value.str x t)
  | .inl i, v, h => by
    obtain ⟨t, e⟩ := Value.isInt_shape (k := i) (v := v) h
    exact .inl ⟨i, t, rfl, e⟩
  | .inr x, v, h => by
    obtain ⟨t, e⟩ := Value.isStrOf_shape (x := x) (v := v) h
    exact .inr ⟨x, t, rfl, e⟩
theorem keyIs_int (i : Int) (t : Tok) : keyIs (.inl i) (.int i t) = true := by simp [keyIs, Value.isInt]
theorem keyIs_str (x : Str) (t : Tok) : keyIs (.inr x) (.str x t) = true := by simp [keyIs, Value.isStrOf]
theorem key_ll (a b : Int) : decide ((Sum.inl a : Key) = Sum.inl b) = (a == b) := by
  by_cases e : a = b
  · subst e; simp
  · have h : ¬ (Sum.inl a : Key) = Sum.inl b := fun q => e (Sum.inl.inj q)
    rw [decide_eq_false h]
    exact (beq_eq_false_iff_ne.mpr e).symm
theorem key_rr (a b : Str) : decide ((Sum.inr a : Key) = Sum.inr b) = decide (a = b) := by
  by_cases e : a = b
  · subst e; simp
  · have h : ¬ (Sum.inr a : Key) = Sum.inr b := fun q => e (Sum.inr.inj q)
    rw [decide_eq_false h, decide_eq_false e]
theorem key_lr (a : Int) (b : Str) : decide ((Sum.inl a : Key) = Sum.inr b) = false := decide_eq_false (fun q => nomatch q)
theorem key_rl (a : Str) (b : Int) : decide ((Sum.inr a : Key) = Sum.inl b) = false := decide_eq_false (fun q => nomatch q)

def mixKind (prog : Program) (w : World) : PySem.KeyKind prog w Key where
  is := keyIs
  hash := keyH w
  inj := fun v a b ha hb => by
    rcases keyIs_shape ha with ⟨i, t, rfl, rfl⟩ | ⟨x, t, rfl, rfl⟩
    · rcases keyIs_shape hb with ⟨j, u, rfl, e⟩ | ⟨y, u, rfl, e⟩
      · injection e with e1 _; rw [e1]
      · exact nomatch e
    · rcases keyIs_shape hb with ⟨j, u, rfl, e⟩ | ⟨y, u, rfl, e⟩
      · exact nomatch e
      · injection e with e1 _; rw [e1]
  byValue := fun k v h => by
    rcases keyIs_shape h with ⟨i, t, rfl, rfl⟩ | ⟨x, t, rfl, rfl⟩ <;> rfl
  pyHash := fun hv h => by
    rcases keyIs_shape hv with ⟨i, t, rfl, rfl⟩ | ⟨x, t, rfl, rfl⟩
    · exact wpAny_pyHash_int h
    · exact wpAny_pyHash_str h
  eqBool := fun hu hv h => by
    rcases keyIs_shape hu with ⟨i, t, rfl, rfl⟩ | ⟨x, t, rfl, rfl⟩
    · rcases keyIs_shape hv with ⟨j, u, rfl, rfl⟩ | ⟨y, u, rfl, rfl⟩
      · rw [key_ll] at h; exact wpAny_eqBool_int h
      · rw [key_lr] at h; exact SeqAt.EqAt.int_str i t y u _ _ _ _ h
    · rcases keyIs_shape hv with ⟨j, u, rfl, rfl⟩ | ⟨y, u, rfl, rfl⟩
      · rw [key_rl] at h; exact SeqAt.EqAt.str_int x t j u _ _ _ _ h
      · rw [key_rr] at h; exact wpAny_eqBool_str h
  «strs» := fun k x t v h => by
    rcases keyIs_shape h with ⟨i, u, rfl, e⟩ | ⟨y, u, rfl, e⟩
    · exact nomatch e
    · injection e with e1 _
      subst e1
      cases v <;> rfl

theorem mixKind_int (prog : Program) (w : World) (i : Int) (t : Tok) : (mixKind prog w).is (.inl i) (.int i t) = true := keyIs_int i t
theorem mixKind_str (prog : Program) (w : World) (x : Str) (t : Tok) : (mixKind prog w).is (.inr x) (.str x t) = true := keyIs_str x t
end L2

namespace L2
open PySem PySem.Spec PyProof.Rows

/-- a value, without the heap -/
inductive V where
  | non | bl (b : Bool) | int (i : Int) | str (x : Str) | byt (b : Array UInt8) | flt (b : UInt64) | ref (a : Addr) | ty (n : String)
  deriving DecidableEq

def RelV : V → Value → Prop
  | .non, u => u = Value.none
  | .bl b, u => u = Value.bool b
  | .int i, u => ∃ t, u = Value.int i t
  | .str x, u => ∃ t, u = Value.str x t
  | .byt b, u => ∃ t, u = Value.bytes b t
  | .flt b, u => ∃ t, u = Value.float b t
  | .ref a, u => u = Value.ref a
  | .ty n, u => u = Value.type n

abbrev Vals : List V → List Value → Prop := Paired RelV
theorem Vals.length {xs : List V} {us : List Value} (r : Vals xs us) : xs.length = us.length := Paired.length r
theorem Vals.get : ∀ {xs : List V} {us : List Value} {i : Nat} {x : V}, Vals xs us → xs[i]? = some x → ∃ u, us[i]? = some u ∧ RelV x u
  | _, _, _, _, .nil, e => by simp at e
  | _, _, 0, _, .cons r _, e => by simp at e; subst e; exact ⟨_, rfl, r⟩
  | _, _, i + 1, x, .cons _ t, e => by
    obtain ⟨u, h1, h2⟩ := Vals.get (i := i) (x := x) t (by simpa using e)
    exact ⟨u, by simpa using h1, h2⟩
theorem Vals.set {x : V} {u : Value} (r : RelV x u) : ∀ {xs : List V} {us : List Value} (i : Nat), Vals xs us → Vals (xs.set i x) (us.set i u)
  | _, _, _, .nil => .nil
  | _, _, 0, .cons _ t => .cons r t
  | _, _, i + 1, .cons q t => .cons q (Vals.set r i t)
theorem Vals.append : ∀ {xs ys : List V} {us ws : List Value}, Vals xs us → Vals ys ws → Vals (xs ++ ys) (us ++ ws)
  | _, _, _, _, .nil, s => s
  | _, _, _, _, .cons r t, s => .cons r (Vals.append t s)
theorem Vals.take : ∀ {xs : List V} {us : List Value} (n : Nat), Vals xs us → Vals (xs.take n) (us.take n)
  | _, _, 0, _ => .nil
  | _, _, _ + 1, .nil => .nil
  | _, _, n + 1, .cons r t => .cons r (Vals.take n t)
theorem Vals.drop : ∀ {xs : List V} {us : List Value} (n : Nat), Vals xs us → Vals (xs.drop n) (us.drop n)
  | _, _, 0, r => r
  | _, _, _ + 1, .nil => .nil
  | _, _, n + 1, .cons _ t => Vals.drop n t
theorem Vals.none_of : ∀ {xs : List V} {us : List Value} {i : Nat}, Vals xs us → xs[i]? = none → us[i]? = none := fun {xs us i} r e => by
  have h1 := r.length
  have h2 : xs.length ≤ i := List.getElem?_eq_none_iff.mp e
  exact List.getElem?_eq_none_iff.mpr (by omega)

def RelO : Option V → Option Value → Prop
  | some v, some u => RelV v u
  | none, none => True
  | _, _ => False
def KV {κ : Type} : List (κ × V) → List (κ × Value) → Prop := Paired fun (p : κ × V) (q : κ × Value) => p.1 = q.1 ∧ RelV p.2 q.2

/-- a key of a dict (00_mix): an int or a text -/
def kV : Key → V
  | .inl i => .int i
  | .inr x => .str x

/-- what stands at a tracked address -/
inductive HO where
  /-- a list -/
  | lst (xs : List V)
  /-- a tuple (never changes) -/
  | tup (xs : List V)
  /-- a dict whose keys are ints and texts; one whose keys are tuples of ints and texts (the empty one is both) -/
  | dK (kvs : List (Key × V)) | dT (kvs : List (List Key × V))
  /-- a set of ints: its members, its size -/
  | set (S : Int → Bool) (n : Nat)
  /-- an instance of the class at C, its dict at dx, its attributes -/
  | ins (C dx : Addr) (fs : List (Str × V))
  /-- the dict of the instance at x -/
  | own (x : Addr)
  /-- the dict of an exception -/
  | xd (fs : List (Str × V))
  /-- a bound method, f of x -/
  | met (f x : Addr)
  /-- a range object lo, lo + 1, .. below hi -/
  | rng (lo hi : Int)
  /-- a thing that is known to the object (the script; a dict while a loop walks it): read, never written while it is so -/
  | frz (o : Obj) (u : HO)
  /-- a code object's table -/
  | tbl (ps : Array Value)
  /-- any other thing, by what is true of its one object (a def of one's own: SetO a S n := HO.ext fun h => ..) -/
  | ext (φ : Heap → Prop)

abbrev Hp := Addr → Option HO
def upd (H : Hp) (a : Addr) (o : HO) : Hp := fun b => if b = a then some o else H b
theorem upd_same {H : Hp} {a : Addr} {o : HO} : upd H a o a = some o := by unfold upd; rw [if_pos rfl]
theorem upd_ne {H : Hp} {a b : Addr} {o : HO} (h : b ≠ a) : upd H a o b = H b := by unfold upd; rw [if_neg h]
theorem upd_upd {H : Hp} {a : Addr} {o u : HO} : upd (upd H a o) a u = upd H a u := by
  funext b; unfold upd; split <;> rfl
theorem ne_of_none {H : Hp} {a b : Addr} {o : HO} (h : H a = some o) (h' : H b = none) : a ≠ b := by
  intro e; subst e; rw [h] at h'; cases h'

section
variable (P : Program) (w : World)
def ObjOk (H : Hp) (h : Heap) (a : Addr) : HO → Prop
  | .lst xs => xs.length ≤ sizeLine ∧ ∃ (its : List Value) (n : Nat), Vals xs its ∧ h.get? a = some { cls := .type "list", data := .seq its.toArray n }
  | .tup xs => xs.length ≤ sizeLine ∧ ∃ its : List Value, Vals xs its ∧ IsTup h a its.toArray
  | .dK kvs => kvs.length ≤ sizeLine ∧ (a == sysModules) = false ∧ ∃ vs, KV kvs vs ∧ h.DictOf (mixKind P w) a vs
  | .dT kvs => kvs.length ≤ sizeLine ∧ (a == sysModules) = false ∧ ∃ xs : List (List Key × Addr × Value),
      Paired (fun (p : List Key × V) (q : List Key × Addr × Value) => p.1 = q.1 ∧ H q.2.1 = some (.tup (p.1.map kV)) ∧ RelV p.2 q.2.2) kvs xs ∧
      ∃ o es ep, h.get? a = some o ∧ o.ExactDict ∧ o.data = .dict es ep ∧ es.toList = xs.map (entryOfKey (tupleKind (mixKind P w))) ∧ (xs.map (·.1)).Nodup
  | .set S n => h.SetOf (intKind P w) a S n
  | .ins C dx fs => H dx = some (.own a) ∧ fs.length ≤ 1000 ∧ dx ≠ a ∧ h.get? a = some (PySem.W.instObj C dx) ∧
      ∃ mA, h.Ns1 dx mA ∧ (∀ f, RelO (fs.lookup f) (mA f)) ∧ PySem.Within mA (fs.map (·.1))
  | .own _ => ∃ o, h.get? a = some o
  | .xd fs => ∃ mA, h.Ns1 a mA ∧ ∀ f, RelO (fs.lookup f) (mA f)
  | .rng lo hi => ∃ t u v, h.get? a = some { cls := .type "range", data := .fields #[.int lo t, .int hi u, .int 1 v] }
  | .frz o u => h.get? a = some o ∧ ObjOk H h a u
  | .tbl ps => h.get? a = some { cls := .none, data := .fields ps }
  | .met f x => h.get? a = some (PySem.W.methodObj (.ref f) (.ref x))
  | .ext φ => φ h ∧ (∃ o, h.get? a = some o) ∧ ∀ h1 h2 : Heap, φ h1 → (∀ o, h1.get? a = some o → h2.get? a = some o) → φ h2
/-- the abstract heap is held -/
def HOk (H : Hp) (h : Heap) : Prop := ∀ a o, H a = some o → ObjOk P w H h a o
end

section
variable {P : Program} {w : World} {H H' : Hp} {h h' : Heap} {a : Addr} {o : HO}
theorem ObjOk.lt (x : ObjOk P w H h a o) : a < h.objs.size := by
  cases o with
  | lst xs => obtain ⟨_, _, _, _, e⟩ := x; exact Heap.lt_size e
  | tup xs => obtain ⟨_, _, _, p⟩ := x; exact p.lt
  | dK kvs => obtain ⟨_, _, _, _, o, _, _, e, _⟩ := x; exact Heap.lt_size e
  | dT kvs => obtain ⟨_, _, _, _, o, _, _, e, _⟩ := x; exact Heap.lt_size e
  | set S n => obtain ⟨o, _, _, _, e, _⟩ := x; exact Heap.lt_size e
  | ins C dx fs => obtain ⟨_, _, _, e, _⟩ := x; exact Heap.lt_size e
  | own y => obtain ⟨_, e⟩ := x; exact Heap.lt_size e
  | xd fs => obtain ⟨_, ⟨_, _, _, e, _⟩, _⟩ := x; exact Heap.lt_size e
  | rng lo hi => obtain ⟨_, _, _, e⟩ := x; exact Heap.lt_size e
  | frz ob u => obtain ⟨e, _⟩ := x; exact Heap.lt_size e
  | tbl ps => exact Heap.lt_size (show h.get? a = some _ from x)
  | met f y => exact Heap.lt_size (show h.get? a = some _ from x)
  | ext φ => obtain ⟨_, ⟨_, e⟩, _⟩ := x; exact Heap.lt_size e
theorem Paired.mapP {α β : Type} {F G : α → β → Prop} : ∀ {l₁ : List α} {l₂ : List β}, Paired F l₁ l₂ → (∀ a b, F a b → G a b) → Paired G l₁ l₂
  | _, _, .nil, _ => .nil
  | _, _, .cons r t, f => .cons (f _ _ r) (Paired.mapP t f)
/-- what an object's description leans on: its own object, its own dict, the tuples -/
theorem ObjOk.stay (x : ObjOk P w H h a o) (k : ∀ b u, (b = a ∨ H b = some (.own a)) → h.get? b = some u → h'.get? b = some u)
    (ho : ∀ b, H b = some (.own a) → H' b = some (.own a)) (ht : ∀ b xs, H b = some (.tup xs) → H' b = some (.tup xs)) : ObjOk P w H' h' a o := by
  induction o with
  | lst xs => obtain ⟨z, its, n, r, e⟩ := x; exact ⟨z, its, n, r, k _ _ (.inl rfl) e⟩
  | tup xs => obtain ⟨z, its, r, ob, e, c⟩ := x; exact ⟨z, its, r, ob, k _ _ (.inl rfl) e, c⟩
  | dK kvs => obtain ⟨z, y, vs, r, ob, es, ep, e, c⟩ := x; exact ⟨z, y, vs, r, ob, es, ep, k _ _ (.inl rfl) e, c⟩
  | dT kvs =>
    obtain ⟨z, y, xs, r, ob, es, ep, e, c⟩ := x
    exact ⟨z, y, xs, Paired.mapP r fun p q z => ⟨z.1, ht _ _ z.2.1, z.2.2⟩, ob, es, ep, k _ _ (.inl rfl) e, c⟩
  | set S n => obtain ⟨ob, es, ep, t, e, c⟩ := x; exact ⟨ob, es, ep, t, k _ _ (.inl rfl) e, c⟩
  | ins C dx fs =>
    obtain ⟨d, z, ne, e, mA, ⟨od, es, ep, e2, c⟩, r⟩ := x
    exact ⟨ho _ d, z, ne, k _ _ (.inl rfl) e, mA, ⟨od, es, ep, k _ _ (.inr d) e2, c⟩, r⟩
  | own y => obtain ⟨ob, e⟩ := x; exact ⟨ob, k _ _ (.inl rfl) e⟩
  | xd fs => obtain ⟨mA, ⟨od, es, ep, e, c⟩, r⟩ := x; exact ⟨mA, ⟨od, es, ep, k _ _ (.inl rfl) e, c⟩, r⟩
  | rng lo hi => obtain ⟨t, u, v, e⟩ := x; exact ⟨t, u, v, k _ _ (.inl rfl) e⟩
  | frz ob u ih => obtain ⟨e, q⟩ := x; exact ⟨k _ _ (.inl rfl) e, ih q⟩
  | tbl ps =>
    have e : h.get? a = some { cls := .none, data := .fields ps } := x
    show h'.get? a = some { cls := .none, data := .fields ps }
    exact k a _ (.inl rfl) e
  | met f y =>
    have e : h.get? a = some (PySem.W.methodObj (.ref f) (.ref y)) := x
    show h'.get? a = some (PySem.W.methodObj (.ref f) (.ref y))
    exact k a _ (.inl rfl) e
  | ext φ => obtain ⟨p, ⟨o, e⟩, st⟩ := x; exact ⟨st _ _ p fun o q => k _ _ (.inl rfl) q, ⟨o, k _ _ (.inl rfl) e⟩, st⟩
theorem HOk.lt (x : HOk P w H h) (e : H a = some o) : a < h.objs.size := (x a o e).lt
theorem HOk.fresh (x : HOk P w H h) (e : h.objs.size ≤ a) : H a = none := by
  cases q : H a with
  | none => rfl
  | some u => exact absurd (Nat.lt_of_lt_of_le (x.lt q) e) (Nat.lt_irrefl _)
/-- every object of the heap is kept -/
theorem HOk.kept (x : HOk P w H h) (k : ∀ b u, h.get? b = some u → h'.get? b = some u) : HOk P w H h' := fun a o e =>
  (x a o e).stay (fun b u _ q => k b u q) (fun _ q => q) fun _ _ q => q
/-- a new object is laid and tracked -/
theorem HOk.laid (x : HOk P w H h) (k : ∀ b u, h.get? b = some u → h'.get? b = some u) (hp : h.objs.size ≤ a) (new : ObjOk P w (upd H a o) h' a o) : HOk P w (upd H a o) h' := fun b u e => by
  have hn := x.fresh hp
  by_cases hb : b = a
  · subst hb; rw [upd_same] at e; cases e; exact new
  · rw [upd_ne hb] at e
    exact (x b u e).stay (fun c v _ q => k c v q) (fun c q => by rw [upd_ne (ne_of_none q hn)]; exact q) fun c xs q => by rw [upd_ne (ne_of_none q hn)]; exact q
end

/-- what may be read as u: it is u, or a known u -/
def Rd (H : Hp) (a : Addr) (u : HO) : Prop := H a = some u ∨ ∃ o, H a = some (.frz o u)
theorem Rd.of {H : Hp} {a : Addr} {u : HO} (h : H a = some u) : Rd H a u := .inl h
theorem Rd.ok {P : Program} {w : World} {H : Hp} {h : Heap} {a : Addr} {u : HO} (r : Rd H a u) (x : HOk P w H h) : ObjOk P w H h a u := by
  rcases r with r | ⟨o, r⟩
  · exact x a u r
  · obtain ⟨_, q⟩ := x a _ r
    exact q
/-- what may be written -/
def Mut : Option HO → Prop
  | some (.lst _) => True
  | some (.dK _) => True
  | some (.dT _) => True
  | some (.set _ _) => True
  | some (.ins _ _ _) => True
  | some (.ext _) => True
  | _ => False
section
variable {P : Program} {w : World} {H : Hp} {h h' : Heap} {x e : Addr} {o' : HO}
/-- the object at e is changed: x itself, or the dict of the instance x -/
theorem HOk.write (ok : HOk P w H h) (mu : Mut (H x)) (he : e = x ∨ H e = some (.own x)) (k : ∀ b u, b ≠ e → h.get? b = some u → h'.get? b = some u) (heo : ∃ u, h'.get? e = some u)
    (new : ObjOk P w (upd H x o') h' x o') : HOk P w (upd H x o') h' := fun b u q => by
  have nown : ∀ c y, H c = some (.own y) → c ≠ x := fun c y r z => by subst z; rw [r] at mu; exact mu
  have ntup : ∀ c xs, H c = some (.tup xs) → c ≠ x := fun c xs r z => by subst z; rw [r] at mu; exact mu
  by_cases hb : b = x
  · subst hb; rw [upd_same] at q; cases q; exact new
  · rw [upd_ne hb] at q
    by_cases hbe : b = e
    · have q' : H b = some (.own x) := by
        rcases he with z | z
        · exact absurd (hbe.trans z) hb
        · rw [hbe]; exact z
      rw [q] at q'; cases q'
      obtain ⟨v, hv⟩ := heo
      exact ⟨v, by rw [hbe]; exact hv⟩
    · refine (ok b u q).stay (fun c v hc r => k c v ?_ r) (fun c r => by rw [upd_ne (nown c b r)]; exact r) fun c xs r => by rw [upd_ne (ntup c xs r)]; exact r
      rcases hc with rfl | hc
      · exact hbe
      · rintro rfl
        rcases he with z | z
        · exact nown c b hc z
        · rw [hc] at z; cases z; exact hb rfl
end

/-! ### kept unless tracked; of the frames at fs (the callers') the slots may change (an exception that passes writes there); of the records at ex (iterators) nothing is said -/
structure Un (fs ex : List Addr) (H H' : Hp) (h h' : Heap) : Prop where
  keep : ∀ b o, h.get? b = some o → H b = none → b ∉ fs → b ∉ ex → h'.get? b = some o
  slot : ∀ b o, h.get? b = some o → H b = none → b ∈ fs → b ∉ ex → ∃ sl, h'.get? b = some { o with slots := sl }
  free : ∀ b o, h.get? b = some o → H b = none → b ∉ ex → H' b = none
  there : ∀ b o, h.get? b = some o → b ∉ ex → ∃ o', h'.get? b = some o'
  tups : ∀ b xs, H b = some (.tup xs) → H' b = some (.tup xs)
  frzs : ∀ b o u, H b = some (.frz o u) → H' b = some (.frz o u)
  tbls : ∀ b ps, H b = some (.tbl ps) → ∃ more, H' b = some (.tbl (ps ++ more))
section
variable {fs fs' ex ex' : List Addr} {H H1 H2 : Hp} {h h1 h2 h' : Heap} {a x e : Addr} {o : HO}
theorem Un.any (u : Un fs ex H H1 h h1) {b : Addr} {ob : Obj} (q : h.get? b = some ob) (n : H b = none) (hx : b ∉ ex) : ∃ sl, h1.get? b = some { ob with slots := sl } := by
  by_cases hb : b ∈ fs
  · exact u.slot b ob q n hb hx
  · exact ⟨ob.slots, u.keep b ob q n hb hx⟩
theorem Un.trans (a : Un fs ex H H1 h h1) (b : Un fs ex H1 H2 h1 h2) : Un fs ex H H2 h h2 where
  keep := fun c ob q n hc hx => b.keep c ob (a.keep c ob q n hc hx) (a.free c ob q n hx) hc hx
  slot := fun c ob q n hc hx => by
    obtain ⟨sl, e1⟩ := a.slot c ob q n hc hx
    obtain ⟨sl', e2⟩ := b.slot c _ e1 (a.free c ob q n hx) hc hx
    exact ⟨sl', e2⟩
  free := fun c ob q n hx => by
    obtain ⟨o', e1⟩ := a.there c ob q hx
    exact b.free c o' e1 (a.free c ob q n hx) hx
  there := fun c ob q hx => by
    obtain ⟨o', e1⟩ := a.there c ob q hx
    exact b.there c o' e1 hx
  tups := fun c xs q => b.tups c xs (a.tups c xs q)
  frzs := fun c ob xs q => b.frzs c ob xs (a.frzs c ob xs q)
  tbls := fun c ps q => by
    obtain ⟨m1, e1⟩ := a.tbls c ps q
    obtain ⟨m2, e2⟩ := b.tbls c _ e1
    exact ⟨m1 ++ m2, by rw [e2, Array.append_assoc]⟩
theorem Un.kept (k : ∀ b u, h.get? b = some u → h'.get? b = some u) : Un fs ex H H h h' :=
  ⟨fun b ob q _ _ _ => k b ob q, fun b ob q _ _ _ => ⟨ob.slots, k b ob q⟩, fun _ _ _ n _ => n, fun b ob q _ => ⟨ob, k b ob q⟩, fun _ _ q => q, fun _ _ _ q => q, fun _ ps q => ⟨#[], by rw [q]; simp⟩⟩
theorem Un.refl : Un fs ex H H h h := Un.kept fun _ _ q => q
theorem Un.laid (k : ∀ b u, h.get? b = some u → h'.get? b = some u) (hp : h.objs.size ≤ a) (hn : H a = none) : Un fs ex H (upd H a o) h h' where
  keep := fun b u q _ _ _ => k b u q
  slot := fun b u q _ _ _ => ⟨u.slots, k b u q⟩
  free := fun b u q n _ => by rw [upd_ne (Nat.ne_of_lt (Nat.lt_of_lt_of_le (Heap.lt_size q) hp))]; exact n
  there := fun b u q _ => ⟨u, k b u q⟩
  tups := fun b xs q => by rw [upd_ne (ne_of_none q hn)]; exact q
  frzs := fun b u xs q => by rw [upd_ne (ne_of_none q hn)]; exact q
  tbls := fun b ps q => ⟨#[], by rw [upd_ne (ne_of_none q hn), q]; simp⟩
theorem Un.write (mu : Mut (H x)) (he : e = x ∨ H e = some (.own x)) (k : ∀ b u, b ≠ e → h.get? b = some u → h'.get? b = some u) (heo : ∃ u, h'.get? e = some u) : Un fs ex H (upd H x o) h h' := by
  have hx : ∀ b, H b = none → b ≠ x := fun b n z => by subst z; rw [n] at mu; exact mu
  have hb : ∀ b, H b = none → b ≠ e := fun b n z => by
    subst z
    rcases he with r | r
    · exact hx b n r
    · rw [n] at r; cases r
  have hm : ∀ b u, H b = some u → ¬ Mut (some u) → b ≠ x := fun b u q nm z => by subst z; rw [q] at mu; exact nm mu
  refine ⟨fun b u q n _ _ => k b u (hb b n) q, fun b u q n _ _ => ⟨u.slots, k b u (hb b n) q⟩, fun b u q n _ => by rw [upd_ne (hx b n)]; exact n, fun b u q _ => ?_,
    fun b xs q => by rw [upd_ne (hm b _ q fun z => z)]; exact q, fun b u xs q => by rw [upd_ne (hm b _ q fun z => z)]; exact q, fun b ps q => ⟨#[], by rw [upd_ne (hm b _ q fun z => z), q]; simp⟩⟩
  by_cases hbe : b = e
  · subst hbe; exact heo
  · exact ⟨u, k b u hbe q⟩
theorem Un.mono (u : Un fs ex H H1 h h1) (hs : ∀ b ∈ fs, b ∈ fs') (hx : ∀ b ∈ ex, b ∈ ex') : Un fs' ex' H H1 h h1 :=
  ⟨fun b ob q n hb he => u.keep b ob q n (fun z => hb (hs b z)) fun z => he (hx b z), fun _ _ q n _ he => u.any q n fun z => he (hx _ z), fun b ob q n he => u.free b ob q n fun z => he (hx b z), fun b ob q he => u.there b ob q fun z => he (hx b z), u.tups, u.frzs, u.tbls⟩
end

/-! ### the heap without what is tracked -/
def trk (h : Heap) (H : Hp) : List Addr := (List.range h.objs.size).filter fun a => (H a).isSome
def hidT (h : Heap) (H : Hp) : Heap := PySem.W.hideAll h (trk h H)
theorem hidT_size (h : Heap) (H : Hp) : (hidT h H).objs.size = h.objs.size := PySem.W.hideAll_size _ _
theorem hidT_get {h : Heap} {H : Hp} {b : Addr} {o : Obj} (e : h.get? b = some o) (n : H b = none) : (hidT h H).get? b = some o :=
  PySem.W.hideAll_get _ e fun hm => by
    have q : (H b).isSome = true := (List.mem_filter.mp hm).2
    rw [n] at q; simp at q
theorem of_hidT {h : Heap} {H : Hp} {b : Addr} {o : Obj} (e : (hidT h H).get? b = some o) : h.get? b = some o ∧ H b = none := by
  have e' : h.get? b = some o := PySem.W.of_hideAll (trk h H) e
  refine ⟨e', ?_⟩
  cases q : H b with
  | none => rfl
  | some x =>
    have hm : b ∈ trk h H := List.mem_filter.mpr ⟨List.mem_range.mpr (Heap.lt_size e'), by simp [q]⟩
    have z : (hidT h H).get? b = none := PySem.W.hideAll_none (trk h H) hm
    rw [z] at e; cases e

/-! ### OpenK's ledger, filled with every new object but one -/
def allNews (g h : Heap) (L : Addr) : List (Addr × Obj) := (List.range h.objs.size).filterMap fun a => if a = L ∨ (g.get? a).isSome = true then none else (h.get? a).map fun o => (a, o)
def rest (g h : Heap) (L d : Addr) : List (Addr × Obj) := (allNews g h L).filter fun p => decide (p.1 ≠ d)
end L2

namespace L2
open PySem PySem.Spec PyProof.Rows

/-- the module's facts, over the base: the heap at the law's entry without what is tracked there -/
structure Mod (K : PySem.W.Frag) (mg : Str → Option Value) (base : Heap) : Prop where
  kin : K.In base
  glob : base.Ns mainGlobals mg
  blt : ∃ mb, base.Ns builtinsNs mb ∧ ∀ x : Str, x ≠ "__name__" → mb x = bootBuiltins x
  nolimit : base.NoLimit

/-- the context: a def's body (or a comprehension's block) running. base: fixed through the whole law; s₀, H₀: the entry; outer: the frames whose slots others may change (a def's callers); stack: all frames that run;
   ex: iterators that were made ahead of the entry and are walked here (a comprehension's); fn: the names whose cells were made at the entry (a def: all; a comprehension's block: its own); calm: not within an except suite; pn: pins that every state bears; xe: what is wanted of an exception that leaves the code -/
structure Cx where
  prog : Program
  w : World
  K : PySem.W.Frag
  mg : Str → Option Value
  base : Heap
  A : Around
  N : List Str
  s₀ : Shared
  H₀ : Hp
  env : Env
  outer : List Env
  stack : List Env
  ex : List Addr
  fn : Str → Bool
  calm : Bool
  pn : List (Addr × Obj)
  xe : Value → Shared → Prop
/-- the callers' frames -/
def frs (l : List Env) : List Addr := l.filterMap (·.frame)
abbrev Cx.fs (X : Cx) : List Addr := frs X.outer

def Vis (sc : Scope) (x : Str) : Prop := sc.names.lookup x = some .local ∨ sc.names.lookup x = some .cell ∨ sc.names.lookup x = some .free
def Loc (sc : Scope) (x : Str) : Prop := sc.names.lookup x = some .local ∨ sc.names.lookup x = some .cell
def Look (env : Env) (h : Heap) (m : Str → Option Value) (x : Str) (u : Value) : Prop :=
  (env.kindOf x = some .local ∧ m x = some u) ∨ ((env.kindOf x = some .cell ∨ env.kindOf x = some .free) ∧ ∃ c, env.cells.lookup x = some c ∧ h.IsCell c (some u))

structure Cx.Ok (X : Cx) : Prop where
  mod : Mod X.K X.mg X.base
  kind : X.env.scope.kind = .function
  glob : X.env.globals = mainGlobals
  blt : X.env.builtins = builtinsNs
  above : X.s₀.heap.objs.size ≤ X.env.locals
  inj : ∀ x y c, X.env.cells.lookup x = some c → X.env.cells.lookup y = some c → x = y
  has : ∀ x, (X.env.kindOf x = some .cell ∨ X.env.kindOf x = some .free) → ∃ c, X.env.cells.lookup x = some c
  cab : ∀ x c, X.fn x = true → X.env.cells.lookup x = some c → X.s₀.heap.objs.size ≤ c
  hd : X.calm = true → X.A.handled = none
  frames : X.A.frames = some X.stack
  stk : X.stack = X.outer ∨ (X.stack = X.env :: X.outer ∧ X.env.frame = some X.env.locals)
  exf : ∀ b ∈ X.ex, b ≠ X.env.locals ∧ ∀ x c, X.env.cells.lookup x = some c → c ≠ b
  bs : ∀ b o, X.base.get? b = some o → X.s₀.heap.get? b = some o ∧ X.H₀ b = none
  bsz : X.base.objs.size ≤ X.s₀.heap.objs.size
  noex : ∀ b o, X.base.get? b = some o → b ∉ X.ex
  exfs : ∀ b ∈ X.ex, b ∉ X.fs
  funs : X.s₀.heap.FunFrames X.base X.outer
  frf : ∀ b ∈ X.fs, X.H₀ b = none

structure Inv (X : Cx) (pins : List (Addr × Obj)) (σ : List (Option V)) (H : Hp) (s : Shared) : Prop where
  ok : X.Ok
  os : s.os = X.s₀.os
  bare : AllBare s.gens
  base : Un X.fs X.ex X.H₀ H X.s₀.heap s.heap
  loc : ∃ m, s.heap.Ns X.env.locals m ∧ ∀ (i : Nat) (x : Str) (v : V), X.N[i]? = some x → σ[i]? = some (some v) → Vis X.env.scope x → ∃ u, RelV v u ∧ Look X.env s.heap m x u
  cell : ∀ x c, X.env.cells.lookup x = some c → ∃ v, s.heap.IsCell c v
  free : H X.env.locals = none
  freeC : ∀ x c, X.env.cells.lookup x = some c → H c = none
  pin : ∀ p ∈ X.pn ++ pins, s.heap.get? p.1 = some p.2 ∧ H p.1 = none ∧ p.1 ≠ X.env.locals ∧ p.1 ∉ X.fs ∧ ∀ v, p.2.data ≠ .cell v
  hok : HOk X.prog X.w H s.heap
  len : σ.length = X.N.length

section
variable {X : Cx} {pins : List (Addr × Obj)} {σ : List (Option V)} {H H' : Hp} {s : Shared} {h' : Heap}

theorem Cx.Ok.nofr (ok : X.Ok) {b : Addr} {o : Obj} (e : X.base.get? b = some o) : b ∉ X.fs := fun hb => by
  have := (ok.funs.mem hb).1
  rw [e] at this; cases this
theorem Inv.bs (I : Inv X pins σ H s) : ∀ b o, X.base.get? b = some o → s.heap.get? b = some o ∧ H b = none := fun b o e =>
  ⟨I.base.keep b o (I.ok.bs b o e).1 (I.ok.bs b o e).2 (I.ok.nofr e) (I.ok.noex b o e), I.base.free b o (I.ok.bs b o e).1 (I.ok.bs b o e).2 (I.ok.noex b o e)⟩
theorem Inv.bk (I : Inv X pins σ H s) : ∀ b o, X.base.get? b = some o → s.heap.get? b = some o := fun b o e => (I.bs b o e).1
theorem Inv.mod (I : Inv X pins σ H s) : Mod X.K X.mg X.base := I.ok.mod
theorem Inv.kIn (I : Inv X pins σ H s) : X.K.In s.heap := I.ok.mod.kin.keeps I.bk
theorem Inv.nolimit (I : Inv X pins σ H s) : s.heap.NoLimit := I.ok.mod.nolimit.keeps I.bk
/-- the frame over the base: for OpenK's rules (K.In X.base is I.mod.kin) -/
theorem Inv.fr (I : Inv X pins σ H s) : ∃ m, Fr X.base X.env.locals s.heap m :=
  let ⟨m, hn, _⟩ := I.loc
  ⟨m, hn, I.bk, Nat.le_trans I.ok.bsz I.ok.above⟩
theorem Inv.lt (I : Inv X pins σ H s) : X.env.locals < s.heap.objs.size := let ⟨_, hn, _⟩ := I.loc; hn.lt
theorem Inv.sz (I : Inv X pins σ H s) : X.s₀.heap.objs.size ≤ s.heap.objs.size := Nat.le_trans I.ok.above (Nat.le_of_lt I.lt)
theorem Inv.nofs (I : Inv X pins σ H s) {a : Addr} (h : s.heap.objs.size ≤ a) : a ∉ X.fs := fun hb => by
  obtain ⟨_, o, ho, _⟩ := I.ok.funs.mem hb
  exact absurd (Nat.lt_of_lt_of_le (Heap.lt_size ho) (Nat.le_trans I.sz h)) (Nat.lt_irrefl _)
theorem Inv.cne (I : Inv X pins σ H s) : ∀ x c, X.env.cells.lookup x = some c → c ≠ X.env.locals := fun x c e z => by
  obtain ⟨v, o, ho, hd⟩ := I.cell x c e
  obtain ⟨m, ⟨o', es, ep, ho', hd', _⟩, _⟩ := I.loc
  rw [z, ho'] at ho; cases ho; rw [hd'] at hd; cases hd
theorem Inv.funs (I : Inv X pins σ H s) : s.heap.FunFrames X.base X.outer := by
  have all : ∀ (l : List Env), (∀ b ∈ frs l, b ∈ X.fs) → X.s₀.heap.FunFrames X.base l → s.heap.FunFrames X.base l := by
    intro l
    induction l with
    | nil => intro _ _; trivial
    | cons env r ih =>
      intro hs hl
      obtain ⟨hk, ⟨L, o, hf, hn, ho, hd⟩, hr⟩ := hl
      have hL : L ∈ X.fs := hs L (by unfold frs; rw [List.filterMap_cons, hf]; exact List.mem_cons_self)
      obtain ⟨sl, e⟩ := I.base.slot L o ho (I.ok.frf L hL) hL fun z => I.ok.exfs L z hL
      exact ⟨hk, ⟨L, _, hf, hn, e, hd⟩, ih (fun b hb => hs b (by unfold frs; rw [List.filterMap_cons, hf]; exact List.mem_cons_of_mem _ hb)) hr⟩
  exact all X.outer (fun _ hb => hb) I.ok.funs

/-- the frames that run, for a call -/
theorem Inv.stack (I : Inv X pins σ H s) : s.heap.FunFrames X.base X.stack := by
  rcases I.ok.stk with e | ⟨e, hf⟩
  · rw [e]; exact I.funs
  · rw [e]
    obtain ⟨m, hn, _⟩ := I.loc
    refine .cons (by rw [I.ok.kind]; decide) hf hn ?_ I.funs
    exact Heap.get?_none_of_le (Nat.le_trans I.ok.bsz I.ok.above)
theorem Inv.stkSub (I : Inv X pins σ H s) : ∀ b ∈ frs X.stack, b ∈ X.env.locals :: X.fs := fun b hb => by
  rcases I.ok.stk with e | ⟨e, hf⟩
  · rw [e] at hb; exact List.mem_cons_of_mem _ hb
  · rw [e] at hb
    unfold frs at hb
    rw [List.filterMap_cons, hf] at hb
    exact hb
theorem Inv.stkFree (I : Inv X pins σ H s) : ∀ b ∈ frs X.stack, H b = none := fun b hb => by
  rcases List.mem_cons.mp (I.stkSub b hb) with e | hb
  · rw [e]; exact I.free
  · obtain ⟨_, o, ho, _⟩ := I.ok.funs.mem hb
    exact I.base.free b o ho (I.ok.frf b hb) fun z => I.ok.exfs b z hb

/-- THE STEP: the untracked objects but the frame and the records at ch are kept (the callers' frames up to slots), the frame's map is kept, the new abstract heap is held -/
theorem Inv.step {g' : Array GenState} {t' : Nat} {d' : Drawn} {ch : List Addr} (I : Inv X pins σ H s)
    (hch : ∀ b ∈ ch, (b ∈ X.ex ∨ X.s₀.heap.objs.size ≤ b) ∧ b ≠ X.env.locals ∧ (∀ x c, X.env.cells.lookup x = some c → c ≠ b) ∧ ∀ p ∈ X.pn ++ pins, p.1 ≠ b)
    (keep : ∀ b o, b ≠ X.env.locals → b ∉ X.fs → b ∉ ch → s.heap.get? b = some o → H b = none → h'.get? b = some o)
    (slot : ∀ b o, b ≠ X.env.locals → b ∈ X.fs → b ∉ ch → s.heap.get? b = some o → H b = none → ∃ sl, h'.get? b = some { o with slots := sl }) (free : ∀ b o, b ∉ ch → s.heap.get? b = some o → H b = none → H' b = none)
    (there : ∀ b o, b ∉ ch → s.heap.get? b = some o → ∃ o', h'.get? b = some o')
    (tups : ∀ b xs, H b = some (.tup xs) → H' b = some (.tup xs)) (frzs : ∀ b o u, H b = some (.frz o u) → H' b = some (.frz o u)) (tbls : ∀ b ps, H b = some (.tbl ps) → ∃ more, H' b = some (.tbl (ps ++ more)))
    (ns : ∀ m, s.heap.Ns X.env.locals m → h'.Ns X.env.locals m) (hok : HOk X.prog X.w H' h') (hg : AllBare g') :
    Inv X pins σ H' { s with heap := h', gens := g', drawn := d', toks := t' } := by
  have neL : ∀ b o, X.s₀.heap.get? b = some o → b ≠ X.env.locals := fun b o e => Nat.ne_of_lt (Nat.lt_of_lt_of_le (Heap.lt_size e) I.ok.above)
  have neC : ∀ b o, X.s₀.heap.get? b = some o → b ∉ X.ex → b ∉ ch := fun b o e hx hb => by
    rcases (hch b hb).1 with z | z
    · exact hx z
    · exact absurd (Nat.lt_of_lt_of_le (Heap.lt_size e) z) (Nat.lt_irrefl _)
  have cellK : ∀ x c, X.env.cells.lookup x = some c → ∀ v, s.heap.IsCell c v → h'.IsCell c v := fun x c e v ⟨o, ho, hd⟩ => by
    have nch : c ∉ ch := fun z => (hch c z).2.2.1 x c e rfl
    by_cases hc : c ∈ X.fs
    · obtain ⟨sl, q⟩ := slot c o (I.cne x c e) hc nch ho (I.freeC x c e)
      exact ⟨_, q, hd⟩
    · exact ⟨o, keep c o (I.cne x c e) hc nch ho (I.freeC x c e), hd⟩
  refine ⟨I.ok, I.os, hg, ⟨fun b o e n hb hx => ?_, fun b o e n hb hx => ?_, fun b o e n hx => ?_, fun b o e hx => ?_, fun b xs e => tups b xs (I.base.tups b xs e), fun b o xs e => frzs b o xs (I.base.frzs b o xs e), fun b ps e => ?_⟩, ?_, fun x c e => ?_, ?_, fun x c e => ?_, fun p hp => ?_, hok, I.len⟩
  · exact keep b o (neL b o e) hb (neC b o e hx) (I.base.keep b o e n hb hx) (I.base.free b o e n hx)
  · obtain ⟨sl, e1⟩ := I.base.slot b o e n hb hx
    obtain ⟨sl', e2⟩ := slot b _ (neL b o e) hb (neC b o e hx) e1 (I.base.free b o e n hx)
    exact ⟨sl', e2⟩
  · obtain ⟨o', e1⟩ := I.base.there b o e hx
    exact free b o' (neC b o e hx) e1 (I.base.free b o e n hx)
  · obtain ⟨o', e1⟩ := I.base.there b o e hx
    exact there b o' (neC b o e hx) e1
  · obtain ⟨m1, e1⟩ := I.base.tbls b ps e
    obtain ⟨m2, e2⟩ := tbls b _ e1
    exact ⟨m1 ++ m2, by rw [e2, Array.append_assoc]⟩
  · obtain ⟨m, hn, hl⟩ := I.loc
    refine ⟨m, ns m hn, fun i x v e1 e2 e3 => ?_⟩
    obtain ⟨u, r, l⟩ := hl i x v e1 e2 e3
    refine ⟨u, r, ?_⟩
    rcases l with l | ⟨k, c, e, z⟩
    · exact .inl l
    · exact .inr ⟨k, c, e, cellK x c e _ z⟩
  · obtain ⟨v, z⟩ := I.cell x c e
    exact ⟨v, cellK x c e v z⟩
  · obtain ⟨m, ⟨o, _, _, ho, _⟩, _⟩ := I.loc
    exact free _ o (fun z => (hch _ z).2.1 rfl) ho I.free
  · obtain ⟨v, o, ho, hd⟩ := I.cell x c e
    exact free c o (fun z => (hch c z).2.2.1 x c e rfl) ho (I.freeC x c e)
  · obtain ⟨e, n, ne, nf, d⟩ := I.pin p hp
    have nch : p.1 ∉ ch := fun z => (hch p.1 z).2.2.2 p hp rfl
    exact ⟨keep p.1 p.2 ne nf nch e n, free p.1 p.2 nch e n, ne, nf, d⟩
/-- .. where the frame's own object is kept too -/
theorem Inv.un {t' : Nat} (I : Inv X pins σ H s) (u : Un X.fs [] H H' s.heap h') (hok : HOk X.prog X.w H' h') : Inv X pins σ H' { s with heap := h', toks := t' } := by
  obtain ⟨m, ⟨o, es, ep, ho, r⟩, _⟩ := id I.loc
  obtain ⟨sl, hL⟩ := u.any ho I.free (by simp)
  exact I.step (g' := s.gens) (d' := s.drawn) (ch := []) (fun _ z => nomatch z) (fun b o _ hb _ e n => u.keep b o e n hb (by simp)) (fun b o _ hb _ e n => u.slot b o e n hb (by simp)) (fun b o _ e n => u.free b o e n (by simp)) (fun b o _ e => u.there b o e (by simp)) u.tups u.frzs u.tbls (fun m' hm => by
    obtain ⟨o', es', ep', ho', r'⟩ := hm
    rw [ho] at ho'; cases ho'
    exact ⟨_, es', ep', hL, r'⟩) hok I.bare
/-- behind a call (or a comprehension's block): the slots of this frame may have changed too, the records at ch may have turned -/
theorem Inv.call {g' : Array GenState} {t' : Nat} {d' : Drawn} {ch : List Addr} (I : Inv X pins σ H s) (u : Un (frs X.stack) ch H H' s.heap h') (hok : HOk X.prog X.w H' h') (hg : AllBare g')
    (hch : ∀ b ∈ ch, (b ∈ X.ex ∨ X.s₀.heap.objs.size ≤ b) ∧ b ≠ X.env.locals ∧ (∀ x c, X.env.cells.lookup x = some c → c ≠ b) ∧ ∀ p ∈ X.pn ++ pins, p.1 ≠ b) :
    Inv X pins σ H' { s with heap := h', gens := g', drawn := d', toks := t' } := by
  obtain ⟨m, ⟨o, es, ep, ho, r⟩, _⟩ := id I.loc
  obtain ⟨sl, hL⟩ := u.any ho I.free fun z => (hch _ z).2.1 rfl
  exact I.step (ch := ch) hch (fun b o hL hb hc e n => u.keep b o e n (fun z => (List.mem_cons.mp (I.stkSub b z)).elim hL hb) hc) (fun b o _ _ hc e n => u.any e n hc) (fun b o hc e n => u.free b o e n hc) (fun b o hc e => u.there b o e hc) u.tups u.frzs u.tbls (fun m' hm => by
    obtain ⟨o', es', ep', ho', r'⟩ := hm
    rw [ho] at ho'; cases ho'
    exact ⟨_, es', ep', hL, r'⟩) hok hg
/-- an untracked record of ours (an iterator) has turned -/
theorem Inv.turned {t' : Nat} {it : Addr} (I : Inv X pins σ H s) (k : ∀ b o, b ≠ it → s.heap.get? b = some o → h'.get? b = some o) (hn : H it = none) (hL : it ≠ X.env.locals)
    (h1 : it ∈ X.ex ∨ X.s₀.heap.objs.size ≤ it) (h2 : ∀ x c, X.env.cells.lookup x = some c → c ≠ it) (h3 : ∀ p ∈ X.pn ++ pins, p.1 ≠ it) : Inv X pins σ H { s with heap := h', toks := t' } := by
  have nit : ∀ b u, H b = some u → b ≠ it := fun b u e z => by rw [z, hn] at e; cases e
  refine I.step (g' := s.gens) (d' := s.drawn) (ch := [it]) (fun b hb => ?_) (fun b o _ _ hc e _ => k b o (fun z => hc (by simp [z])) e) (fun b o _ _ hc e _ => ⟨o.slots, k b o (fun z => hc (by simp [z])) e⟩) (fun _ _ _ _ n => n)
    (fun b o hc e => ⟨o, k b o (fun z => hc (by simp [z])) e⟩) (fun _ _ e => e) (fun _ _ _ e => e) (fun b ps e => ⟨#[], by rw [e]; simp⟩) (fun m hm => ?_) (fun b u e => ?_) I.bare
  · have e : b = it := by simpa using hb
    subst e
    exact ⟨h1, hL, h2, h3⟩
  · obtain ⟨o, es, ep, ho, r⟩ := hm
    exact ⟨o, es, ep, k _ o (Ne.symm hL) ho, r⟩
  · refine (I.hok b u e).stay (fun c v hc q => k c v ?_ q) (fun _ q => q) fun _ _ q => q
    rcases hc with z | z
    · rw [z]; exact nit b u e
    · exact nit c _ z
theorem Inv.tok (I : Inv X pins σ H s) (t : Nat) : Inv X pins σ H { s with toks := t } := I.un (h' := s.heap) (t' := t) Un.refl I.hok
/-- all objects kept -/
theorem Inv.kept {t' : Nat} (I : Inv X pins σ H s) (k : ∀ b u, s.heap.get? b = some u → h'.get? b = some u) : Inv X pins σ H { s with heap := h', toks := t' } := I.un (Un.kept k) (I.hok.kept k)
/-- a new object laid and tracked -/
theorem Inv.laid {a : Addr} {o : HO} {t' : Nat} (I : Inv X pins σ H s) (k : ∀ b u, s.heap.get? b = some u → h'.get? b = some u) (hp : s.heap.objs.size ≤ a) (new : ObjOk X.prog X.w (upd H a o) h' a o) :
    Inv X pins σ (upd H a o) { s with heap := h', toks := t' } := I.un (Un.laid k hp (I.hok.fresh hp)) (I.hok.laid k hp new)
/-- an object written -/
theorem Inv.write {x e : Addr} {o : HO} {t' : Nat} (I : Inv X pins σ H s) (mu : Mut (H x)) (he : e = x ∨ H e = some (.own x)) (k : ∀ b u, b ≠ e → s.heap.get? b = some u → h'.get? b = some u) (heo : ∃ u, h'.get? e = some u)
    (new : ObjOk X.prog X.w (upd H x o) h' x o) : Inv X pins σ (upd H x o) { s with heap := h', toks := t' } := I.un (Un.write mu he k heo) (I.hok.write mu he k heo new)
theorem Inv.pins_of {pins' : List (Addr × Obj)} (I : Inv X pins σ H s) (h : ∀ p ∈ pins', s.heap.get? p.1 = some p.2 ∧ H p.1 = none ∧ p.1 ≠ X.env.locals ∧ p.1 ∉ X.fs ∧ ∀ v, p.2.data ≠ .cell v) : Inv X pins' σ H s :=
  ⟨I.ok, I.os, I.bare, I.base, I.loc, I.cell, I.free, I.freeC, fun p hp => (List.mem_append.mp hp).elim (fun z => I.pin p (List.mem_append_left _ z)) (h p), I.hok, I.len⟩

theorem nodup_ix {N : List Str} (hN : N.Nodup) {i j : Nat} {x : Str} (a : N[i]? = some x) (b : N[j]? = some x) : i = j := by
  obtain ⟨h1, e1⟩ := List.getElem?_eq_some_iff.mp a
  obtain ⟨h2, e2⟩ := List.getElem?_eq_some_iff.mp b
  exact (List.getElem_inj hN).mp (e1.trans e2.symm)

/-- a name is stored; what changed -/
theorem store_ok2 {M : Model} {A : Around} {E : Value → Shared → Prop} {i : Nat} {x : Str} {v : V} {u : Value} {Q : Unit → Shared → Prop} (I : Inv X pins σ H s) (hN : X.N.Nodup) (hi : X.N[i]? = some x) (hx : Loc X.env.scope x) (r : RelV v u)
    (h : ∀ s', Inv X pins (σ.set i (some v)) H s' → (∃ a, Heap.SameBut a s.heap s'.heap ∧ (a = X.env.locals ∨ X.env.cells.lookup x = some a)) → Q () s') (hf : X.fn x = true ∨ X.env.scope.names.lookup x = some .local := by first | exact .inl rfl | exact .inr rfl | assumption) : wpAny M A (storeName X.env x u) Q E s := by
  obtain ⟨m, hn, hl⟩ := id I.loc
  have hcls : (X.env.scope.kind == .class || (X.env.scope.kind == .module && X.env.locals != X.env.globals)) = false := by rw [I.ok.kind]; rfl
  have hiσ : i < σ.length := by rw [I.len]; exact (List.getElem?_eq_some_iff.mp hi).1
  have cne := I.cne
  have tracked : ∀ {a : Addr} {h' : Heap}, (∃ o, s.heap.get? a = some o ∧ H a = none) → Heap.SameBut a s.heap h' → HOk X.prog X.w H h' := fun {a h'} ha hs b ob e => by
    obtain ⟨_, _, hfree⟩ := ha
    refine (I.hok b ob e).stay (fun c w' hc q => (hs.2 c ?_).trans q) (fun _ q => q) fun _ _ q => q
    rintro rfl
    rcases hc with rfl | hc
    · rw [hfree] at e; cases e
    · rw [hfree] at hc; cases hc
  rcases hx with hk | hk
  · refine wpAny_storeName_local hk hn (fun h' hn' hs => ?_) hcls
    obtain ⟨oL, _, _, hoL, _⟩ := id hn
    refine h _ ⟨I.ok, I.os, I.bare, ⟨fun b o e n hb hx => ?_, fun b o e n hb hx => ?_, I.base.free, fun b o e hx => ?_, I.base.tups, I.base.frzs, I.base.tbls⟩, ⟨_, hn', fun j y v' e1 e2 e3 => ?_⟩, fun y c e => ?_, I.free, I.freeC, fun p hp => ?_, tracked ⟨oL, hoL, I.free⟩ hs, by simpa using I.len⟩ ⟨_, hs, .inl rfl⟩
    · exact (hs.2 b (Nat.ne_of_lt (Nat.lt_of_lt_of_le (Heap.lt_size e) I.ok.above))).trans (I.base.keep b o e n hb hx)
    · obtain ⟨sl, e1⟩ := I.base.slot b o e n hb hx
      exact ⟨sl, (hs.2 b (Nat.ne_of_lt (Nat.lt_of_lt_of_le (Heap.lt_size e) I.ok.above))).trans e1⟩
    · obtain ⟨o', e1⟩ := I.base.there b o e hx
      exact ⟨o', (hs.2 b (Nat.ne_of_lt (Nat.lt_of_lt_of_le (Heap.lt_size e) I.ok.above))).trans e1⟩
    · by_cases hj : j = i
      · subst hj
        rw [hi] at e1; cases e1
        rw [List.getElem?_set_self hiσ] at e2
        cases e2
        exact ⟨u, r, .inl ⟨hk, by simp⟩⟩
      · rw [List.getElem?_set_ne (Ne.symm hj)] at e2
        obtain ⟨u', r', q⟩ := hl j y v' e1 e2 e3
        refine ⟨u', r', ?_⟩
        rcases q with ⟨k, e⟩ | ⟨k, c, e, z⟩
        · refine .inl ⟨k, ?_⟩
          have : y ≠ x := fun e => hj (nodup_ix hN e1 (e ▸ hi))
          simp [this, e]
        · exact .inr ⟨k, c, e, z.sameBut hs (cne y c e)⟩
    · obtain ⟨w', z⟩ := I.cell y c e
      exact ⟨w', z.sameBut hs (cne y c e)⟩
    · obtain ⟨e, n, ne, nf, d⟩ := I.pin p hp
      exact ⟨(hs.2 p.1 ne).trans e, n, ne, nf, d⟩
  · have hfn : X.fn x = true := by
      rcases hf with z | z
      · exact z
      · rw [z] at hk; cases hk
    obtain ⟨c, hc⟩ := I.ok.has x (.inl hk)
    obtain ⟨w', z⟩ := I.cell x c hc
    refine wpAny_storeName_cell I.ok.kind hk hc z (fun h' hc' hs => ?_)
    obtain ⟨oc, hoc, hocd⟩ := id z
    refine h { s with heap := h' } ⟨I.ok, I.os, I.bare, ⟨fun b o e n hb hx => ?_, fun b o e n hb hx => ?_, I.base.free, fun b o e hx => ?_, I.base.tups, I.base.frzs, I.base.tbls⟩, ⟨m, hn.sameBut hs (Ne.symm (cne x c hc)), fun j y v' e1 e2 e3 => ?_⟩, fun y c' e => ?_, I.free, I.freeC, fun p hp => ?_, tracked ⟨oc, hoc, I.freeC x c hc⟩ hs, by simpa using I.len⟩ ⟨c, hs, .inr hc⟩
    · exact (hs.2 b (Nat.ne_of_lt (Nat.lt_of_lt_of_le (Heap.lt_size e) (I.ok.cab x c hfn hc)))).trans (I.base.keep b o e n hb hx)
    · obtain ⟨sl, e1⟩ := I.base.slot b o e n hb hx
      exact ⟨sl, (hs.2 b (Nat.ne_of_lt (Nat.lt_of_lt_of_le (Heap.lt_size e) (I.ok.cab x c hfn hc)))).trans e1⟩
    · obtain ⟨o', e1⟩ := I.base.there b o e hx
      exact ⟨o', (hs.2 b (Nat.ne_of_lt (Nat.lt_of_lt_of_le (Heap.lt_size e) (I.ok.cab x c hfn hc)))).trans e1⟩
    · by_cases hj : j = i
      · subst hj
        rw [hi] at e1; cases e1
        rw [List.getElem?_set_self hiσ] at e2
        cases e2
        exact ⟨u, r, .inr ⟨.inl hk, c, hc, hc'⟩⟩
      · rw [List.getElem?_set_ne (Ne.symm hj)] at e2
        obtain ⟨u', r', q⟩ := hl j y v' e1 e2 e3
        refine ⟨u', r', ?_⟩
        rcases q with q | ⟨k, c', e, z'⟩
        · exact .inl q
        · refine .inr ⟨k, c', e, z'.sameBut hs ?_⟩
          rintro rfl
          exact hj (nodup_ix hN e1 (I.ok.inj _ _ _ e hc ▸ hi))
    · by_cases hcc : c' = c
      · subst hcc; exact ⟨_, hc'⟩
      · obtain ⟨w2, z2⟩ := I.cell y c' e
        exact ⟨w2, z2.sameBut hs hcc⟩
    · obtain ⟨e, n, ne, nf, d⟩ := I.pin p hp
      refine ⟨(hs.2 p.1 ?_).trans e, n, ne, nf, d⟩
      intro q
      rw [q, hoc] at e
      have q' : oc = p.2 := Option.some.inj e
      exact d w' (by rw [← q']; exact hocd)
theorem store_ok {M : Model} {A : Around} {E : Value → Shared → Prop} {i : Nat} {x : Str} {v : V} {u : Value} {Q : Unit → Shared → Prop} (I : Inv X pins σ H s) (hN : X.N.Nodup) (hi : X.N[i]? = some x) (hx : Loc X.env.scope x) (r : RelV v u)
    (h : ∀ s', Inv X pins (σ.set i (some v)) H s' → Q () s') (hf : X.fn x = true ∨ X.env.scope.names.lookup x = some .local := by first | exact .inl rfl | exact .inr rfl | assumption) : wpAny M A (storeName X.env x u) Q E s :=
  store_ok2 I hN hi hx r (fun s' I' _ => h s' I') hf
/-- behind a call or a block, the state as it is -/
theorem Inv.call' {s' : Shared} {ch : List Addr} (I : Inv X pins σ H s) (ho : s'.os = s.os) (u : Un (frs X.stack) ch H H' s.heap s'.heap) (hok : HOk X.prog X.w H' s'.heap) (hg : AllBare s'.gens)
    (hch : ∀ b ∈ ch, (b ∈ X.ex ∨ X.s₀.heap.objs.size ≤ b) ∧ b ≠ X.env.locals ∧ (∀ x c, X.env.cells.lookup x = some c → c ≠ b) ∧ ∀ p ∈ X.pn ++ pins, p.1 ≠ b) : Inv X pins σ H' s' := by
  obtain ⟨h', g', d', t', o'⟩ := s'
  have e : o' = s.os := ho
  subst e
  exact I.call (g' := g') (t' := t') (d' := d') u hok hg hch
end

/-! ### the judgements -/
/-- an exception: its class, its own dict's address (where it has one), the abstract heap behind it -/
abbrev XK := Value → Option Addr → Hp → Prop
abbrev St := List (Option V)
abbrev VK := V → Hp → Prop
/-- an expression's reading; a test's; an argument list's -/
abbrev TE := St → Hp → VK → Prop
abbrev TT := St → Hp → (Bool → Hp → Prop) → Prop
abbrev TA := St → Hp → (List V → Hp → Prop) → Prop
/-- what is wanted behind a statement -/
structure Ends where
  nx : St → Hp → Prop
  rt : VK
  bk : St → Hp → Prop := fun _ _ => False
  ct : St → Hp → Prop := fun _ _ => False
abbrev TS := Ends → St → Hp → Prop

def EP (X : Cx) (pins : List (Addr × Obj)) (σ : St) (Q : VK) (u : Value) (s' : Shared) : Prop := ∃ v H', Inv X pins σ H' s' ∧ RelV v u ∧ Q v H'
def TP (X : Cx) (pins : List (Addr × Obj)) (σ : St) (Q : Bool → Hp → Prop) (b : Bool) (s' : Shared) : Prop := ∃ H', Inv X pins σ H' s' ∧ Q b H'
def AP (X : Cx) (pins : List (Addr × Obj)) (σ : St) (Q : List V → Hp → Prop) (us : List Value) (s' : Shared) : Prop := ∃ vs H', Inv X pins σ H' s' ∧ Vals vs us ∧ Q vs H'
def SP (X : Cx) (pins : List (Addr × Obj)) (D : Ends) (f : Flow) (s' : Shared) : Prop :=
  match f with
  | .next => ∃ σ' H', Inv X pins σ' H' s' ∧ D.nx σ' H'
  | .brk => ∃ σ' H', Inv X pins σ' H' s' ∧ D.bk σ' H'
  | .cont => ∃ σ' H', Inv X pins σ' H' s' ∧ D.ct σ' H'
  | .ret u => ∃ v σ' H', Inv X pins σ' H' s' ∧ RelV v u ∧ D.rt v H'

def PE (X : Cx) (e : Expr) (t : TE) : Prop :=
  ∀ (pins : List (Addr × Obj)) (s : Shared) (σ : St) (H : Hp) (Q : VK), Inv X pins σ H s → t σ H Q → wpAny (model X.prog X.w) X.A (eval e X.env) (EP X pins σ Q) X.xe s
def PT (X : Cx) (e : Expr) (t : TT) : Prop :=
  ∀ (pins : List (Addr × Obj)) (s : Shared) (σ : St) (H : Hp) (Q : Bool → Hp → Prop), Inv X pins σ H s → t σ H Q → wpAny (model X.prog X.w) X.A (isTrue e X.env (eval e X.env)) (TP X pins σ Q) X.xe s
/-- a test whatever its 'whole' is (and, or) -/
def PW (X : Cx) (e : Expr) (t : TT) : Prop :=
  ∀ (whole : Sem Value) (pins : List (Addr × Obj)) (s : Shared) (σ : St) (H : Hp) (Q : Bool → Hp → Prop), Inv X pins σ H s → t σ H Q → wpAny (model X.prog X.w) X.A (isTrue e X.env whole) (TP X pins σ Q) X.xe s
theorem PW.pt {X : Cx} {e : Expr} {t : TT} (h : PW X e t) : PT X e t := h _
/-- an argument list (no star), from the left -/
def PA (X : Cx) (es : List Expr) (t : TA) : Prop :=
  ∀ (pos : Pos) (pins : List (Addr × Obj)) (s : Shared) (σ : St) (H : Hp) (Q : List V → Hp → Prop), Inv X pins σ H s → t σ H Q → wpAny (model X.prog X.w) X.A (spliced (backTo pos (starEach es X.env))) (AP X pins σ Q) X.xe s
def PS (X : Cx) (st : Stmt) (t : TS) : Prop :=
  ∀ (pins : List (Addr × Obj)) (s : Shared) (σ : St) (H : Hp) (D : Ends), Inv X pins σ H s → t D σ H → wpAny (model X.prog X.w) X.A (exec st X.env) (SP X pins D) X.xe s
def PSs (X : Cx) (st : List Stmt) (t : TS) : Prop :=
  ∀ (pins : List (Addr × Obj)) (s : Shared) (σ : St) (H : Hp) (D : Ends), Inv X pins σ H s → t D σ H → wpAny (model X.prog X.w) X.A (execs st X.env) (SP X pins D) X.xe s
/-- weaken the end -/
theorem thn {α : Type} {t : Sem α} {Q Q' : α → Shared → Prop} {M : Model} {A : Around} {E : Value → Shared → Prop} {s : Shared} (h : wpAny M A t Q E s) (hQ : ∀ a s, Q a s → Q' a s) : wpAny M A t Q' E s := wpAny_mono h hQ fun _ _ x => x
end L2

namespace L2
open PySem PySem.Spec PyProof.Rows
section
variable {X : Cx}

/-! ### names and constants -/
def tVar (i : Nat) : TE := fun σ H Q => ∃ v, σ[i]? = some (some v) ∧ Q v H
def tC (v : V) : TE := fun _ H Q => Q v H
theorem pe_var {i : Nat} {x : Str} {pos : Pos} (hN : X.N[i]? = some x) (hv : Vis X.env.scope x) (hd : (x == ("__debug__" : Str)) = false := by decide) (hcd : (x == ("__classdict__" : Str)) = false := by decide) : PE X (.Name x pos) (tVar i) := by
  intro pins s σ H Q I h
  obtain ⟨v, e, h⟩ := h
  obtain ⟨m, hn, hl⟩ := I.loc
  obtain ⟨u, r, l⟩ := hl i x v hN e hv
  have fin : EP X pins σ Q u s := ⟨v, H, I, r, h⟩
  rcases l with ⟨hk, hm⟩ | ⟨hk, c, hc, hcell⟩
  · exact wpAny_Name (wpAny_loadName_local I.ok.kind hk hn hm fin) hd
  · rcases hk with hk | hk
    · exact wpAny_Name (wpAny_loadName_cell I.ok.kind hk hc hcell fin) hd
    · exact wpAny_Name (wpAny_loadName_free I.ok.kind hk hc hcell fin hcd) hd
theorem pe_int {i j pos} : PE X (.Constant (.int i) j pos) (tC (.int i)) := fun _ _ _ H _ I h => wpAny_Constant_int ⟨.int i, H, I.tok _, ⟨_, rfl⟩, h⟩
theorem pe_bl {b j pos} : PE X (.Constant (.bool b) j pos) (tC (.bl b)) := fun _ _ _ H _ I h => Constant_bool ⟨.bl b, H, I, rfl, h⟩
theorem pe_non {j pos} : PE X (.Constant .none j pos) (tC .non) := fun _ _ _ H _ I h => Constant_none ⟨.non, H, I, rfl, h⟩
theorem pe_str {x j pos} : PE X (.Constant (.str x) j pos) (tC (.str x)) := fun _ _ _ H _ I h => Calls.Constant_str ⟨.str x, H, I.tok _, ⟨_, rfl⟩, h⟩

/-- a global name of the def -/
def Gl (X : Cx) (x : Str) : Prop := X.env.kindOf x = some .globalImplicit
theorem ld_glob {E : Value → Shared → Prop} {pins : List (Addr × Obj)} {s : Shared} {σ : St} {H : Hp} {x : Str} {u : Value} {pos : Pos} {Q : Value → Shared → Prop} (I : Inv X pins σ H s) (hg : Gl X x) (hm : X.mg x = some u) (h : Q u s)
    (hd : (x == ("__debug__" : Str)) = false := by decide) : wpAny (model X.prog X.w) X.A (eval (.Name x pos) X.env) Q E s :=
  Calls.Name_function_global I.ok.kind hg (Calls.loadGlobal_global (by rw [I.ok.glob]; exact I.mod.glob.keeps I.bk) hm h) hd
theorem ld_blt {E : Value → Shared → Prop} {pins : List (Addr × Obj)} {s : Shared} {σ : St} {H : Hp} {x : Str} {u : Value} {pos : Pos} {Q : Value → Shared → Prop} (I : Inv X pins σ H s) (hg : Gl X x) (hm : X.mg x = none) (hv : bootBuiltins x = some u) (h : Q u s)
    (hn : x ≠ "__name__" := by decide) (hd : (x == ("__debug__" : Str)) = false := by decide) : wpAny (model X.prog X.w) X.A (eval (.Name x pos) X.env) Q E s := by
  obtain ⟨mb, h1, h2⟩ := I.mod.blt
  exact Calls.Name_function_global I.ok.kind hg (Calls.loadGlobal_builtin (by rw [I.ok.glob]; exact I.mod.glob.keeps I.bk) hm (by rw [I.ok.blt]; exact h1.keeps I.bk) ((h2 x hn).trans hv) h) hd
/-- a module's constant, a class, a function, as a value -/
theorem pe_glob {x : Str} {v : V} {u : Value} {pos : Pos} (hg : Gl X x) (hm : X.mg x = some u) (r : RelV v u) (hd : (x == ("__debug__" : Str)) = false := by decide) : PE X (.Name x pos) (tC v) :=
  fun _ _ _ H _ I h => ld_glob I hg hm ⟨v, H, I, r, h⟩ hd
theorem pe_bltn {x : Str} {v : V} {u : Value} {pos : Pos} (hg : Gl X x) (hm : X.mg x = none) (hv : bootBuiltins x = some u) (r : RelV v u) (hn : x ≠ "__name__" := by decide) (hd : (x == ("__debug__" : Str)) = false := by decide) : PE X (.Name x pos) (tC v) :=
  fun _ _ _ H _ I h => ld_blt I hg hm hv ⟨v, H, I, r, h⟩ hn hd

/-! ### arithmetic -/
variable {a b : Expr} {ta tb : TE} {pos : Pos}
/-! ### comparisons -/
/-- a comparison as a value, as a test -/
def tB (t : TE) : TT := fun σ H Q => t σ H fun x H1 => ∃ c, x = .bl c ∧ Q c H1
/-- an expression whose value is a bool, as a test -/
theorem pt_val {e : Expr} {t : TE} (h : PE X e t) (he : ∀ whole, isTrue e X.env whole = (do let v ← whole; standAt e.pos; holding [v] (truthy v)) := by intro _; rfl) : PT X e (tB t) := by
  intro pins s σ H Q I hw
  refine isTrue_plain (thn (h pins s σ H _ I hw) fun v s1 ⟨x, H1, I1, r1, q1⟩ => ?_) (he _)
  obtain ⟨d, rfl, q⟩ := q1
  cases r1
  exact wpAny_truthy_bool ⟨H1, I1, q⟩

/-! ### and, or, not -/
variable {tA tB' : TT} {rest : List Expr}
def tOr (t u : TT) : TT := fun σ H Q => t σ H fun c H1 => if c = true then Q true H1 else u σ H1 Q
def tNot (t : TT) : TT := fun σ H Q => t σ H fun c H1 => Q (!c) H1
theorem pw_or1 (ha : PT X a tA) : PW X (.BoolOp .Or [a] pos) tA := by
  intro wh pins s σ H Q I h
  refine isTrue_or (thn (ha pins s σ H Q I h) fun c s1 e => ?_)
  cases c with
  | false => exact isTrue_or_nil e
  | true => exact e
theorem pw_or (ha : PT X a tA) (hb : PW X (.BoolOp .Or (b :: rest) pos) tB') : PW X (.BoolOp .Or (a :: b :: rest) pos) (tOr tA tB') := by
  intro wh pins s σ H Q I h
  refine isTrue_or (thn (ha pins s σ H _ I h) fun c s1 ⟨H1, I1, q1⟩ => ?_)
  cases c with
  | true => exact ⟨H1, I1, q1⟩
  | false => exact hb wh pins s1 σ H1 Q I1 q1
theorem pt_not (ha : PT X a tA) : PT X (.UnaryOp .Not a pos) (tNot tA) := by
  intro pins s σ H Q I h
  exact isTrue_not (ha pins s σ H (fun c H1 => Q (!c) H1) I h)
/-- .. as values (bools) -/
def tAndV (ta tb : TE) : TE := fun σ H Q => ta σ H fun x H1 => ∃ c, x = .bl c ∧ if c = true then tb σ H1 Q else Q (.bl false) H1
def tNotV (ta : TE) : TE := fun σ H Q => ta σ H fun x H1 => ∃ c, x = .bl c ∧ Q (.bl (!c)) H1
theorem pe_one {op} {t : TE} (h : PE X a t) : PE X (.BoolOp op [a] pos) t := fun pins s σ H Q I hw => BoolOp_one (h pins s σ H Q I hw)
theorem pe_and (ha : PE X a ta) (hb : PE X (.BoolOp .And (b :: rest) pos) tb) : PE X (.BoolOp .And (a :: b :: rest) pos) (tAndV ta tb) := by
  intro pins s σ H Q I h
  refine BoolOp_and (thn (ha pins s σ H _ I h) fun v s1 ⟨x, H1, I1, r1, q1⟩ => ?_)
  obtain ⟨c, rfl, q1⟩ := q1
  cases r1
  refine wpAny_truthy_bool ?_
  cases c with
  | true => exact hb pins s1 σ H1 Q I1 q1
  | false => exact ⟨.bl false, H1, I1, rfl, q1⟩
theorem pe_not (ha : PE X a ta) : PE X (.UnaryOp .Not a pos) (tNotV ta) := by
  intro pins s σ H Q I h
  refine UnaryOp_ (thn (ha pins s σ H _ I h) fun v s1 ⟨x, H1, I1, r1, q1⟩ => ?_)
  obtain ⟨c, rfl, q1⟩ := q1
  cases r1
  exact not_of (wpAny_truthy_bool ⟨.bl (!c), H1, I1, rfl, q1⟩)
end
end L2

namespace L2
open PySem PySem.Spec PyProof.Rows

/-! ### a list, a tuple that is read: tracked, frozen, or an object of the module -/
def SqL (K : PySem.W.Frag) (H : Hp) (a : Addr) (xs : List V) : Prop :=
  Rd H a (.lst xs) ∨
    ∃ (o : Obj) (its : Array Value) (n : Nat), K.lookup a = some o ∧ o.cls = .type "list" ∧ o.dict = none ∧ o.data = .seq its n ∧ its.size ≤ sizeLine ∧ Vals xs its.toList
def SqT (K : PySem.W.Frag) (H : Hp) (a : Addr) (xs : List V) : Prop :=
  Rd H a (.tup xs) ∨
    ∃ (o : Obj) (its : Array Value) (n : Nat), K.lookup a = some o ∧ o.cls = .type "tuple" ∧ o.data = .seq its n ∧ its.size ≤ sizeLine ∧ Vals xs its.toList
def absV : Value → Option V
  | .none => some .non
  | .bool b => some (.bl b)
  | .int i _ => some (.int i)
  | .str x _ => some (.str x)
  | .bytes b _ => some (.byt b)
  | .float b _ => some (.flt b)
  | .ref a => some (.ref a)
  | .type n => some (.ty n)
  | _ => none
theorem RelV.abs {x : V} {u : Value} (r : RelV x u) : absV u = some x := by
  cases x with
  | non => cases r; rfl
  | bl _ => cases r; rfl
  | int _ => obtain ⟨t, rfl⟩ := r; rfl
  | str _ => obtain ⟨t, rfl⟩ := r; rfl
  | byt _ => obtain ⟨t, rfl⟩ := r; rfl
  | flt _ => obtain ⟨t, rfl⟩ := r; rfl
  | ref _ => cases r; rfl
  | ty _ => cases r; rfl
theorem RelV.inj {x y : V} {u : Value} (r : RelV x u) (q : RelV y u) : x = y := Option.some.inj (r.abs.symm.trans q.abs)
theorem Vals.inj : ∀ {xs ys : List V} {us : List Value}, Vals xs us → Vals ys us → xs = ys
  | _, _, _, .nil, .nil => rfl
  | _, _, _, .cons r t, .cons r' t' => by rw [r.inj r', Vals.inj t t']
section
variable {X : Cx} {pins : List (Addr × Obj)} {σ : St} {H : Hp} {s : Shared} {a : Addr} {xs ys : List V}
theorem SqL.of {K : PySem.W.Frag} (h : H a = some (.lst xs)) : SqL K H a xs := .inl (.inl h)
theorem SqT.of {K : PySem.W.Frag} (h : H a = some (.tup xs)) : SqT K H a xs := .inl (.inl h)
theorem Inv.list (I : Inv X pins σ H s) (h : SqL X.K H a xs) : ∃ its : List Value, Vals xs its ∧ PlainL s.heap a its.toArray ∧ xs.length ≤ sizeLine := by
  rcases h with h | ⟨o, its, n, hk, hc, hd, hs, hz, r⟩
  · obtain ⟨z, its, n, r, e⟩ := h.ok I.hok
    exact ⟨its, r, ⟨_, n, e, rfl, rfl, rfl⟩, z⟩
  · refine ⟨its.toList, r, ⟨o, n, I.kIn a o hk, hc, hd, by simpa using hs⟩, ?_⟩
    have e := r.length
    simp only [Array.length_toList] at e
    omega
theorem Inv.tuple (I : Inv X pins σ H s) (h : SqT X.K H a xs) : ∃ its : List Value, Vals xs its ∧ IsTup s.heap a its.toArray ∧ xs.length ≤ sizeLine := by
  rcases h with h | ⟨o, its, n, hk, hc, hs, hz, r⟩
  · obtain ⟨z, its, r, p⟩ := h.ok I.hok
    exact ⟨its, r, p, z⟩
  · refine ⟨its.toList, r, ⟨o, I.kIn a o hk, hc, n, by simpa using hs⟩, ?_⟩
    have e := r.length
    simp only [Array.length_toList] at e
    omega
theorem Inv.list_inj (I : Inv X pins σ H s) (h : SqL X.K H a xs) (h' : SqL X.K H a ys) : xs = ys := by
  obtain ⟨its, r, ⟨o, n, e, _, _, d⟩, _⟩ := I.list h
  obtain ⟨its', r', ⟨o', n', e', _, _, d'⟩, _⟩ := I.list h'
  rw [e] at e'; cases e'
  rw [d] at d'
  injection d' with d1 _
  have : its = its' := by simpa using congrArg Array.toList d1
  subst this
  exact r.inj r'
theorem Inv.tuple_inj (I : Inv X pins σ H s) (h : SqT X.K H a xs) (h' : SqT X.K H a ys) : xs = ys := by
  obtain ⟨its, r, ⟨o, e, _, n, d⟩, _⟩ := I.tuple h
  obtain ⟨its', r', ⟨o', e', _, n', d'⟩, _⟩ := I.tuple h'
  rw [e] at e'; cases e'
  rw [d] at d'
  injection d' with d1 _
  have : its = its' := by simpa using congrArg Array.toList d1
  subst this
  exact r.inj r'
end

/-! ### another wish about exceptions -/
abbrev Cx.wish (X : Cx) (E : Value → Shared → Prop) : Cx := { X with xe := E }
/-- no exception leaves -/
abbrev Cx.nox (X : Cx) : Cx := X.wish fun _ _ => False
theorem Cx.Ok.wish {X : Cx} (ok : X.Ok) (E : Value → Shared → Prop) : (X.wish E).Ok :=
  ⟨ok.mod, ok.kind, ok.glob, ok.blt, ok.above, ok.inj, ok.has, ok.cab, ok.hd, ok.frames, ok.stk, ok.exf, ok.bs, ok.bsz, ok.noex, ok.exfs, ok.funs, ok.frf⟩
theorem Cx.Ok.unwish {X : Cx} {E : Value → Shared → Prop} (ok : (X.wish E).Ok) : X.Ok :=
  ⟨ok.mod, ok.kind, ok.glob, ok.blt, ok.above, ok.inj, ok.has, ok.cab, ok.hd, ok.frames, ok.stk, ok.exf, ok.bs, ok.bsz, ok.noex, ok.exfs, ok.funs, ok.frf⟩
section
variable {X : Cx} {pins : List (Addr × Obj)} {σ : St} {H : Hp} {s : Shared} {E : Value → Shared → Prop}
theorem Inv.wish (I : Inv X pins σ H s) (E : Value → Shared → Prop) : Inv (X.wish E) pins σ H s := ⟨I.ok.wish E, I.os, I.bare, I.base, I.loc, I.cell, I.free, I.freeC, I.pin, I.hok, I.len⟩
theorem Inv.unwish (I : Inv (X.wish E) pins σ H s) : Inv X pins σ H s := ⟨I.ok.unwish, I.os, I.bare, I.base, I.loc, I.cell, I.free, I.freeC, I.pin, I.hok, I.len⟩
theorem SP.unwish {D : Ends} {f : Flow} {s' : Shared} (h : SP (X.wish E) pins D f s') : SP X pins D f s' := by
  cases f with
  | next => obtain ⟨σ', H', I, q⟩ := h; exact ⟨σ', H', I.unwish, q⟩
  | brk => obtain ⟨σ', H', I, q⟩ := h; exact ⟨σ', H', I.unwish, q⟩
  | cont => obtain ⟨σ', H', I, q⟩ := h; exact ⟨σ', H', I.unwish, q⟩
  | ret u => obtain ⟨v, σ', H', I, r, q⟩ := h; exact ⟨v, σ', H', I.unwish, r, q⟩
theorem PE.nox {e : Expr} {t : TE} (h : PE X.nox e t) : PE X e t := fun pins s σ H Q I hw =>
  wpAny_mono (h pins s σ H Q (I.wish _) hw) (fun _ _ ⟨v, H', I', r, q⟩ => ⟨v, H', I'.unwish, r, q⟩) fun _ _ z => False.elim z
theorem PT.nox {e : Expr} {t : TT} (h : PT X.nox e t) : PT X e t := fun pins s σ H Q I hw =>
  wpAny_mono (h pins s σ H Q (I.wish _) hw) (fun _ _ ⟨H', I', q⟩ => ⟨H', I'.unwish, q⟩) fun _ _ z => False.elim z
theorem PSs.nox {st : List Stmt} {t : TS} (h : PSs X.nox st t) : PSs X st t := fun pins s σ H D I hw =>
  wpAny_mono (h pins s σ H D (I.wish _) hw) (fun _ _ q => q.unwish) fun _ _ z => False.elim z
end

/-! ### blocks and small statements -/
section
variable {X : Cx} {st : Stmt} {rest : List Stmt} {t u : TS} {e : Expr} {te : TE} {pos : Pos}
def tNext : TS := fun D σ H => D.nx σ H
def tSeq (t u : TS) : TS := fun D σ H => t { D with nx := u D } σ H
theorem pss_nil : PSs X [] tNext := fun _ _ σ H _ I h => wpAny_execs_nil ⟨σ, H, I, h⟩
theorem pss_cons (h1 : PS X st t) (h2 : PSs X rest u) : PSs X (st :: rest) (tSeq t u) := by
  intro pins s σ H D I h
  refine wpAny_execs_cons (thn (h1 pins s σ H { D with nx := u D } I h) fun f s1 q => ?_)
  cases f with
  | next =>
    obtain ⟨σ', H', I', q⟩ := q
    exact h2 pins s1 σ' H' D I' q
  | ret v => exact q
  | brk => exact q
  | cont => exact q
theorem pss_one (h1 : PS X st t) : PSs X [st] t := by
  intro pins s σ H D I h
  refine wpAny_execs_cons (thn (h1 pins s σ H D I h) fun f s1 q => ?_)
  cases f with
  | next => exact wpAny_execs_nil q
  | ret v => exact q
  | brk => exact q
  | cont => exact q
/-- in a def's body nothing is shown -/
theorem Inv.quiet {pins : List (Addr × Obj)} {σ : St} {H : Hp} {s : Shared} (I : Inv X pins σ H s) : interactive X.env = false := by simp [interactive, I.ok.kind]
/-- an expression whose value is dropped -/
def tDrop (te : TE) : TS := fun D σ H => te σ H fun _ H1 => D.nx σ H1
theorem ps_expr (he : PE X e te) (hs : swapsWith e none pos.line X.env = pure false := by rfl) : PS X (.Expr e pos) (tDrop te) := by
  intro pins s σ H D I h
  exact wpAny_Expr_any (thn (he pins s σ H _ I h) fun v s1 ⟨x, H1, I1, r1, q1⟩ => ⟨σ, H1, I1, q1⟩) I.quiet hs
def tRet (te : TE) : TS := fun D σ H => te σ H D.rt
theorem ps_ret (he : PE X e te) : PS X (.Return (some e) pos) (tRet te) := by
  intro pins s σ H D I h
  exact wpAny_Return_some (thn (he pins s σ H _ I h) fun v s1 ⟨x, H1, I1, r1, q1⟩ => ⟨x, σ, H1, I1, r1, q1⟩)
def tIfS (c : TT) (t u : TS) : TS := fun D σ H => c σ H fun b H1 => if b = true then t D σ H1 else u D σ H1
theorem ps_if {c : Expr} {a b : List Stmt} {tc : TT} (hc : PT X c tc) (ha : PSs X a t) (hb : PSs X b u) : PS X (.If c a b pos) (tIfS tc t u) := by
  intro pins s σ H D I h
  refine wpAny_If (thn (hc pins s σ H _ I h) fun d s1 ⟨H1, I1, q1⟩ => ?_)
  cases d with
  | true => exact ha pins s1 σ H1 D I1 q1
  | false => exact hb pins s1 σ H1 D I1 q1
end

/-! ### targets -/
abbrev TG := V → St → Hp → (St → Hp → Prop) → Prop
abbrev TGs := List V → St → Hp → (St → Hp → Prop) → Prop
def PG (X : Cx) (target : Expr) (t : TG) : Prop :=
  ∀ (pins : List (Addr × Obj)) (s : Shared) (σ : St) (H : Hp) (v : V) (u : Value) (Q : St → Hp → Prop), Inv X pins σ H s → RelV v u → t v σ H Q →
    wpAny (model X.prog X.w) X.A (assign target X.env u) (fun _ s' => ∃ σ' H', Inv X pins σ' H' s' ∧ Q σ' H') X.xe s
/-- several targets, one after another -/
def PGs (X : Cx) (ts : List Expr) (t : TGs) : Prop :=
  ∀ (pins : List (Addr × Obj)) (s : Shared) (σ : St) (H : Hp) (vs : List V) (us : List Value) (Q : St → Hp → Prop), Inv X pins σ H s → Vals vs us → t vs σ H Q →
    wpAny (model X.prog X.w) X.A (assignInOrder ((assignEach ts X.env).map (·.2)) us) (fun _ s' => ∃ σ' H', Inv X pins σ' H' s' ∧ Q σ' H') X.xe s
/-- o[i] = v, by values -/
abbrev TSet := V → V → V → Hp → (Hp → Prop) → Prop
def PSet (X : Cx) (t : TSet) : Prop :=
  ∀ (pins : List (Addr × Obj)) (s : Shared) (σ : St) (H : Hp) (o i v : V) (ov iv u : Value) (Q : Hp → Prop), Inv X pins σ H s → RelV o ov → RelV i iv → RelV v u → t o i v H Q →
    wpAny (model X.prog X.w) X.A (setItem ov iv u) (fun _ s' => ∃ H', Inv X pins σ H' s' ∧ Q H') X.xe s
section
variable {X : Cx} {pos : Pos}
def gName (i : Nat) : TG := fun v σ H Q => Q (σ.set i (some v)) H
theorem pg_name {i : Nat} {x : Str} (hN : X.N.Nodup) (hi : X.N[i]? = some x) (hx : Loc X.env.scope x) (hf : X.fn x = true ∨ X.env.scope.names.lookup x = some .local := by first | exact .inl rfl | exact .inr rfl | assumption) : PG X (.Name x pos) (gName i) := by
  intro pins s σ H v u Q I r h
  exact wpAny_assign_Name (store_ok I hN hi hx r (fun s' I' => ⟨_, H, I', h⟩) hf)
def gNil : TGs := fun vs σ H Q => vs = [] ∧ Q σ H
def gCons (t : TG) (u : TGs) : TGs := fun vs σ H Q => ∃ v r, vs = v :: r ∧ t v σ H fun σ' H' => u r σ' H' Q
theorem pgs_nil : PGs X [] gNil := by
  intro pins s σ H vs us Q I r h
  obtain ⟨e, h⟩ := h
  subst e
  cases r
  exact assignInOrder_nil ⟨σ, H, I, h⟩
theorem pgs_cons {e : Expr} {es : List Expr} {t : TG} {u : TGs} (h1 : PG X e t) (h2 : PGs X es u)
    (hs : (assignEach (e :: es) X.env).map (·.2) = assign e X.env :: (assignEach es X.env).map (·.2) := by rfl) : PGs X (e :: es) (gCons t u) := by
  intro pins s σ H vs us Q I r h
  obtain ⟨v, vr, e1, h⟩ := h
  subst e1
  cases r with
  | cons r rr =>
    rw [hs]
    refine assignInOrder_cons (thn (h1 pins s σ H _ _ _ I r h) fun _ s1 ⟨σ1, H1, I1, q1⟩ => ?_)
    exact h2 pins s1 σ1 H1 _ _ Q I1 rr q1
/-- (a, b, ..) = a tuple of that length -/
def gTup (K : PySem.W.Frag) (n : Nat) (t : TGs) : TG := fun v σ H Q => ∃ a xs, v = .ref a ∧ SqT K H a xs ∧ xs.length = n ∧ t xs σ H Q
theorem pg_tup {es : List Expr} {k : Nat} {t : TGs} {n : Nat} (hc : X.calm = true) (h : PGs X es t)
    (hn : (assignEach es X.env).length = n := by rfl) (hst : (assignEach es X.env).findIdx? (·.1) = none := by rfl) : PG X (.Tuple es k pos) (gTup X.K n t) := by
  intro pins s σ H v u Q I r hw
  obtain ⟨a, xs, e1, hq, hl, hw⟩ := hw
  subst e1
  cases r
  obtain ⟨its, rv, ht, hz⟩ := I.tuple hq
  refine assign_Tuple_tuple (I.ok.hd hc) ht (by simp [hn, ← hl, rv.length]) hst fun h' hx => ?_
  have I1 : Inv X pins σ H { s with heap := h' } := I.kept (t' := s.toks) fun b o e => hx b o (Nat.ne_of_lt (Heap.lt_size e)) e
  exact h pins _ σ H xs _ Q I1 (by simpa using rv) hw
/-- o[i] = .. -/
def gSub (to ti : TE) (t : TSet) : TG := fun v σ H Q => to σ H fun o H1 => ti σ H1 fun i H2 => t o i v H2 fun H3 => Q σ H3
theorem pg_sub {o i : Expr} {to ti : TE} {t : TSet} (ho : PE X o to) (hi : PE X i ti) (hs : PSet X t)
    (ha : ∀ v, assign (.Subscript o i pos) X.env v = (do
      let ov ← holding [v] (eval o X.env)
      let iv ← holding [v, ov] (eval i X.env)
      standAt pos
      holding [v, ov, iv] (setItem ov iv v)
      release [v, ov, iv] []) := by intro _; rfl) : PG X (.Subscript o i pos) (gSub to ti t) := by
  intro pins s σ H v u Q I r h
  rw [ha]
  refine wpAny_bind (wpAny_holding (thn (ho pins s σ H _ I h) fun ov s1 ⟨x, H1, I1, r1, q1⟩ => ?_))
  refine wpAny_bind (wpAny_holding (thn (hi pins s1 σ H1 _ I1 q1) fun iv s2 ⟨y, H2, I2, r2, q2⟩ => ?_))
  refine wpAny_bind (wpAny_standAt (wpAny_bind (wpAny_holding (thn (hs pins s2 σ H2 x y v ov iv u _ I2 r1 r2 r q2) fun _ s3 ⟨H3, I3, q3⟩ => ?_))))
  exact wpAny_release ⟨σ, H3, I3, q3⟩
/-- target = value -/
def tAsg (te : TE) (g : TG) : TS := fun D σ H => te σ H fun x H1 => g x σ H1 D.nx
theorem ps_asg {tg e : Expr} {te : TE} {g : TG} (he : PE X e te) (hg : PG X tg g) (hs : swapsWithSole [tg] e pos.line X.env = pure false := by rfl) (hw : swappedStores [tg] e X.env = pure none := by rfl)
    (h1 : (assignEach [tg] X.env).map (·.2) = [assign tg X.env] := by rfl) : PS X (.Assign [tg] e pos) (tAsg te g) := by
  intro pins s σ H D I h
  refine wpAny_Assign_stores (thn (he pins s σ H _ I h) fun v s1 ⟨x, H1, I1, r1, q1⟩ => ?_) hs hw
  rw [h1]
  exact thn (hg pins s1 σ H1 x v _ I1 r1 q1) fun _ s2 q => q
/-- name = value -/
theorem ps_set {i : Nat} {x : Str} {e : Expr} {te : TE} {pos' : Pos} (hN : X.N.Nodup) (hi : X.N[i]? = some x) (hx : Loc X.env.scope x) (he : PE X e te) (hs : swapsWith e (some (.Name x pos')) pos.line X.env = pure false := by rfl) (hf : X.fn x = true ∨ X.env.scope.names.lookup x = some .local := by first | exact .inl rfl | exact .inr rfl | assumption) :
    PS X (.Assign [.Name x pos'] e pos) (tAsg te (gName i)) := by
  intro pins s σ H D I h
  refine wpAny_Assign_Name (thn (he pins s σ H _ I h) fun v s1 ⟨y, H1, I1, r1, q1⟩ => ?_) hs
  exact store_ok I1 hN hi hx r1 (fun s2 I2 => ⟨_, H1, I2, q1⟩) hf
end

/-! ### while -/
section
variable {X : Cx} {pos : Pos}
end

/-! ### what a loop or a comprehension walks -/
/-- at turn i: it yields x (the heap may grow), or it stops -/
structure It where
  go : Nat → Hp → Prop
  yld : Nat → Hp → V → Hp → Prop
  stop : Nat → Hp → Prop
/-- the iterator's own objects may turn: they are not the frame's, not pinned, younger than the entry (or a comprehension's own) -/
def FpOk (X : Cx) (pins : List (Addr × Obj)) (H : Hp) (b : Addr) : Prop :=
  H b = none ∧ b ≠ X.env.locals ∧ b ∉ X.fs ∧ (b ∈ X.ex ∨ X.s₀.heap.objs.size ≤ b) ∧ (∀ x c, X.env.cells.lookup x = some c → c ≠ b) ∧ ∀ p ∈ X.pn ++ pins, p.1 ≠ b
theorem Inv.fpOk {X : Cx} {pins : List (Addr × Obj)} {σ : St} {H H' : Hp} {s : Shared} {b : Addr} (I : Inv X pins σ H s) (hb : s.heap.objs.size ≤ b) (hn : H' b = none) : FpOk X pins H' b := by
  refine ⟨hn, Nat.ne_of_gt (Nat.lt_of_lt_of_le I.lt hb), I.nofs hb, .inr (Nat.le_trans I.sz hb), fun x c e z => ?_, fun p hp z => ?_⟩
  · obtain ⟨v, q⟩ := I.cell x c e
    exact absurd (Nat.lt_of_lt_of_le q.lt (by rw [z]; exact hb)) (Nat.lt_irrefl _)
  · exact absurd (Nat.lt_of_lt_of_le (Heap.lt_size (I.pin p hp).1) (by rw [z]; exact hb)) (Nat.lt_irrefl _)
structure Turn (P : Program) (w : World) (K : PySem.W.Frag) (tg : Expr) (J : It) (fp : List Addr) (it : Addr) (tn : Nat → Heap → Prop) : Prop where
  mem : it ∈ fp
  obj : ∀ i h, tn i h → ∀ b ∈ fp, ∃ o, h.get? b = some o ∧ ∀ v, o.data ≠ .cell v
  keep : ∀ i h h', tn i h → (∀ b ∈ fp, ∀ o, h.get? b = some o → h'.get? b = some o) → tn i h'
  item : ∀ (X : Cx), X.prog = P → X.w = w → X.K = K → X.calm = true → ∀ (i : Nat) (pins : List (Addr × Obj)) (s : Shared) (σ : St) (H : Hp) (E : Value → Shared → Prop), Inv X pins σ H s → (∀ b ∈ fp, FpOk X pins H b) → tn i s.heap → J.go i H →
    wpAny (model P w) X.A (pyNext (.ref it)) (fun r s1 => ∃ u, r = some u ∧
      wpAny (model P w) X.A (letOwnedTupleGo tg (.ref it) u) (fun _ s2 => ∃ x H', Inv X pins σ H' s2 ∧ RelV x u ∧ J.yld i H x H' ∧ tn (i + 1) s2.heap ∧ ∀ b ∈ fp, H' b = none) E s1) E s
  done : ∀ (X : Cx), X.prog = P → X.w = w → X.K = K → X.calm = true → ∀ (i : Nat) (pins : List (Addr × Obj)) (s : Shared) (σ : St) (H : Hp) (E : Value → Shared → Prop), Inv X pins σ H s → (∀ b ∈ fp, FpOk X pins H b) → tn i s.heap → J.stop i H →
    wpAny (model P w) X.A (pyNext (.ref it)) (fun r s1 => r = none ∧ Inv X pins σ H s1) E s
  self : ∀ (A : Around) (i : Nat) (s : Shared) (Q : Value → Shared → Prop) (E : Value → Shared → Prop), tn i s.heap → Q (.ref it) s → wpAny (model P w) A (pyIter (.ref it)) Q E s
abbrev TI := St → Hp → (It → Hp → Prop) → Prop
/-- an iterator has come -/
def PIE (X : Cx) (pins : List (Addr × Obj)) (σ : St) (tg : Expr) (R : It → Hp → Prop) (itv : Value) (s2 : Shared) : Prop :=
  ∃ (it : Addr) (fp : List Addr) (tn : Nat → Heap → Prop) (J : It) (H' : Hp), itv = .ref it ∧ Inv X pins σ H' s2 ∧ Turn X.prog X.w X.K tg J fp it tn ∧ tn 0 s2.heap ∧ (∀ b ∈ fp, FpOk X pins H' b) ∧ R J H'
def PI (X : Cx) (tg iter : Expr) (wi : TI) : Prop :=
  ∀ (pins : List (Addr × Obj)) (s : Shared) (σ : St) (H : Hp) (R : It → Hp → Prop), Inv X pins σ H s → wi σ H R →
    wpAny (model X.prog X.w) X.A (eval iter X.env) (fun v s1 => wpAny (model X.prog X.w) X.A (pyIter v) (PIE X pins σ tg R) X.xe s1) X.xe s

/-- the step ahead of the store is nothing for an iterator that keeps no tuple -/
theorem go_of {M : Model} {A : Around} {E : Value → Shared → Prop} {s : Shared} {tg : Expr} {it : Addr} {u : Value} {o : Obj} {n : String} {vs : Array Value} {Q : Unit → Shared → Prop} (ho : s.heap.get? it = some o) (hc : o.cls = .type n) (hd : o.data = .fields vs)
    (hn : ["enumerate", "zip", "dict_itemiterator", "dict_reverseitemiterator", "odict_iterator", "itertools.zip_longest", "itertools.pairwise"].contains n = false) (hQ : Q () s) : wpAny M A (letOwnedTupleGo tg (.ref it) u) Q E s := by
  unfold letOwnedTupleGo
  cases tg <;> first
    | exact wpAny_pure hQ
    | (cases u <;> first
        | exact wpAny_pure hQ
        | (refine wpAny_bind (wpAny_load ho ?_)
           rw [hc, hd]
           show wpAny M A (if (["enumerate", "zip", "dict_itemiterator", "dict_reverseitemiterator", "odict_iterator", "itertools.zip_longest", "itertools.pairwise"].contains n && vs[0]? == some (rawInt _)) = true then _ else _) Q E s
           rw [if_neg (by intro h; rw [hn, Bool.false_and] at h; cases h)]
           exact wpAny_pure hQ))

/-- the list at a, as it stands at each turn (a loop may append to it) -/
def Itl (K : PySem.W.Frag) (a : Addr) : It :=
  ⟨fun i H => ∃ xs x, SqL K H a xs ∧ xs[i]? = some x, fun i H x H' => H' = H ∧ ∀ xs, SqL K H a xs → xs[i]? = some x, fun i H => ∃ xs, SqL K H a xs ∧ xs.length ≤ i⟩
def Itt (K : PySem.W.Frag) (a : Addr) : It :=
  ⟨fun i H => ∃ xs x, SqT K H a xs ∧ xs[i]? = some x, fun i H x H' => H' = H ∧ ∀ xs, SqT K H a xs → xs[i]? = some x, fun i H => ∃ xs, SqT K H a xs ∧ xs.length ≤ i⟩
/-- lo, lo + 1, .. (n of them) -/
def Itr (lo : Int) (n : Nat) : It := ⟨fun i _ => i < n, fun i H x H' => H' = H ∧ x = .int (lo + i), fun i _ => n ≤ i⟩
theorem turn_list {P : Program} {w : World} {K : PySem.W.Frag} {tg : Expr} (a it : Addr) : Turn P w K tg (Itl K a) [it] it (fun i h => h.IsListIter it a i) where
  mem := by simp
  obj := fun i h st b hb => by
    have e : b = it := by simpa using hb
    subst e
    obtain ⟨o, e, c, d⟩ := st
    exact ⟨o, e, fun v z => by rw [d] at z; cases z⟩
  keep := fun i h h' st k => st.at fun o e => k it (by simp) o e
  item := by
    intro X hP hw hK hc i pins s σ H E I hf st hg
    subst hP hw hK
    obtain ⟨xs, x, hq, hx⟩ := hg
    obtain ⟨its, rv, p, hz⟩ := I.list hq
    obtain ⟨u, hu, ru⟩ := rv.get hx
    obtain ⟨f0, f1, f2, f3, f4, f5⟩ := hf it (by simp)
    refine wpAny_pyNext_list_item st p.isList (x := u) (by simpa using hu) fun h' st' sb => ?_
    have I1 : Inv X pins σ H { s with heap := h' } := I.turned (t' := s.toks) (fun b o hb e => (sb.2 b hb).trans e) f0 f1 f3 f4 f5
    obtain ⟨o, e, c, d⟩ := id st'
    exact ⟨u, rfl, go_of (s := { s with heap := h' }) e c d (by decide) ⟨x, H, I1, ru, ⟨rfl, fun ys hy => by rw [I.list_inj hy hq]; exact hx⟩, st', fun b hb => (hf b hb).1⟩⟩
  done := by
    intro X hP hw hK hc i pins s σ H E I hf st hg
    subst hP hw hK
    obtain ⟨xs, hq, hx⟩ := hg
    obtain ⟨its, rv, p, hz⟩ := I.list hq
    obtain ⟨f0, f1, f2, f3, f4, f5⟩ := hf it (by simp)
    have hl := rv.length
    exact wpAny_pyNext_list_end (I.ok.hd hc) st p.isList (by simp; omega) fun h' eb => ⟨rfl, I.turned (t' := s.toks) (fun b o hb e => eb b o hb e) f0 f1 f3 f4 f5⟩
  self := fun _ _ _ _ _ st h => wpAny_pyIter_listiter st h
theorem turn_tuple {P : Program} {w : World} {K : PySem.W.Frag} {tg : Expr} (a it : Addr) : Turn P w K tg (Itt K a) [it] it (fun i h => h.IsTupleIter it a i) where
  mem := by simp
  obj := fun i h st b hb => by
    have e : b = it := by simpa using hb
    subst e
    obtain ⟨o, e, c, d⟩ := st
    exact ⟨o, e, fun v z => by rw [d] at z; cases z⟩
  keep := fun i h h' st k => st.at fun o e => k it (by simp) o e
  item := by
    intro X hP hw hK hc i pins s σ H E I hf st hg
    subst hP hw hK
    obtain ⟨xs, x, hq, hx⟩ := hg
    obtain ⟨its, rv, p, hz⟩ := I.tuple hq
    obtain ⟨u, hu, ru⟩ := rv.get hx
    obtain ⟨f0, f1, f2, f3, f4, f5⟩ := hf it (by simp)
    refine wpAny_pyNext_tuple_item st (show s.heap.IsTuple a its.toArray from p) (x := u) (by simpa using hu) fun h' st' sb => ?_
    have I1 : Inv X pins σ H { s with heap := h' } := I.turned (t' := s.toks) (fun b o hb e => (sb.2 b hb).trans e) f0 f1 f3 f4 f5
    obtain ⟨o, e, c, d⟩ := id st'
    exact ⟨u, rfl, go_of (s := { s with heap := h' }) e c d (by decide) ⟨x, H, I1, ru, ⟨rfl, fun ys hy => by rw [I.tuple_inj hy hq]; exact hx⟩, st', fun b hb => (hf b hb).1⟩⟩
  done := by
    intro X hP hw hK hc i pins s σ H E I hf st hg
    subst hP hw hK
    obtain ⟨xs, hq, hx⟩ := hg
    obtain ⟨its, rv, p, hz⟩ := I.tuple hq
    obtain ⟨f0, f1, f2, f3, f4, f5⟩ := hf it (by simp)
    have hl := rv.length
    exact wpAny_pyNext_tuple_end (I.ok.hd hc) st (show s.heap.IsTuple a its.toArray from p) (by simp; omega) fun h' eb => ⟨rfl, I.turned (t' := s.toks) (fun b o hb e => eb b o hb e) f0 f1 f3 f4 f5⟩
  self := fun _ _ _ _ _ st h => wpAny_pyIter_tupleiter st h
theorem turn_range {P : Program} {w : World} {K : PySem.W.Frag} {tg : Expr} (it : Addr) (lo : Int) (n : Nat) : Turn P w K tg (Itr lo n) [it] it (fun i h => IsRangeIter h it (lo + (i : Nat) * 1) ((n : Int) - (i : Nat)) 1) where
  mem := by simp
  obj := fun i h st b hb => by
    have e : b = it := by simpa using hb
    subst e
    exact ⟨_, st, fun v z => by
      have z' : Data.fields _ = Data.cell v := z
      cases z'⟩
  keep := fun i h h' st k => k it (by simp) _ st
  item := by
    intro X hP hw hK hc i pins s σ H E I hf st hg
    subst hP hw hK
    obtain ⟨f0, f1, f2, f3, f4, f5⟩ := hf it (by simp)
    have W := Walks.range (prog := X.prog) (w := X.w) (I.ok.hd hc) it lo 1 n
    refine W.item i s _ _ hg st fun v h' tk hv st' kk => ?_
    obtain ⟨t, rfl⟩ := hv
    have I1 : Inv X pins σ H { s with heap := h', toks := tk } := I.turned (fun b o hb e => kk b o (by simpa using hb) e) f0 f1 f3 f4 f5
    refine ⟨_, rfl, go_of (s := { s with heap := h', toks := tk }) (n := "range_iterator") st' rfl rfl (by decide) ⟨.int (lo + i), H, I1, ⟨t, ?_⟩, ⟨rfl, rfl⟩, st', fun b hb => (hf b hb).1⟩⟩
    rw [Int.mul_one]
  done := by
    intro X hP hw hK hc i pins s σ H E I hf st hg
    subst hP hw hK
    obtain ⟨f0, f1, f2, f3, f4, f5⟩ := hf it (by simp)
    exact wpAny_pyNext_range_end (I.ok.hd hc) st (by have : n ≤ i := hg; omega) fun h' eb => ⟨rfl, I.turned (t' := s.toks) (fun b o hb e => eb b o hb e) f0 f1 f3 f4 f5⟩
  self := fun _ _ _ _ _ st h => wpAny_pyIter_rangeiter st h
end L2

namespace L2
open PySem PySem.Spec PyProof.Rows
section
variable {X : Cx} {tg : Expr}
def iList (K : PySem.W.Frag) (tl : TE) : TI := fun σ H R => tl σ H fun x H1 => ∃ a, x = .ref a ∧ (∃ xs, SqL K H1 a xs) ∧ R (Itl K a) H1
def iTup (K : PySem.W.Frag) (tl : TE) : TI := fun σ H R => tl σ H fun x H1 => ∃ a, x = .ref a ∧ (∃ xs, SqT K H1 a xs) ∧ R (Itt K a) H1
theorem pi_list {l : Expr} {tl : TE} (hl : PE X l tl) : PI X tg l (iList X.K tl) := by
  intro pins s σ H R I h
  refine thn (hl pins s σ H _ I h) fun v s1 ⟨x, H1, I1, r1, q1⟩ => ?_
  obtain ⟨a, e, ⟨xs, hq⟩, q⟩ := q1
  subst e
  cases r1
  obtain ⟨its, rv, p, hz⟩ := I1.list hq
  refine wpAny_pyIter_list p.isList ?_
  refine ⟨s1.heap.objs.size, [s1.heap.objs.size], _, _, H1, rfl, I1.kept (t' := s1.toks) fun b o e => Heap.get?_push_of_some _ e, turn_list a _, ⟨_, Heap.get?_push_size _ rfl, rfl, rfl⟩, fun b hb => ?_, q⟩
  have e : b = s1.heap.objs.size := by simpa using hb
  subst e
  exact I1.fpOk (Nat.le_refl _) (I1.hok.fresh (Nat.le_refl _))
theorem pi_tup {l : Expr} {tl : TE} (hl : PE X l tl) : PI X tg l (iTup X.K tl) := by
  intro pins s σ H R I h
  refine thn (hl pins s σ H _ I h) fun v s1 ⟨x, H1, I1, r1, q1⟩ => ?_
  obtain ⟨a, e, ⟨xs, hq⟩, q⟩ := q1
  subst e
  cases r1
  obtain ⟨its, rv, p, hz⟩ := I1.tuple hq
  refine wpAny_pyIter_tuple (show s1.heap.IsTuple a its.toArray from p) ?_
  refine ⟨s1.heap.objs.size, [s1.heap.objs.size], _, _, H1, rfl, I1.kept (t' := s1.toks) fun b o e => Heap.get?_push_of_some _ e, turn_tuple a _, ⟨_, Heap.get?_push_size _ rfl, rfl, rfl⟩, fun b hb => ?_, q⟩
  have e : b = s1.heap.objs.size := by simpa using hb
  subst e
  exact I1.fpOk (Nat.le_refl _) (I1.hok.fresh (Nat.le_refl _))
/-- a range object just made, walked -/
theorem range_it {pins : List (Addr × Obj)} {σ : St} {H : Hp} {s : Shared} {R : It → Hp → Prop} {E : Value → Shared → Prop} {lo hi : Int} {t u v : Tok} {tk : Nat} (I : Inv X pins σ H s) (h1 : -(2 ^ 62) ≤ lo) (h2 : lo < 2 ^ 62) (h3 : -(2 ^ 62) ≤ hi) (h4 : hi < 2 ^ 62)
    (q : R (Itr lo (hi - lo).toNat) H) : wpAny (model X.prog X.w) X.A (pyIter (.ref s.heap.objs.size)) (PIE X pins σ tg R) E { s with heap := s.heap.push { cls := .type "range", data := .fields #[.int lo t, .int hi u, .int 1 v] }, toks := tk } := by
  refine wpAny_pyIter_range (IsRange.new ..) (small_one h1 h2 h3 h4) ?_
  have I1 : Inv X pins σ H { s with heap := s.heap.push { cls := .type "range", data := .fields #[.int lo t, .int hi u, .int 1 v] }, toks := tk } := I.kept fun b o e => Heap.get?_push_of_some _ e
  refine ⟨(s.heap.push { cls := .type "range", data := .fields #[.int lo t, .int hi u, .int 1 v] }).objs.size, [(s.heap.push { cls := .type "range", data := .fields #[.int lo t, .int hi u, .int 1 v] }).objs.size], _, _, H, rfl,
    I1.kept (t' := tk) fun b o e => Heap.get?_push_of_some _ e, turn_range _ lo (hi - lo).toNat, ?_, fun b hb => ?_, q⟩
  · have e1 : lo + ((0 : Nat) : Int) * 1 = lo := by simp
    have e2 : (((hi - lo).toNat : Nat) : Int) - ((0 : Nat) : Int) = Builtin.Range.rangeSize lo hi 1 := by rw [rangeSize_one]; split <;> omega
    show IsRangeIter _ _ (lo + ((0 : Nat) : Int) * 1) ((((hi - lo).toNat : Nat) : Int) - ((0 : Nat) : Int)) 1
    rw [e1, e2]
    exact Heap.get?_push_size _ rfl
  · have e : b = (s.heap.push { cls := .type "range", data := .fields #[.int lo t, .int hi u, .int 1 v] }).objs.size := by simpa using hb
    subst e
    exact I1.fpOk (Nat.le_refl _) (I1.hok.fresh (Nat.le_refl _))
def iRng1 (ta : TA) : TI := fun σ H R => ta σ H fun vs H1 => ∃ j : Int, vs = [.int j] ∧ -(2 ^ 62) ≤ j ∧ j < 2 ^ 62 ∧ R (Itr 0 j.toNat) H1
theorem pi_range1 {a : Expr} {ta : TA} {p pos : Pos} (hg : Gl X "range") (hm : X.mg "range" = none) (ha : PA X [a] ta) (hs : starEach [a] X.env = [(false, eval a X.env)] := by rfl) : PI X tg (.Call (.Name "range" p) [a] [] pos) (iRng1 ta) := by
  intro pins s σ H R I h
  refine Call_ (ld_blt I hg hm boot_range (PyProof.Rows.callWith_type1 (thn (ha pos pins s σ H _ I h) fun us s1 ⟨vs, H1, I1, r1, q1⟩ => ?_) hs rfl))
  obtain ⟨j, e, q1, q2, q⟩ := q1
  subst e
  cases r1 with
  | cons r rr =>
    cases rr
    obtain ⟨t, rfl⟩ := r
    exact call_range_1 (range_it I1 (by omega) (by omega) q1 q2 (by simpa using q))
/-! ### for -/
/-- W: the invariant by the turn and a measure; N: what the body is to reach -/
def tFor (wi : TI) (g : TG) (tb : TS) : TS := fun D σ H => wi σ H fun J H1 => ∃ W : Nat → Nat → St → Hp → Prop, (∃ m, W 0 m σ H1) ∧ ∀ i m σ H, W i m σ H →
  (J.stop i H ∧ D.nx σ H) ∨ (J.go i H ∧ ∃ N : St → Hp → Prop, (∀ σ' H', N σ' H' → ∃ m', m' < m ∧ W (i + 1) m' σ' H') ∧ ∀ x H', J.yld i H x H' → g x σ H' fun σ2 H2 => tb { D with nx := N, ct := N, bk := D.nx } σ2 H2)
/-- the records at fp as they stand -/
def pinsAt (fp : List Addr) (h : Heap) : List (Addr × Obj) := fp.filterMap fun b => (h.get? b).map fun o => (b, o)
theorem mem_pinsAt {fp : List Addr} {h : Heap} {b : Addr} {o : Obj} (hb : b ∈ fp) (e : h.get? b = some o) : (b, o) ∈ pinsAt fp h := List.mem_filterMap.mpr ⟨b, hb, by rw [e]; rfl⟩
theorem of_pinsAt {fp : List Addr} {h : Heap} {p : Addr × Obj} (hp : p ∈ pinsAt fp h) : p.1 ∈ fp ∧ h.get? p.1 = some p.2 := by
  obtain ⟨b, hb, e⟩ := List.mem_filterMap.mp hp
  cases q : h.get? b with
  | none => rw [q] at e; cases e
  | some o =>
    rw [q] at e
    have e' : (b, o) = p := Option.some.inj e
    subst e'
    exact ⟨hb, q⟩
theorem Inv.pinned {pins : List (Addr × Obj)} {σ : St} {H : Hp} {s : Shared} {fp : List Addr} (I : Inv X pins σ H s) (hf : ∀ b ∈ fp, FpOk X pins H b) (ho : ∀ b ∈ fp, ∃ o, s.heap.get? b = some o ∧ ∀ v, o.data ≠ .cell v) : Inv X (pins ++ pinsAt fp s.heap) σ H s :=
  I.pins_of fun p hp => (List.mem_append.mp hp).elim (fun z => I.pin p (List.mem_append_right _ z)) fun z => by
    obtain ⟨hb, e⟩ := of_pinsAt z
    obtain ⟨f0, f1, f2, _⟩ := hf p.1 hb
    obtain ⟨o, e', d⟩ := ho p.1 hb
    rw [e] at e'; cases e'
    exact ⟨e, f0, f1, f2, d⟩
theorem Inv.unpinned {pins pl : List (Addr × Obj)} {σ : St} {H : Hp} {s : Shared} (I : Inv X (pins ++ pl) σ H s) : Inv X pins σ H s := I.pins_of fun p hp => I.pin p (List.mem_append_right _ (List.mem_append_left _ hp))
theorem ps_for {iter : Expr} {body : List Stmt} {wi : TI} {g : TG} {tb : TS} {pos : Pos} (hp : PassesOwn (model X.prog X.w) X.A X.env X.xe) (hc : X.calm = true) (hi : PI X tg iter wi) (hg : PG X tg g) (hb : PSs X body tb)
    (hs : ∀ x, foldedSetIterable iter X.env x = pure x := by intro _; rfl) : PS X (.For tg iter body [] pos) (tFor wi g tb) := by
  intro pins s σ H D I h
  refine wpAny_For (thn (hi pins s σ H _ I h) fun v s1 h1 => thn h1 fun itv s2 h2 => ?_) hs
  obtain ⟨it, fp, tn, J, H2, e, I2, T, st2, f2, W, ⟨m0, w0⟩, turn⟩ := h2
  subst e
  -- what stays true of the iterator's objects through the loop
  have stat : ∀ {H' : Hp}, (∀ b ∈ fp, H' b = none) → ∀ b ∈ fp, FpOk X pins H' b := fun hn b hb => ⟨hn b hb, (f2 b hb).2⟩
  refine codeAny_forLoop_any (fun n s' => ∃ i σ' H', Inv X pins σ' H' s' ∧ tn i s'.heap ∧ (∀ b ∈ fp, H' b = none) ∧ W i n σ' H') ?_ m0 ⟨0, σ, H2, I2, st2, fun b hb => (f2 b hb).1, w0⟩
  rintro n s3 ⟨i, σ3, H3, I3, st3, fr3, w3⟩
  rcases turn i n σ3 H3 w3 with ⟨stop, qn⟩ | ⟨go, N, hN, step⟩
  · refine wpAny_passesOwn hp (thn (T.done X rfl rfl rfl hc i pins s3 σ3 H3 X.xe I3 (stat fr3) st3 stop) fun r s4 ⟨hr, I4⟩ => ?_)
    subst hr
    exact wpAny_execs_nil ⟨σ3, H3, I4, qn⟩
  · refine wpAny_passesOwn hp (thn (T.item X rfl rfl rfl hc i pins s3 σ3 H3 X.xe I3 (stat fr3) st3 go) fun r s4 ⟨u, hr, h4⟩ => ?_)
    subst hr
    refine wpAny_passesOwn hp (thn h4 fun _ s5 ⟨x, H5, I5, r5, y5, st5, fr5⟩ => ?_)
    have I5' := I5.pinned (stat fr5) (T.obj _ _ st5)
    refine wpAny_passesOwn hp (thn (hg _ s5 σ3 H5 x u _ I5' r5 (step x H5 y5)) fun _ s6 ⟨σ6, H6, I6, q6⟩ => ?_)
    refine wpAny_passesOwn hp (thn (hb _ s6 σ6 H6 _ I6 q6) fun f s7 q7 => ?_)
    have again : ∀ {σ7 : St} {H7 : Hp}, Inv X (pins ++ pinsAt fp s5.heap) σ7 H7 s7 → N σ7 H7 → ∃ m, m < n ∧ ∃ i σ' H', Inv X pins σ' H' s7 ∧ tn i s7.heap ∧ (∀ b ∈ fp, H' b = none) ∧ W i m σ' H' := fun {σ7 H7} I7 n7 => by
      obtain ⟨m', hm, w7⟩ := hN σ7 H7 n7
      refine ⟨m', hm, i + 1, σ7, H7, I7.unpinned, T.keep _ _ _ st5 fun b hb o e => (I7.pin (b, o) (List.mem_append_right _ (List.mem_append_right _ (mem_pinsAt hb e)))).1, fun b hb => ?_, w7⟩
      obtain ⟨o, e, d⟩ := T.obj _ _ st5 b hb
      exact (I7.pin (b, o) (List.mem_append_right _ (List.mem_append_right _ (mem_pinsAt hb e)))).2.1
    cases f with
    | next => obtain ⟨σ7, H7, I7, n7⟩ := q7; exact again I7 n7
    | cont => obtain ⟨σ7, H7, I7, n7⟩ := q7; exact again I7 n7
    | brk => obtain ⟨σ7, H7, I7, q7⟩ := q7; exact ⟨σ7, H7, I7.unpinned, q7⟩
    | ret v => obtain ⟨x7, σ7, H7, I7, r7, q7⟩ := q7; exact ⟨x7, σ7, H7, I7.unpinned, r7, q7⟩
end

/-! ### the forms one uses -/
/-- over a list that the body leaves as it is -/
theorem for_list {K : PySem.W.Frag} {a : Addr} {xs : List V} {g : TG} {tb : TS} {D : Ends} {σ : St} {H : Hp} (Pv : Nat → St → Hp → Prop) (h0 : Pv 0 σ H) (hl : ∀ i σ H, i ≤ xs.length → Pv i σ H → SqL K H a xs)
    (hs : ∀ i x σ H, xs[i]? = some x → Pv i σ H → g x σ H fun σ2 H2 => tb { D with nx := Pv (i + 1), ct := Pv (i + 1), bk := D.nx } σ2 H2) (hd : ∀ σ H, Pv xs.length σ H → D.nx σ H) :
    ∃ W : Nat → Nat → St → Hp → Prop, (∃ m, W 0 m σ H) ∧ ∀ i m σ H, W i m σ H →
      ((Itl K a).stop i H ∧ D.nx σ H) ∨ ((Itl K a).go i H ∧ ∃ N : St → Hp → Prop, (∀ σ' H', N σ' H' → ∃ m', m' < m ∧ W (i + 1) m' σ' H') ∧ ∀ x H', (Itl K a).yld i H x H' → g x σ H' fun σ2 H2 => tb { D with nx := N, ct := N, bk := D.nx } σ2 H2) := by
  refine ⟨fun i m σ H => m = xs.length - i ∧ i ≤ xs.length ∧ Pv i σ H, ⟨xs.length, by simp, Nat.zero_le _, h0⟩, ?_⟩
  rintro i m σ H ⟨rfl, hi, p⟩
  have q := hl i σ H hi p
  by_cases hlt : i < xs.length
  · refine .inr ⟨⟨xs, xs[i], q, by simp [hlt]⟩, Pv (i + 1), fun σ' H' p' => ⟨xs.length - (i + 1), by omega, rfl, hlt, p'⟩, fun x H' y => ?_⟩
    obtain ⟨e, y⟩ := y
    subst e
    exact hs i x σ _ (y xs q) p
  · have e : i = xs.length := by omega
    subst e
    exact .inl ⟨⟨xs, q, Nat.le_refl _⟩, hd σ H p⟩
theorem for_tup {K : PySem.W.Frag} {a : Addr} {xs : List V} {g : TG} {tb : TS} {D : Ends} {σ : St} {H : Hp} (Pv : Nat → St → Hp → Prop) (h0 : Pv 0 σ H) (hl : ∀ i σ H, i ≤ xs.length → Pv i σ H → SqT K H a xs)
    (hs : ∀ i x σ H, xs[i]? = some x → Pv i σ H → g x σ H fun σ2 H2 => tb { D with nx := Pv (i + 1), ct := Pv (i + 1), bk := D.nx } σ2 H2) (hd : ∀ σ H, Pv xs.length σ H → D.nx σ H) :
    ∃ W : Nat → Nat → St → Hp → Prop, (∃ m, W 0 m σ H) ∧ ∀ i m σ H, W i m σ H →
      ((Itt K a).stop i H ∧ D.nx σ H) ∨ ((Itt K a).go i H ∧ ∃ N : St → Hp → Prop, (∀ σ' H', N σ' H' → ∃ m', m' < m ∧ W (i + 1) m' σ' H') ∧ ∀ x H', (Itt K a).yld i H x H' → g x σ H' fun σ2 H2 => tb { D with nx := N, ct := N, bk := D.nx } σ2 H2) := by
  refine ⟨fun i m σ H => m = xs.length - i ∧ i ≤ xs.length ∧ Pv i σ H, ⟨xs.length, by simp, Nat.zero_le _, h0⟩, ?_⟩
  rintro i m σ H ⟨rfl, hi, p⟩
  have q := hl i σ H hi p
  by_cases hlt : i < xs.length
  · refine .inr ⟨⟨xs, xs[i], q, by simp [hlt]⟩, Pv (i + 1), fun σ' H' p' => ⟨xs.length - (i + 1), by omega, rfl, hlt, p'⟩, fun x H' y => ?_⟩
    obtain ⟨e, y⟩ := y
    subst e
    exact hs i x σ _ (y xs q) p
  · have e : i = xs.length := by omega
    subst e
    exact .inl ⟨⟨xs, q, Nat.le_refl _⟩, hd σ H p⟩
theorem for_range {lo : Int} {n : Nat} {g : TG} {tb : TS} {D : Ends} {σ : St} {H : Hp} (Pv : Nat → St → Hp → Prop) (h0 : Pv 0 σ H)
    (hs : ∀ i σ H, i < n → Pv i σ H → g (.int (lo + i)) σ H fun σ2 H2 => tb { D with nx := Pv (i + 1), ct := Pv (i + 1), bk := D.nx } σ2 H2) (hd : ∀ σ H, Pv n σ H → D.nx σ H) :
    ∃ W : Nat → Nat → St → Hp → Prop, (∃ m, W 0 m σ H) ∧ ∀ i m σ H, W i m σ H →
      ((Itr lo n).stop i H ∧ D.nx σ H) ∨ ((Itr lo n).go i H ∧ ∃ N : St → Hp → Prop, (∀ σ' H', N σ' H' → ∃ m', m' < m ∧ W (i + 1) m' σ' H') ∧ ∀ x H', (Itr lo n).yld i H x H' → g x σ H' fun σ2 H2 => tb { D with nx := N, ct := N, bk := D.nx } σ2 H2) := by
  refine ⟨fun i m σ H => m = n - i ∧ i ≤ n ∧ Pv i σ H, ⟨n, by simp, Nat.zero_le _, h0⟩, ?_⟩
  rintro i m σ H ⟨rfl, hi, p⟩
  by_cases hlt : i < n
  · refine .inr ⟨hlt, Pv (i + 1), fun σ' H' p' => ⟨n - (i + 1), by omega, rfl, hlt, p'⟩, fun x H' y => ?_⟩
    obtain ⟨e, y⟩ := y
    subst e y
    exact hs i σ _ hlt p
  · have e : i = n := by omega
    subst e
    exact .inl ⟨Nat.le_refl _, hd σ H p⟩
end L2

namespace L2
open PySem PySem.Spec PyProof.Rows

abbrev R2 := V → V → Hp → VK → Prop
/-- a two-place operation on values: f is binaryOp op, inplaceOp op or compareOp op -/
def OpR (X : Cx) (f : Value → Value → Sem Value) (r : R2) : Prop :=
  ∀ (pins : List (Addr × Obj)) (s : Shared) (σ : St) (H : Hp) (x y : V) (v u : Value) (Q : VK), Inv X pins σ H s → RelV x v → RelV y u → r x y H Q →
    wpAny (model X.prog X.w) X.A (f v u) (EP X pins σ Q) X.xe s
/-- a one-place operation -/
def UnR (X : Cx) (f : Value → Sem Value) (r : V → Hp → VK → Prop) : Prop :=
  ∀ (pins : List (Addr × Obj)) (s : Shared) (σ : St) (H : Hp) (x : V) (v : Value) (Q : VK), Inv X pins σ H s → RelV x v → r x H Q →
    wpAny (model X.prog X.w) X.A (f v) (EP X pins σ Q) X.xe s
/-- a call of a value that is known (a builtin, a type) with values -/
def CallR (X : Cx) (f : Value) (r : List V → Hp → VK → Prop) : Prop :=
  ∀ (pins : List (Addr × Obj)) (s : Shared) (σ : St) (H : Hp) (xs : List V) (us : List Value) (Q : VK), Inv X pins σ H s → Vals xs us → r xs H Q →
    wpAny (model X.prog X.w) X.A (call f us) (EP X pins σ Q) X.xe s
def tOp (r : R2) (ta tb : TE) : TE := fun σ H Q => ta σ H fun x H1 => tb σ H1 fun y H2 => r x y H2 Q
def tUn (r : V → Hp → VK → Prop) (ta : TE) : TE := fun σ H Q => ta σ H fun x H1 => r x H1 Q
/-- ints in, under C, and a value out -/
def rI (C : Int → Int → Prop) (g : Int → Int → V) : R2 := fun x y H Q => ∃ i j, x = .int i ∧ y = .int j ∧ C i j ∧ Q (g i j) H
def rI0 (g : Int → Int → V) : R2 := fun x y H Q => ∃ i j, x = .int i ∧ y = .int j ∧ Q (g i j) H
def rU (g : Int → V) : V → Hp → VK → Prop := fun x H Q => ∃ i, x = .int i ∧ Q (g i) H

section
variable {X : Cx} {a b c : Expr} {ta tb tc : TE} {pos : Pos}

theorem binT (ha : PE X a ta) (hb : PE X b tb) {pins : List (Addr × Obj)} {s : Shared} {σ : St} {H : Hp} {R : V → V → Hp → Prop} (I : Inv X pins σ H s)
    (h : ta σ H fun x H1 => tb σ H1 fun y H2 => R x y H2) {Q : Value → Shared → Prop} {f : Value → Value → Sem Value}
    (hf : ∀ v u s2 x y H2, Inv X pins σ H2 s2 → RelV x v → RelV y u → R x y H2 → wpAny (model X.prog X.w) X.A (f v u) Q X.xe s2) :
    wpAny (model X.prog X.w) X.A (eval a X.env) (fun v s₁ => wpAny (model X.prog X.w) X.A (eval b X.env) (fun u s₂ => wpAny (model X.prog X.w) X.A (f v u) Q X.xe s₂) X.xe s₁) X.xe s := by
  refine thn (ha pins s σ H _ I h) fun v s1 ⟨x, H1, I1, r1, q1⟩ => ?_
  refine thn (hb pins s1 σ H1 _ I1 q1) fun u s2 ⟨y, H2, I2, r2, q2⟩ => ?_
  exact hf v u s2 x y H2 I2 r1 r2 q2

theorem pe_op {op : Operator} {r : R2} (ho : OpR X (binaryOp op) r) (ha : PE X a ta) (hb : PE X b tb) : PE X (.BinOp a op b pos) (tOp r ta tb) := by
  intro pins s σ H Q I h
  exact wpAny_BinOp (binT ha hb I h fun v u s2 x y H2 I2 rx ry q => ho pins s2 σ H2 x y v u Q I2 rx ry q)
theorem pe_un {op : UnaryOp} {r : V → Hp → VK → Prop} (ho : UnR X (unaryOp op) r) (ha : PE X a ta) : PE X (.UnaryOp op a pos) (tUn r ta) := by
  intro pins s σ H Q I h
  exact UnaryOp_ (thn (ha pins s σ H _ I h) fun v s1 ⟨x, H1, I1, r1, q1⟩ => ho pins s1 σ H1 x v Q I1 r1 q1)
/-! ### ints -/
theorem opI {f : Value → Value → Sem Value} {C : Int → Int → Prop} {g : Int → Int → Int}
    (rule : ∀ (i j : Int) (t u : Tok) (s : Shared) (Q : Value → Shared → Prop) (E : Value → Shared → Prop), C i j → Q (.int (g i j) s.toks) { s with toks := s.toks + 1 } → wpAny (model X.prog X.w) X.A (f (.int i t) (.int j u)) Q E s) :
    OpR X f (rI C fun i j => .int (g i j)) := by
  intro pins s σ H x y v u Q I rx ry h
  obtain ⟨i, j, rfl, rfl, hc, q⟩ := h
  obtain ⟨t, rfl⟩ := rx
  obtain ⟨t', rfl⟩ := ry
  exact rule i j t t' s _ _ hc ⟨.int (g i j), H, I.tok _, ⟨_, rfl⟩, q⟩
theorem opI0 {f : Value → Value → Sem Value} {g : Int → Int → Int}
    (rule : ∀ (i j : Int) (t u : Tok) (s : Shared) (Q : Value → Shared → Prop) (E : Value → Shared → Prop), Q (.int (g i j) s.toks) { s with toks := s.toks + 1 } → wpAny (model X.prog X.w) X.A (f (.int i t) (.int j u)) Q E s) :
    OpR X f (rI0 fun i j => .int (g i j)) := by
  intro pins s σ H x y v u Q I rx ry h
  obtain ⟨i, j, rfl, rfl, q⟩ := h
  obtain ⟨t, rfl⟩ := rx
  obtain ⟨t', rfl⟩ := ry
  exact rule i j t t' s _ _ ⟨.int (g i j), H, I.tok _, ⟨_, rfl⟩, q⟩
theorem opB0 {f : Value → Value → Sem Value} {g : Int → Int → Bool}
    (rule : ∀ (i j : Int) (t u : Tok) (s : Shared) (Q : Value → Shared → Prop) (E : Value → Shared → Prop), Q (.bool (g i j)) s → wpAny (model X.prog X.w) X.A (f (.int i t) (.int j u)) Q E s) :
    OpR X f (rI0 fun i j => .bl (g i j)) := by
  intro pins s σ H x y v u Q I rx ry h
  obtain ⟨i, j, rfl, rfl, q⟩ := h
  obtain ⟨t, rfl⟩ := rx
  obtain ⟨t', rfl⟩ := ry
  exact rule i j t t' s _ _ ⟨.bl (g i j), H, I, rfl, q⟩

def CDiv (i j : Int) : Prop := 0 < j ∧ j < 1073741824
def CPow (i j : Int) : Prop := 0 ≤ j ∧ j ≤ 1000000 ∧ i.natAbs < 2 ^ 64
def CMul (i j : Int) : Prop := (-(2 ^ 64) < i ∧ i < 2 ^ 64) ∨ (-(2 ^ 64) < j ∧ j < 2 ^ 64)
theorem CMul.ok {i j : Int} (h : CMul i j) : IntMulOk i j := by
  rcases h with ⟨h1, h2⟩ | ⟨h1, h2⟩
  · exact .of_left (intBits_le_64 h1 h2)
  · exact .of_right (intBits_le_64 h1 h2)
theorem op_add : OpR X (binaryOp .Add) (rI0 fun i j => .int (i + j)) := opI0 fun _ _ _ _ _ _ _ q => add_int q
theorem op_sub : OpR X (binaryOp .Sub) (rI0 fun i j => .int (i - j)) := opI0 fun _ _ _ _ _ _ _ q => sub_int q
theorem op_mul : OpR X (binaryOp .Mult) (rI CMul fun i j => .int (i * j)) := opI fun _ _ _ _ _ _ _ hc q => mul_int q hc.ok
/-- // by a positive divisor -/
theorem op_fdiv : OpR X (binaryOp .FloorDiv) (rI CDiv fun i j => .int (i / j)) := opI fun i j _ _ _ _ _ hc q => by
  have h1 : (0 : Int) < j := hc.1
  have h2 : j < 1073741824 := hc.2
  exact floordiv_int (by omega) (by rw [Int.fdiv_eq_ediv_of_nonneg i (by omega)]; exact q) (.inl (PyProof.noPylong_small (by omega)))
/-- % by a positive divisor of any size -/
theorem op_mod : OpR X (binaryOp .Mod) (rI (fun _ j => 0 < j) fun i j => .int (i % j)) := opI fun i j _ _ _ _ _ hc q => by
  have h1 : (0 : Int) < j := hc
  exact mod_int' (by omega) (by rw [Int.fmod_eq_emod_of_nonneg i (by omega)]; exact q)
theorem op_pow : OpR X (binaryOp .Pow) (rI CPow fun i j => .int (i ^ j.toNat)) := opI fun _ _ _ _ _ _ _ hc q => pow_int_small hc.1 hc.2.1 hc.2.2 q
theorem unI {f : Value → Sem Value} {g : Int → Int}
    (rule : ∀ (i : Int) (t : Tok) (s : Shared) (Q : Value → Shared → Prop) (E : Value → Shared → Prop), Q (.int (g i) s.toks) { s with toks := s.toks + 1 } → wpAny (model X.prog X.w) X.A (f (.int i t)) Q E s) :
    UnR X f (rU fun i => .int (g i)) := by
  intro pins s σ H x v Q I rx h
  obtain ⟨i, rfl, q⟩ := h
  obtain ⟨t, rfl⟩ := rx
  exact rule i t s _ _ ⟨.int (g i), H, I.tok _, ⟨_, rfl⟩, q⟩
theorem un_neg : UnR X (unaryOp .USub) (rU fun i => .int (-i)) := unI fun _ _ _ _ _ q => neg_int q
/-! ### bools among ints: n += (a < b) -/
end

/-! ### comparisons -/
/-- the scalars that == tells apart as data does -/
def scal : V → V → Bool
  | .non, .non => true | .non, .int _ => true | .int _, .non => true | .non, .bl _ => true | .bl _, .non => true | .non, .str _ => true | .str _, .non => true
  | .int _, .int _ => true | .bl _, .bl _ => true | .str _, .str _ => true | .byt _, .byt _ => true
  | .int _, .str _ => true | .str _, .int _ => true | .bl _, .str _ => true | .str _, .bl _ => true
  | _, _ => false
def rEq : R2 := fun x y H Q => scal x y = true ∧ Q (.bl (decide (x = y))) H
def rNe : R2 := fun x y H Q => scal x y = true ∧ Q (.bl (!decide (x = y))) H

theorem dec_int {i j : Int} : decide (V.int i = V.int j) = (i == j) := by
  rw [Bool.eq_iff_iff]
  simp
theorem dec_bl {i j : Bool} : decide (V.bl i = V.bl j) = (i == j) := by
  rw [Bool.eq_iff_iff]
  simp
theorem dec_str {i j : Str} : decide (V.str i = V.str j) = (i == j) := by
  rw [Bool.eq_iff_iff]
  simp
theorem dec_byt {i j : Array UInt8} : decide (V.byt i = V.byt j) = (i.toList == j.toList) := by
  rw [Bool.eq_iff_iff]
  cases i
  cases j
  simp

section
variable {X : Cx} {a b c : Expr} {ta tb tc : TE} {pos : Pos}
theorem fin_bl {pins : List (Addr × Obj)} {σ : St} {H : Hp} {s : Shared} {Q : VK} {k k' : Bool} (I : Inv X pins σ H s) (q : Q (.bl k) H) (e : k = k') : EP X pins σ Q (.bool k') s := by
  subst e
  exact ⟨.bl k, H, I, rfl, q⟩
theorem op_eq : OpR X (compareOp .Eq) rEq := by
  intro pins s σ H x y v u Q I rx ry h
  obtain ⟨hs, q⟩ := h
  cases x with
  | non =>
    cases rx
    cases y with
    | non => cases ry; exact PySem.EqNone.eq_none_none (fin_bl I q (by simp))
    | bl j => cases ry; exact PySem.EqNone.eq_none_bool (fin_bl I q (by simp))
    | int j => obtain ⟨t', rfl⟩ := ry; exact PySem.EqNone.eq_none_int (fin_bl I q (by simp))
    | str j => obtain ⟨t', rfl⟩ := ry; exact PySem.EqNone.eq_none_str (fin_bl I q (by simp))
    | _ => exact absurd (show false = true from hs) Bool.false_ne_true
  | bl i =>
    cases rx
    cases y with
    | non => cases ry; exact PySem.EqNone.eq_bool_none (fin_bl I q (by simp))
    | bl j => cases ry; exact eq_bool (fin_bl I q dec_bl)
    | str j => obtain ⟨t', rfl⟩ := ry; exact PySem.EqMixed.eq_bool_str (fin_bl I q (by simp))
    | _ => exact absurd (show false = true from hs) Bool.false_ne_true
  | int i =>
    obtain ⟨t, rfl⟩ := rx
    cases y with
    | non => cases ry; exact PySem.EqNone.eq_int_none (fin_bl I q (by simp))
    | int j => obtain ⟨t', rfl⟩ := ry; exact eq_int (fin_bl I q dec_int)
    | str j => obtain ⟨t', rfl⟩ := ry; exact PySem.EqMixed.eq_int_str (fin_bl I q (by simp))
    | _ => exact absurd (show false = true from hs) Bool.false_ne_true
  | str i =>
    obtain ⟨t, rfl⟩ := rx
    cases y with
    | non => cases ry; exact PySem.EqNone.eq_str_none (fin_bl I q (by simp))
    | bl j => cases ry; exact PySem.EqMixed.eq_str_bool (fin_bl I q (by simp))
    | int j => obtain ⟨t', rfl⟩ := ry; exact PySem.EqMixed.eq_str_int (fin_bl I q (by simp))
    | str j => obtain ⟨t', rfl⟩ := ry; exact eq_str (fin_bl I q dec_str)
    | _ => exact absurd (show false = true from hs) Bool.false_ne_true
  | byt i =>
    obtain ⟨t, rfl⟩ := rx
    cases y with
    | byt j => obtain ⟨t', rfl⟩ := ry; exact PySem.W.eq_bytes (fin_bl I q dec_byt)
    | _ => exact absurd (show false = true from hs) Bool.false_ne_true
  | _ => cases y <;> exact absurd (show false = true from hs) Bool.false_ne_true
theorem op_ne : OpR X (compareOp .NotEq) rNe := by
  intro pins s σ H x y v u Q I rx ry h
  obtain ⟨hs, q⟩ := h
  cases x with
  | non =>
    cases rx
    cases y with
    | non => cases ry; exact PySem.EqNone.ne_none_none (fin_bl I q (by simp))
    | bl j => cases ry; exact PySem.EqNone.ne_none_bool (fin_bl I q (by simp))
    | int j => obtain ⟨t', rfl⟩ := ry; exact PySem.EqNone.ne_none_int (fin_bl I q (by simp))
    | str j => obtain ⟨t', rfl⟩ := ry; exact PySem.EqNone.ne_none_str (fin_bl I q (by simp))
    | _ => exact absurd (show false = true from hs) Bool.false_ne_true
  | bl i =>
    cases rx
    cases y with
    | non => cases ry; exact PySem.EqNone.ne_bool_none (fin_bl I q (by simp))
    | bl j => cases ry; exact ne_bool (fin_bl I q (congrArg not dec_bl))
    | str j => obtain ⟨t', rfl⟩ := ry; exact PySem.EqMixed.ne_bool_str (fin_bl I q (by simp))
    | _ => exact absurd (show false = true from hs) Bool.false_ne_true
  | int i =>
    obtain ⟨t, rfl⟩ := rx
    cases y with
    | non => cases ry; exact PySem.EqNone.ne_int_none (fin_bl I q (by simp))
    | int j => obtain ⟨t', rfl⟩ := ry; exact ne_int (fin_bl I q (congrArg not dec_int))
    | str j => obtain ⟨t', rfl⟩ := ry; exact PySem.EqMixed.ne_int_str (fin_bl I q (by simp))
    | _ => exact absurd (show false = true from hs) Bool.false_ne_true
  | str i =>
    obtain ⟨t, rfl⟩ := rx
    cases y with
    | non => cases ry; exact PySem.EqNone.ne_str_none (fin_bl I q (by simp))
    | bl j => cases ry; exact PySem.EqMixed.ne_str_bool (fin_bl I q (by simp))
    | int j => obtain ⟨t', rfl⟩ := ry; exact PySem.EqMixed.ne_str_int (fin_bl I q (by simp))
    | str j => obtain ⟨t', rfl⟩ := ry; exact ne_str (fin_bl I q (congrArg not dec_str))
    | _ => exact absurd (show false = true from hs) Bool.false_ne_true
  | byt i =>
    obtain ⟨t, rfl⟩ := rx
    cases y with
    | byt j => obtain ⟨t', rfl⟩ := ry; exact PySem.W.ne_bytes (fin_bl I q (congrArg not dec_byt))
    | _ => exact absurd (show false = true from hs) Bool.false_ne_true
  | _ => cases y <;> exact absurd (show false = true from hs) Bool.false_ne_true

theorem op_lt : OpR X (compareOp .Lt) (rI0 fun i j => .bl (decide (i < j))) := opB0 fun _ _ _ _ _ _ _ q => lt_int q
theorem op_le : OpR X (compareOp .LtE) (rI0 fun i j => .bl (decide (i ≤ j))) := opB0 fun _ _ _ _ _ _ _ q => le_int q
theorem op_gt : OpR X (compareOp .Gt) (rI0 fun i j => .bl (decide (j < i))) := opB0 fun _ _ _ _ _ _ _ q => gt_int q
theorem op_ge : OpR X (compareOp .GtE) (rI0 fun i j => .bl (decide (j ≤ i))) := opB0 fun _ _ _ _ _ _ _ q => ge_int q
theorem op_notN : OpR X (compareOp .IsNot) (fun x y H Q => y = .non ∧ Q (.bl (!decide (x = .non))) H) := by
  intro pins s σ H x y v u Q I rx ry h
  obtain ⟨rfl, q⟩ := h
  cases ry
  refine isnot_none_gen (fin_bl I q ?_)
  cases x <;> first
    | (cases rx; rfl)
    | (obtain ⟨t, rfl⟩ := rx; rfl)

/-- two rules for one operation: by cases -/
theorem OpR.or {f : Value → Value → Sem Value} {r r' : R2} (h : OpR X f r) (h' : OpR X f r') : OpR X f (fun x y H Q => r x y H Q ∨ r' x y H Q) := by
  intro pins s σ H x y v u Q I rx ry q
  rcases q with q | q
  · exact h pins s σ H x y v u Q I rx ry q
  · exact h' pins s σ H x y v u Q I rx ry q

theorem nomark (b : Expr) {op : CmpOp} (h : op ≠ .In := by decide) (h2 : op ≠ .NotIn := by decide) : behindInMarks op b = false := by
  have e1 : (op == CmpOp.In) = false := by cases op <;> first | rfl | exact absurd rfl h
  have e2 : (op == CmpOp.NotIn) = false := by cases op <;> first | rfl | exact absurd rfl h2
  cases b <;> simp [behindInMarks, e1, e2]
/-- a comparison as a value; hm: nomark b, or (for in, not in) by with_unfolding_all rfl -/
theorem pe_cmpR {op : CmpOp} {r : R2} (ho : OpR X (compareOp op) r) (ha : PE X a ta) (hb : PE X b tb) (hm : behindInMarks op b = false) : PE X (.Compare a [op] [b] pos) (tOp r ta tb) := by
  intro pins s σ H Q I h
  exact wpAny_Compare1 (binT ha hb I h fun v u s2 x y H2 I2 rx ry q => ho pins s2 σ H2 x y v u Q I2 rx ry q) hm
/-- a reading of a value as a test -/
def tTest (t : TE) : TT := fun σ H Q => t σ H fun x H' => ∃ k, x = .bl k ∧ Q k H'
theorem pt_cmpR {op : CmpOp} {r : R2} (ho : OpR X (compareOp op) r) (ha : PE X a ta) (hb : PE X b tb) (hm : behindInMarks op b = false) : PT X (.Compare a [op] [b] pos) (tTest (tOp r ta tb)) := by
  intro pins s σ H Q I h
  refine wpAny_isTrue_Compare1 (thn (ha pins s σ H _ I h) fun v s1 ⟨x, H1, I1, r1, q1⟩ => thn (hb pins s1 σ H1 _ I1 q1) fun u s2 ⟨y, H2, I2, r2, q2⟩ =>
    thn (ho pins s2 σ H2 x y v u _ I2 r1 r2 q2) fun c s3 ⟨z, H3, I3, r3, k, e, q3⟩ => ?_) hm
  subst e
  cases r3
  exact wpAny_truthy_bool ⟨H3, I3, q3⟩
/-- a op1 b op2 c -/
def tChain (r r' : R2) (ta tb tc : TE) : TE := fun σ H Q => ta σ H fun x H1 => tb σ H1 fun y H2 => r x y H2 fun z H3 => ∃ k, z = .bl k ∧
  (if k = true then tc σ H3 fun w' H4 => r' y w' H4 Q else Q (.bl false) H3)
theorem pe_chain {op op' : CmpOp} {r r' : R2} (ho : OpR X (compareOp op) r) (ho' : OpR X (compareOp op') r') (ha : PE X a ta) (hb : PE X b tb) (hc : PE X c tc)
    (hm : lastMarks [op, op'] [b, c] = false := by with_unfolding_all rfl) : PE X (.Compare a [op, op'] [b, c] pos) (tChain r r' ta tb tc) := by
  intro pins s σ H Q I h
  refine Compare_chain (thn (ha pins s σ H _ I h) fun v s1 ⟨x, H1, I1, r1, q1⟩ => chain_link (thn (hb pins s1 σ H1 _ I1 q1) fun u s2 ⟨y, H2, I2, r2, q2⟩ =>
    thn (ho pins s2 σ H2 x y v u _ I2 r1 r2 q2) fun d s3 ⟨z, H3, I3, r3, k, e, q3⟩ => ?_)) hm
  subst e
  cases r3
  refine wpAny_truthy_bool ?_
  cases k with
  | false => exact ite_ff ⟨.bl false, H3, I3, rfl, q3⟩
  | true => exact ite_tt (chain_last (thn (hc pins s3 σ H3 _ I3 q3) fun w' s4 ⟨z', H4, I4, r4, q4⟩ => ho' pins s4 σ H4 y z' u w' Q I4 r2 r4 q4))
theorem pt_chain {op op' : CmpOp} {r r' : R2} (ho : OpR X (compareOp op) r) (ho' : OpR X (compareOp op') r') (ha : PE X a ta) (hb : PE X b tb) (hc : PE X c tc)
    (hm : lastMarks [op, op'] [b, c] = false := by with_unfolding_all rfl) : PT X (.Compare a [op, op'] [b, c] pos) (tTest (tChain r r' ta tb tc)) := by
  intro pins s σ H Q I h
  refine isTrue_chain (thn (ha pins s σ H _ I h) fun v s1 ⟨x, H1, I1, r1, q1⟩ => test_link (thn (hb pins s1 σ H1 _ I1 q1) fun u s2 ⟨y, H2, I2, r2, q2⟩ =>
    thn (ho pins s2 σ H2 x y v u _ I2 r1 r2 q2) fun d s3 ⟨z, H3, I3, r3, k, e, q3⟩ => ?_)) hm
  subst e
  cases r3
  refine wpAny_truthy_bool ?_
  cases k with
  | false =>
    obtain ⟨k', e', q'⟩ := q3
    cases e'
    exact ite_ff ⟨H3, I3, q'⟩
  | true =>
    refine ite_tt (test_last (thn (hc pins s3 σ H3 _ I3 q3) fun w' s4 ⟨z', H4, I4, r4, q4⟩ => thn (ho' pins s4 σ H4 y z' u w' _ I4 r2 r4 q4) fun d' s5 ⟨z2, H5, I5, r5, k2, e2, q5⟩ => ?_))
    subst e2
    cases r5
    exact wpAny_truthy_bool ⟨H5, I5, q5⟩

/-! ### truth -/
theorem line63 : (sizeLine : Nat) < 2 ^ 63 := by rw [sizeLine_eq]; decide
/-! ### strs and bytes -/
/-! ### scalar builtins, by CallR -/
theorem vals1 {x : V} {us : List Value} (r : Vals [x] us) : ∃ u, us = [u] ∧ RelV x u := by
  cases r with
  | cons r1 r2 => cases r2; exact ⟨_, rfl, r1⟩
theorem call_abs : CallR X (.builtin "abs") (fun xs H Q => ∃ i, xs = [.int i] ∧ Q (.int (if i < 0 then -i else i)) H) := by
  intro pins s σ H xs us Q I r h
  obtain ⟨i, rfl, q⟩ := h
  obtain ⟨u, rfl, t, rfl⟩ := vals1 r
  exact call_abs_int fun u tk => ⟨.int (if i < 0 then -i else i), H, I.tok _, ⟨_, rfl⟩, q⟩
end
end L2

namespace L2
open PySem PySem.Spec PyProof.Rows

/-! ### an instance, its attributes a map -/
structure ObjM (h : Heap) (x dx C : Addr) (mA : Str → Option Value) : Prop where
  obj : h.get? x = some (PySem.W.instObj C dx)
  ns : h.Ns1 dx mA
  ne : dx ≠ x

theorem lookIn_ns {h : Heap} {dx : Addr} {mA : Str → Option Value} (n : h.Ns1 dx mA) : ∃ od, h.get? dx = some od ∧ ∀ name, PySem.W.lookIn name od = some (mA name) := by
  obtain ⟨o, es, ep, ho, hd, hk, _, hm⟩ := n
  refine ⟨o, ho, fun name => ?_⟩
  have e := hm name
  unfold nsFind findBy at e
  rw [← Array.find?_toList] at e
  unfold PySem.W.lookIn
  rw [hd]
  dsimp only
  split
  · rename_i y q
    rw [q] at e
    exact congrArg some e
  · rename_i q
    rw [q] at e
    have a : es.toList.any (·.refKey) = false := by
      rw [List.any_eq_false]
      intro y hy
      obtain ⟨z, t, hkey⟩ := hk y (Array.mem_toList_iff.mp hy)
      simp [DictEntry.refKey, hkey]
    have a' : ¬ es.toList.any (·.refKey) = true := by rw [a]; exact Bool.false_ne_true
    rw [if_neg a']
    exact congrArg some e

theorem ObjM.look {h : Heap} {x dx C : Addr} {mA : Str → Option Value} (I : ObjM h x dx C mA) : ∃ od, PySem.W.InstAt h x (PySem.W.instObj C dx) C (some od) ∧ ∀ name, PySem.W.lookIn name od = some (mA name) :=
  let ⟨od, ho, hl⟩ := lookIn_ns I.ns
  ⟨od, ⟨I.obj, rfl, rfl, ho⟩, hl⟩

section
variable {prog : Program} {w : World} {A : Around} {E : Value → Shared → Prop} {s : Shared} {K : PySem.W.Frag} {x dx C f : Addr} {mA : Str → Option Value} {name : Str} {v : Value}

theorem get_map {expr : Bool} {Q : Value → Shared → Prop} (X : K.In s.heap) (I : ObjM s.heap x dx C mA) (hg : PySem.W.plainGet K C name = true) (hh : PySem.W.hasDictIn K C = true)
    (ha : PySem.W.findIn K (.ref C) name = some none) (hv : mA name = some v) (hv' : PySem.W.handedIn v = true) (h : Q v { s with toks := s.toks + 1 }) :
    wpAny (model prog w) A (getAttr (.ref x) name expr) Q E s := by
  obtain ⟨od, J, hl⟩ := I.look
  exact PySem.W.get_value X J (PySem.W.plainGet_of hg).1 (PySem.W.findObj_own hh ha rfl (by rw [hl, hv])) hv' h

theorem get_meth {pl : Sem Bool} {Q : Value × List Value → Shared → Prop} (X : K.In s.heap) (I : ObjM s.heap x dx C mA) (hg : PySem.W.plainGet K C name = true)
    (hf : PySem.W.findIn K (.ref C) name = some (some (.ref f))) (ht : PySem.W.isFn K (.ref f) = true) (hv : mA name = none) (h : Q (.ref f, [.ref x]) s) :
    wpAny (model prog w) A (getMethod (.ref x) name pl) Q E s := by
  obtain ⟨od, J, hl⟩ := I.look
  exact PySem.W.method_fn X J (PySem.W.plainGet_of hg).1 (PySem.W.plainGet_of hg).2 hf (beq_iff_eq.mp ht) (by show (PySem.W.lookIn name od).map (·.isSome) = some false; rw [hl, hv]; rfl) h

theorem set_map {ns : List Str} {Q : Unit → Shared → Prop} (X : K.In s.heap) (I : ObjM s.heap x dx C mA)
    (hs : PySem.W.findIn K (.ref C) "__setattr__" = some (some (.builtin "object.__setattr__"))) (hp : PySem.W.plainOver K C = true) (ht : PySem.W.takerIn K C name = some none) (hh : PySem.W.hasDictIn K C = true)
    (hw : PySem.Within mA ns) (hsz : ns.length ≤ sizeLine)
    (h : ∀ h', ObjM h' x dx C (fun y => if y = name then some v else mA y) → Heap.SameBut dx s.heap h' → Q () { s with heap := h', toks := s.toks + 2 }) :
    wpAny (model prog w) A (setAttr (.ref x) name v) Q E s := by
  obtain ⟨od, J, hl⟩ := I.look
  refine PySem.W.set_plain X J hs (PySem.W.osa_open (s := { s with toks := s.toks + 1 }) (r := none) X J hp ht fun b => ?_)
  obtain ⟨cd, hc, hd'⟩ := PySem.W.any_some hh
  have hx : s.heap.get? x = some ⟨.ref C, some dx, .plain, #[]⟩ := I.obj
  refine wpAny_bind (wpAny_pure (wpAny_bind (wpAny_bind (wpAny_loadPart hx (wpAny_bind (PySem.W.Looks.here (s := { s with toks := s.toks + 1 }) (PySem.W.looks_clsIn X hc) ?_))))))
  rw [hd']
  refine wpAny_pure (a := some dx) (wpAny_bind (wpAny_pure (wpAny_bind ?_)))
  refine wpAny_nsSet1 (s := { s with toks := s.toks + 1 }) I.ns fun h' hn2 hs2 => ?_
  obtain ⟨oD, esD, epD, hoD, hdD, hcD⟩ := hn2.count (PySem.Within.cons name v hw)
  refine wpAny_bind (wpAny_lookBehind hoD (by rw [hdD]; exact pastItsLine_dict (Nat.le_trans hcD (by rw [List.length_cons]; omega))) ?_)
  exact wpAny_pure (h _ ⟨(hs2.2 _ (Ne.symm I.ne)).trans I.obj, hn2, I.ne⟩ hs2)

/-- C(..): the dict at the heap's end, the instance behind it; then its __init__ -/
theorem make_map {R : Result → Shared → Prop} {vs : List Value} {kw : List (Str × Value)} (X : K.In s.heap) (hm : PySem.W.makesIn K C = true)
    (hi : PySem.W.findIn K (.ref C) "__init__" = some (some (.ref f))) (hf : PySem.W.typeIn K (.ref f) = some (.type "function"))
    (h : codeAny (model prog w) (A.under (.builtin "type.__call__" ⟨.ref C :: vs, kw⟩)) (.call (.ref f) ⟨.ref (s.heap.objs.size + 1) :: vs, kw⟩) (PySem.W.InitBack (s.heap.objs.size + 1) R)
      { s with heap := (s.heap.push PySem.W.emptyDict).push (PySem.W.instObj C s.heap.objs.size) }) :
    codeAny (model prog w) A (.call (.ref C) ⟨vs, kw⟩) R s := by
  obtain ⟨hh, g, d, t, os⟩ := s
  exact PySem.W.make_core (PySem.W.makes_of X hm) (PySem.W.looks_findIn X hi) (fun self => PySem.W.bind_fn X self hf) (.inl rfl) h
end

/-! ### the attributes as a list of pairs -/
def putF (f : Str) (v : V) : List (Str × V) → List (Str × V)
  | [] => [(f, v)]
  | (g, x) :: r => if g = f then (g, v) :: r else (g, x) :: putF f v r
theorem lookup_putF (f g : Str) (v : V) : ∀ fs : List (Str × V), (putF f v fs).lookup g = if g = f then some v else fs.lookup g
  | [] => by
    show List.lookup g [(f, v)] = _
    by_cases h : g = f
    · have hb : (g == f) = true := beq_iff_eq.mpr h
      simp only [List.lookup, hb, if_pos h]
    · have hb : (g == f) = false := beq_eq_false_iff_ne.mpr h
      simp only [List.lookup, hb, if_neg h]
  | (k, x) :: r => by
    have ih := lookup_putF f g v r
    rw [show putF f v ((k, x) :: r) = (if k = f then (k, v) :: r else (k, x) :: putF f v r) from rfl]
    by_cases hk : k = f
    · rw [if_pos hk]
      by_cases h : g = k
      · have hb : (g == k) = true := beq_iff_eq.mpr h
        simp only [List.lookup, hb, if_pos (h.trans hk)]
      · have hb : (g == k) = false := beq_eq_false_iff_ne.mpr h
        simp only [List.lookup, hb, if_neg (fun e : g = f => h (e.trans hk.symm))]
    · rw [if_neg hk]
      by_cases h : g = k
      · have hb : (g == k) = true := beq_iff_eq.mpr h
        simp only [List.lookup, hb, if_neg (fun e : g = f => hk (h.symm.trans e))]
      · have hb : (g == k) = false := beq_eq_false_iff_ne.mpr h
        simp only [List.lookup, hb]
        exact ih
theorem keys_putF (f : Str) (v : V) : ∀ fs : List (Str × V), f ∈ (putF f v fs).map (·.1) ∧ ∀ g, g ∈ fs.map (·.1) → g ∈ (putF f v fs).map (·.1)
  | [] => ⟨by simp [putF], fun g h => by simp at h⟩
  | (k, x) :: r => by
    obtain ⟨i1, i2⟩ := keys_putF f v r
    rw [show putF f v ((k, x) :: r) = (if k = f then (k, v) :: r else (k, x) :: putF f v r) from rfl]
    by_cases hk : k = f
    · rw [if_pos hk]
      subst hk
      exact ⟨by simp, fun g h => by simpa using h⟩
    · rw [if_neg hk]
      refine ⟨?_, fun g h => ?_⟩
      · rw [List.map_cons]
        exact List.mem_cons_of_mem _ i1
      · rw [List.map_cons] at h ⊢
        rcases List.mem_cons.mp h with e | e
        · exact List.mem_cons.mpr (.inl e)
        · exact List.mem_cons_of_mem _ (i2 g e)
theorem length_putF (f : Str) (v : V) : ∀ fs : List (Str × V), (putF f v fs).length ≤ fs.length + 1
  | [] => by simp [putF]
  | (k, x) :: r => by
    have ih := length_putF f v r
    rw [show putF f v ((k, x) :: r) = (if k = f then (k, v) :: r else (k, x) :: putF f v r) from rfl]
    by_cases hk : k = f
    · rw [if_pos hk, List.length_cons, List.length_cons]; omega
    · rw [if_neg hk, List.length_cons, List.length_cons]; omega

theorem RelO.some_of {v : V} {o : Option Value} (r : RelO (some v) o) : ∃ u, o = some u ∧ RelV v u := by
  cases o with
  | none => exact (show False from r).elim
  | some u => exact ⟨u, rfl, r⟩
theorem RelO.none_of {o : Option Value} (r : RelO none o) : o = none := by
  cases o with
  | none => rfl
  | some u => exact (show False from r).elim
theorem handed_of {v : V} {u : Value} (r : RelV v u) : PySem.W.handedIn u = true := by
  cases v with
  | non => cases (show u = Value.none from r); rfl
  | bl b => cases (show u = Value.bool b from r); rfl
  | int i => obtain ⟨t, e⟩ := (show ∃ t, u = Value.int i t from r); cases e; rfl
  | str x => obtain ⟨t, e⟩ := (show ∃ t, u = Value.str x t from r); cases e; rfl
  | byt b => obtain ⟨t, e⟩ := (show ∃ t, u = Value.bytes b t from r); cases e; rfl
  | flt b => obtain ⟨t, e⟩ := (show ∃ t, u = Value.float b t from r); cases e; rfl
  | ref a => cases (show u = Value.ref a from r); rfl
  | ty n => cases (show u = Value.type n from r); rfl

section
variable {P : Program} {w : World} {H H' : Hp} {h h' : Heap} {a C dx : Addr} {fs fs' : List (Str × V)}
theorem ins_get (hok : HOk P w H h) (e : H a = some (.ins C dx fs)) : ∃ mA, ObjM h a dx C mA ∧ (∀ f, RelO (fs.lookup f) (mA f)) ∧ PySem.Within mA (fs.map (·.1)) ∧ fs.length ≤ 1000 ∧ H dx = some (.own a) := by
  obtain ⟨d, z, ne, ob, mA, n, r, q⟩ := (show ObjOk P w H h a (.ins C dx fs) from hok a _ e)
  exact ⟨mA, ⟨ob, n, ne⟩, r, q, z, d⟩
end

/-! ### what of the text a class must have -/
structure Cls (K : PySem.W.Frag) (C : Addr) : Prop where
  pg : PySem.W.plainGet K C Str.empty = true
  hd : PySem.W.hasDictIn K C = true
  po : PySem.W.plainOver K C = true
  sa : PySem.W.findIn K (.ref C) "__setattr__" = some (some (.builtin "object.__setattr__"))
theorem Cls.get {K : PySem.W.Frag} {C : Addr} (c : Cls K C) (f : Str) : PySem.W.plainGet K C f = true := c.pg
/-- no class of it has the name -/
def NoAttr (K : PySem.W.Frag) (C : Addr) (f : Str) : Prop := PySem.W.findIn K (.ref C) f = some none
theorem NoAttr.taker {K : PySem.W.Frag} {C : Addr} {f : Str} (n : NoAttr K C f) : PySem.W.takerIn K C f = some none := by
  unfold PySem.W.takerIn
  rw [show PySem.W.findIn K (.ref C) f = some none from n]
  rfl
/-- a constant of the class -/
structure Con (K : PySem.W.Frag) (C : Addr) (f : Str) (v : V) (u : Value) : Prop where
  at_ : PySem.W.findIn K (.ref C) f = some (some u)
  rel : RelV v u
  get : PySem.W.specialIn K u "__get__" = some none
  cp : PySem.W.copiedNames.contains f = false
/-- a method: a plain def of the class or of one above it -/
structure Meth (K : PySem.W.Frag) (C : Addr) (m : Str) (f : Addr) : Prop where
  at_ : PySem.W.findIn K (.ref C) m = some (some (.ref f))
  fn : PySem.W.isFn K (.ref f) = true
  kp : PySem.W.keepIn K (.ref f) = true

section
variable {X : Cx} {pins : List (Addr × Obj)} {σ : St} {H : Hp} {s : Shared} {a C dx : Addr} {fs : List (Str × V)} {f : Str} {v : V} {A : Around} {E : Value → Shared → Prop}

theorem getattr_ok {b : Bool} {Q : Value → Shared → Prop} (I : Inv X pins σ H s) (e : H a = some (.ins C dx fs)) (c : Cls X.K C) (n : NoAttr X.K C f) (l : fs.lookup f = some v)
    (h : ∀ u s', Inv X pins σ H s' → RelV v u → Q u s') : wpAny (model X.prog X.w) A (getAttr (.ref a) f b) Q E s := by
  obtain ⟨mA, O, r, _, _, _⟩ := ins_get I.hok e
  obtain ⟨u, hu, ru⟩ := RelO.some_of (v := v) (o := mA f) (by rw [← l]; exact r f)
  exact get_map I.kIn O (c.get f) c.hd n hu (handed_of ru) (h u _ (I.tok _) ru)

theorem getmeth_ok {m : Str} {g : Addr} {pl : Sem Bool} {Q : Value × List Value → Shared → Prop} (I : Inv X pins σ H s) (e : H a = some (.ins C dx fs)) (c : Cls X.K C) (k : Meth X.K C m g) (l : fs.lookup m = none)
    (h : Q (.ref g, [.ref a]) s) : wpAny (model X.prog X.w) A (getMethod (.ref a) m pl) Q E s := by
  obtain ⟨mA, O, r, _, _, _⟩ := ins_get I.hok e
  have hn : mA m = none := RelO.none_of (by rw [← l]; exact r m)
  exact get_meth I.kIn O (c.get m) k.at_ k.fn hn h

theorem setattr_ok {y : V} {u : Value} {Q : Unit → Shared → Prop} (I : Inv X pins σ H s) (e : H a = some (.ins C dx fs)) (c : Cls X.K C) (n : NoAttr X.K C f) (hl : fs.length < 1000) (ry : RelV y u)
    (h : ∀ s', Inv X pins σ (upd H a (.ins C dx (putF f y fs))) s' → Q () s') : wpAny (model X.prog X.w) A (setAttr (.ref a) f u) Q E s := by
  obtain ⟨mA, O, r, wi, _, ho⟩ := ins_get I.hok e
  have hz : (fs.map (·.1)).length ≤ sizeLine := by rw [List.length_map, sizeLine_eq]; omega
  refine set_map I.kIn O c.sa c.po n.taker c.hd wi hz fun h' O' sb => h _ ?_
  have hd : ∃ o, h'.get? dx = some o := let ⟨o, _, _, e', _⟩ := O'.ns; ⟨o, e'⟩
  refine I.write (x := a) (e := dx) (by rw [e]; exact True.intro) (.inr ho) (fun b q hb z => (sb.2 b hb).trans z) hd ?_
  refine ⟨by rw [upd_ne O.ne]; exact ho, ?_, O.ne, O'.obj, _, O'.ns, fun g => ?_, fun g hg => ?_⟩
  · have := length_putF f y fs; omega
  · show RelO ((putF f y fs).lookup g) (if g = f then some u else mA g)
    rw [lookup_putF]
    by_cases q : g = f
    · rw [if_pos q, if_pos q]; exact ry
    · rw [if_neg q, if_neg q]; exact r g
  · by_cases q : g = f
    · rw [q]; exact (keys_putF f y fs).1
    · refine (keys_putF f y fs).2 g (wi g fun z => hg ?_)
      show (if g = f then some u else mA g) = none
      rw [if_neg q]; exact z

/-- a new instance, tracked, without attributes -/
theorem Inv.made (I : Inv X pins σ H s) : Inv X pins σ (upd (upd H s.heap.objs.size (.own (s.heap.objs.size + 1))) (s.heap.objs.size + 1) (.ins C s.heap.objs.size []))
    { s with heap := (s.heap.push PySem.W.emptyDict).push (PySem.W.instObj C s.heap.objs.size) } := by
  have e1 : (s.heap.push PySem.W.emptyDict).get? s.heap.objs.size = some PySem.W.emptyDict := Heap.get?_push_size s.heap rfl
  have e2 : ((s.heap.push PySem.W.emptyDict).push (PySem.W.instObj C s.heap.objs.size)).get? (s.heap.objs.size + 1) = some (PySem.W.instObj C s.heap.objs.size) := by
    have := Heap.get?_push_size (s.heap.push PySem.W.emptyDict) (o := PySem.W.instObj C s.heap.objs.size) rfl
    rwa [Heap.size_push] at this
  have e3 : (s.heap.push PySem.W.emptyDict).Ns s.heap.objs.size (fun _ => none) := ⟨PySem.W.emptyDict, #[], _, e1, rfl, (fun e he => absurd he (by simp)), fun _ => rfl⟩
  have I1 := I.laid (a := s.heap.objs.size) (o := .own (s.heap.objs.size + 1)) (h' := s.heap.push PySem.W.emptyDict) (t' := s.toks) (fun b u q => Heap.get?_push_of_some _ q) (Nat.le_refl _) ⟨_, e1⟩
  refine I1.laid (a := s.heap.objs.size + 1) (o := .ins C s.heap.objs.size []) (t' := s.toks) (fun b u q => Heap.get?_push_of_some _ q) (Nat.le_of_eq (Heap.size_push _ _)) ?_
  have ne : s.heap.objs.size ≠ s.heap.objs.size + 1 := Nat.ne_of_lt (Nat.lt_succ_self _)
  refine ⟨by rw [upd_ne ne, upd_same], Nat.zero_le _, ne, e2, fun _ => none, (Heap.Ns1.of_empty e3).at fun o q => Heap.get?_push_of_some _ q, fun _ => True.intro, fun y hy => absurd rfl hy⟩

/-- e.f where nothing but the object is asked: through attributeBase (super) and the last hold -/
theorem attr_of {prog : Program} {w : World} {env : Env} {e : Expr} {f : Str} {pos : Pos} {s : Shared} {Q : Value → Shared → Prop} (hb : attributeBase e f env (eval e env) = eval e env)
    (h : wpAny (model prog w) A (eval e env) (fun o s₁ => wpAny (model prog w) A (getAttr o f true) Q E s₁) E s) : wpAny (model prog w) A (eval (.Attribute e f pos) env) Q E s :=
  Attribute_any_ h (by rw [arm_eval_Attribute, hb])
end

/-! ### readings and rules -/
/-- e.f, an attribute of the instance -/
def tFld (K : PySem.W.Frag) (ta : TE) (f : Str) : TE := fun σ H Q => ta σ H fun x H1 => ∃ a C dx fs v, x = .ref a ∧ H1 a = some (.ins C dx fs) ∧ Cls K C ∧ NoAttr K C f ∧ fs.lookup f = some v ∧ Q v H1
/-- e.f = value -/
def sFld (K : PySem.W.Frag) (ta tv : TE) (f : Str) : TS := fun D σ H => tv σ H fun y H1 => ta σ H1 fun x H2 => ∃ a C dx fs, x = .ref a ∧ H2 a = some (.ins C dx fs) ∧ Cls K C ∧ NoAttr K C f ∧ fs.length < 1000 ∧
  D.nx σ (upd H2 a (.ins C dx (putF f y fs)))
section
variable {X : Cx} {o e value : Expr} {f : Str} {pos pos' tpos : Pos} {ta tv : TE}
theorem pe_fld (he : PE X e ta) (hb : attributeBase e f X.env (eval e X.env) = eval e X.env) : PE X (.Attribute e f pos) (tFld X.K ta f) := by
  intro pins s σ H Q I h
  refine attr_of hb (thn (he pins s σ H _ I h) fun u s1 ⟨x, H1, I1, rx, a, C, dx, fs, v, ex, ea, c, n, l, q⟩ => ?_)
  subst ex
  obtain rfl : u = Value.ref a := rx
  exact getattr_ok I1 ea c n l fun u' s2 I2 ru => ⟨v, H1, I2, ru, q⟩
theorem ps_fld (ha : PE X o ta) (hv : PE X value tv) (hs : swapsWith value (some (.Attribute o f pos')) pos.line X.env = pure false) : PS X (.Assign [.Attribute o f pos'] value pos) (sFld X.K ta tv f) := by
  intro pins s σ H D I h
  refine plainObj_wpAny_Assign_Attribute (thn (hv pins s σ H _ I h) fun u s1 ⟨y, H1, I1, ry, q⟩ => thn (ha pins s1 σ H1 _ I1 q) fun ov s2 ⟨x, H2, I2, rx, a, C, dx, fs, ex, ea, c, n, l, q2⟩ => ?_) hs
  subst ex
  obtain rfl : ov = Value.ref a := rx
  exact setattr_ok I2 ea c n l ry fun s3 I3 => ⟨σ, _, I3, q2⟩
end

/-! ### isinstance -/
section
variable {X : Cx} {pins : List (Addr × Obj)} {σ : St} {H : Hp} {s : Shared} {A : Around} {E : Value → Shared → Prop} {Q : Value → Shared → Prop} {c : Value} {b : Bool}
/-- the type of a value, as the fragment's deciders take it; for an instance its class -/
inductive TyOf (K : PySem.W.Frag) (H : Hp) : V → Value → Prop where
  | non : TyOf K H .non (.type "NoneType")
  | bl (x : Bool) : TyOf K H (.bl x) (.type "bool")
  | int (i : Int) : TyOf K H (.int i) (.type "int")
  | str (x : Str) : TyOf K H (.str x) (.type "str")
  | flt (x : UInt64) : TyOf K H (.flt x) (.type "float")
  | lst {a : Addr} {xs : List V} (e : H a = some (.lst xs)) : TyOf K H (.ref a) (.type "list")
  | frz {a : Addr} {o : Obj} {xs : List V} (e : H a = some (.frz o (.lst xs))) : TyOf K H (.ref a) (.type "list")
  | tup {a : Addr} {xs : List V} (e : H a = some (.tup xs)) : TyOf K H (.ref a) (.type "tuple")
  | dK {a : Addr} {kvs : List (Key × V)} (e : H a = some (.dK kvs)) : TyOf K H (.ref a) (.type "dict")
  | dT {a : Addr} {kvs : List (List Key × V)} (e : H a = some (.dT kvs)) : TyOf K H (.ref a) (.type "dict")
  | ins {a C dx : Addr} {fs : List (Str × V)} (e : H a = some (.ins C dx fs)) (cl : Cls K C) (ha : PySem.W.findIn K (.ref C) "__class__" = some (some (.builtin "object.__class__")))
      (hn : PySem.W.specialIn K (.builtin "object.__class__") "__get__" = some (some (.builtin "getset_descriptor.__get__"))) (htk : PySem.W.takesIn K (.builtin "object.__class__") = some true)
      (hm : PySem.W.mroIn K C (.type "object") = some true) : TyOf K H (.ref a) (.ref C)
/-- isinstance(x, c) for one class c, a built-in or an own one: kitOne's answer -/
theorem isinst_ok {x : V} {u t : Value} (I : Inv X pins σ H s) (rx : RelV x u) (ty : TyOf X.K H x t) (e : PySem.W.kitOne X.K t c = some b) (h : ∀ tk, Q (.bool b) { s with toks := tk }) :
    wpAny (model X.prog X.w) A (call (.builtin "isinstance") [u, c]) Q E s := by
  cases ty with
  | non => cases (show u = Value.none from rx); exact PySem.W.kia_one PySem.W.kitx_none I.kIn True.intro e (fun z => nomatch z) h
  | bl y => cases (show u = Value.bool y from rx); exact PySem.W.kia_one PySem.W.kitx_bool I.kIn True.intro e (fun z => nomatch z) h
  | int i => obtain ⟨t, q⟩ := (show ∃ t, u = Value.int i t from rx); cases q; exact PySem.W.kia_one PySem.W.kitx_int I.kIn True.intro e (fun z => nomatch z) h
  | str y => obtain ⟨t, q⟩ := (show ∃ t, u = Value.str y t from rx); cases q; exact PySem.W.kia_one PySem.W.kitx_str I.kIn True.intro e (fun z => nomatch z) h
  | flt y => obtain ⟨t, q⟩ := (show ∃ t, u = Value.float y t from rx); cases q; exact PySem.W.kia_one PySem.W.kitx_float I.kIn True.intro e (fun z => nomatch z) h
  | @lst a xs ea =>
    cases (show u = Value.ref a from rx)
    obtain ⟨_, _, n, _, h1⟩ := (show ObjOk X.prog X.w H s.heap a (.lst xs) from I.hok a _ ea)
    exact PySem.W.kia_one PySem.W.kitx_list I.kIn ⟨_, h1, rfl⟩ e (fun z => nomatch z) h
  | @frz a ob xs ea =>
    cases (show u = Value.ref a from rx)
    obtain ⟨_, _, _, n, _, h1⟩ := (show ObjOk X.prog X.w H s.heap a (.frz ob (.lst xs)) from I.hok a _ ea)
    exact PySem.W.kia_one PySem.W.kitx_list I.kIn ⟨_, h1, rfl⟩ e (fun z => nomatch z) h
  | @tup a xs ea =>
    cases (show u = Value.ref a from rx)
    obtain ⟨_, _, _, p⟩ := (show ObjOk X.prog X.w H s.heap a (.tup xs) from I.hok a _ ea)
    obtain ⟨o, h1, h2, _⟩ := p
    exact PySem.W.kia_one PySem.W.kitx_tuple I.kIn ⟨o, h1, h2⟩ e (fun z => nomatch z) h
  | @dK a kvs ea =>
    cases (show u = Value.ref a from rx)
    obtain ⟨_, _, vs, _, p⟩ := (show ObjOk X.prog X.w H s.heap a (.dK kvs) from I.hok a _ ea)
    obtain ⟨o, es, ep, h1, h2, _⟩ := p
    exact PySem.W.kia_one PySem.W.kitx_dict I.kIn ⟨o, h1, h2.1⟩ e (fun z => nomatch z) h
  | @dT a kvs ea =>
    cases (show u = Value.ref a from rx)
    obtain ⟨_, _, xs, _, o, es, ep, h1, h2, _⟩ := (show ObjOk X.prog X.w H s.heap a (.dT kvs) from I.hok a _ ea)
    exact PySem.W.kia_one PySem.W.kitx_dict I.kIn ⟨o, h1, h2.1⟩ e (fun z => nomatch z) h
  | @ins a C dx fs ea cl ha hn htk hm =>
    cases (show u = Value.ref a from rx)
    obtain ⟨mA, O, _⟩ := ins_get I.hok ea
    obtain ⟨od, J, _⟩ := O.look
    exact PySem.W.kia_one (PySem.W.kitx_own (cl.get _) cl.hd ha hn htk hm) I.kIn J e (fun z => nomatch z) h
end
end L2

namespace L2
open PySem PySem.Spec PyProof.Rows

/-! ### room -/
structure Room (k : Nat) (A : Around) : Prop where
  hd : A.handled = none
  dp : A.depth + 3 * k + 5 < recursionLimit
  un : A.units + 16 * k + 200 < cLine
theorem Room.mono {j k : Nat} {A : Around} (r : Room k A) (h : j ≤ k) : Room j A := ⟨r.hd, by have := r.dp; omega, by have := r.un; omega⟩
theorem Room.deeper {k : Nat} {A : Around} (r : Room (k + 1) A) (env : Env) : Room k (A.deeper env) :=
  ⟨r.hd, by have := r.dp; show A.depth + 1 + 3 * k + 5 < _; omega, by have := r.un; show A.units + 3 + 16 * k + 200 < _; omega⟩
theorem Room.in1 {k : Nat} {A : Around} (r : Room (k + 1) A) : Room k A.in1 :=
  ⟨r.hd, by have := r.dp; show A.depth + 3 * k + 5 < _; omega, by have := r.un; show A.units + 1 + 16 * k + 200 < _; omega⟩
theorem make_depth {A : Around} {C : Addr} {us : List Value} {kw : List (Str × Value)} : (A.under (.builtin "type.__call__" ⟨.ref C :: us, kw⟩)).depth = A.depth + 1 := by
  first | rfl | simp [Around.under, Code.weight, Code.isCreation, Code.isGuard, Code.isCaller, Code.frames, Code.isFrame, guardIds]
theorem make_units {A : Around} {C : Addr} {us : List Value} {kw : List (Str × Value)} : (A.under (.builtin "type.__call__" ⟨.ref C :: us, kw⟩)).units = A.units + 1 := by
  first | rfl | simp [Around.under, Code.cUnits, Code.frames, Code.isFrame]
theorem Room.make {k : Nat} {A : Around} (r : Room (k + 1) A) (C : Addr) (us : List Value) (kw : List (Str × Value)) : Room k (A.under (.builtin "type.__call__" ⟨.ref C :: us, kw⟩)) :=
  ⟨r.hd, by have := r.dp; rw [make_depth]; omega, by have := r.un; rw [make_units]; omega⟩
theorem Room.depth {k : Nat} {A : Around} (r : Room k A) : A.depth < recursionLimit := by have := r.dp; omega
theorem Room.units {k : Nat} {A : Around} (r : Room k A) : A.units + 64 < cLine := by have := r.un; omega
/-! ### argument lists and displays -/
def tNil : TA := fun _ H Q => Q [] H
def tCons (ta : TE) (tr : TA) : TA := fun σ H Q => ta σ H fun x H1 => tr σ H1 fun xs H2 => Q (x :: xs) H2
section
variable {X : Cx} {e : Expr} {es : List Expr} {te : TE} {t : TA} {pos : Pos}
theorem pa_nil : PA X [] tNil := fun _ _ _ _ H Q I h => Calls.spliced_nil ⟨[], H, I, .nil, h⟩
theorem pa_cons (ha : PE X e te) (hr : PA X es t) (hs : starEach (e :: es) X.env = (false, eval e X.env) :: starEach es X.env := by rfl) : PA X (e :: es) (tCons te t) := by
  intro pos pins s σ H Q I h
  rw [hs]
  show wpAny _ _ (spliced ((false, eval e X.env) :: backTo pos (starEach es X.env))) _ _ s
  refine Calls.spliced_cons (thn (ha pins s σ H _ I h) fun u s1 ⟨x, H1, I1, r1, q1⟩ => ?_)
  exact thn (hr pos pins s1 σ H1 _ I1 q1) fun us s2 ⟨xs, H2, I2, r2, q2⟩ => ⟨x :: xs, H2, I2, .cons r1 r2, q2⟩

/-- a tuple, a list of written items -/
def tTup (t : TA) : TE := fun σ H Q => t σ H fun xs H1 => xs.length ≤ sizeLine ∧ ∀ p, H1 p = none → Q (.ref p) (upd H1 p (.tup xs))
def tLst (t : TA) : TE := fun σ H Q => t σ H fun xs H1 => xs.length ≤ sizeLine ∧ ∀ p, H1 p = none → Q (.ref p) (upd H1 p (.lst xs))
theorem pe_tup {x1} (h : PA X es t) : PE X (.Tuple es x1 pos) (tTup t) := by
  intro pins s σ H Q I hq
  refine wpAny_Tuple_spliced (thn (h pos pins s σ H _ I hq) fun us s1 ⟨xs, H1, I1, r, z, q⟩ => ⟨by rw [← r.length]; exact z, ?_⟩)
  have hf : H1 s1.heap.objs.size = none := I1.hok.fresh (Nat.le_refl _)
  refine ⟨.ref s1.heap.objs.size, upd H1 s1.heap.objs.size (.tup xs), I1.laid (t' := s1.toks) (fun b u e => Heap.get?_push_of_some _ e) (Nat.le_refl _) ?_, rfl, q _ hf⟩
  exact ⟨z, us, r, ⟨_, Heap.get?_push_size _ rfl, rfl, _, rfl⟩⟩
theorem pe_lst (h : PA X es t) : PE X (.List es pos) (tLst t) := by
  intro pins s σ H Q I hq
  refine wpAny_List_spliced (thn (h pos pins s σ H _ I hq) fun us s1 ⟨xs, H1, I1, r, z, q⟩ => ⟨by rw [← r.length]; exact z, ?_⟩)
  have hf : H1 s1.heap.objs.size = none := I1.hok.fresh (Nat.le_refl _)
  refine ⟨.ref s1.heap.objs.size, upd H1 s1.heap.objs.size (.lst xs), I1.laid (t' := s1.toks) (fun b u e => Heap.get?_push_of_some _ e) (Nat.le_refl _) ?_, rfl, q _ hf⟩
  exact ⟨z, us, 0, r, Heap.get?_push_size _ rfl⟩
end

/-! ### what a def promises -/
/-- a def's promise: the bound arguments in the parameters' order, the heap, the wanted end, the wanted exception -/
abbrev Sp := List V → Hp → VK → XK → Prop
/-- how an exception lies behind a call (file 08 gives it): the callers' frames, abstract heap and state ahead of the call, the wish, the exception, the state -/
abbrev CXT := List Env → Hp → Shared → XK → Value → Shared → Prop

/-- the state at a call -/
structure Env0 (P : Program) (w : World) (K : PySem.W.Frag) (mg : Str → Option Value) (base : Heap) (A : Around) (outer : List Env) (s : Shared) (H : Hp) : Prop where
  frames : A.frames = some outer
  mod : Mod K mg base
  bs : ∀ b o, base.get? b = some o → s.heap.get? b = some o ∧ H b = none
  bsz : base.objs.size ≤ s.heap.objs.size
  funs : s.heap.FunFrames base outer
  frf : ∀ b ∈ frs outer, H b = none
  hok : HOk P w H s.heap
  bare : AllBare s.gens
/-- a call's end -/
def CE (outer : List Env) (P : Program) (w : World) (H : Hp) (s : Shared) (Q : VK) (u : Value) (s' : Shared) : Prop :=
  ∃ v H', s'.os = s.os ∧ AllBare s'.gens ∧ Un (frs outer) [] H H' s.heap s'.heap ∧ HOk P w H' s'.heap ∧ RelV v u ∧ Q v H'
def CR (CX : CXT) (outer : List Env) (P : Program) (w : World) (H : Hp) (s : Shared) (Q : VK) (E : XK) (r : Result) (s' : Shared) : Prop :=
  match r with
  | .ok (.ret u) => CE outer P w H s Q u s'
  | .ok _ => False
  | .error e => CX outer H s E e s'
structure FnOk (P : Program) (w : World) (K : PySem.W.Frag) (mg : Str → Option Value) (base : Heap) (CX : CXT) (k : Nat) (f : Addr) (fd : FuncData) (ps : List Str) (sp : Sp) : Prop where
  len : ∀ vs H Q E, sp vs H Q E → vs.length = ps.length
  run : ∀ (A : Around) (outer : List Env) (s : Shared) (H : Hp) (args : Args) (us : List Value) (vs : List V) (Q : VK) (E : XK), Room k A → Env0 P w K mg base A outer s H → BindsTo s fd args (ps.zip us) → Vals vs us → sp vs H Q E →
    codeAny (model P w) A (.call (.ref f) args) (CR CX outer P w H s Q E) s
theorem FnOk.mono {P : Program} {w : World} {K : PySem.W.Frag} {mg : Str → Option Value} {base : Heap} {CX : CXT} {j k : Nat} {f : Addr} {fd : FuncData} {ps : List Str} {sp : Sp} (F : FnOk P w K mg base CX j f fd ps sp) (h : j ≤ k) :
    FnOk P w K mg base CX k f fd ps sp := ⟨F.len, fun A outer s H args us vs Q E hr => F.run A outer s H args us vs Q E (hr.mono h)⟩
/-- a weaker promise -/
theorem FnOk.imp {P : Program} {w : World} {K : PySem.W.Frag} {mg : Str → Option Value} {base : Heap} {CX : CXT} {k : Nat} {f : Addr} {fd : FuncData} {ps : List Str} {sp sp' : Sp} (F : FnOk P w K mg base CX k f fd ps sp)
    (h : ∀ vs H Q E, sp' vs H Q E → sp vs H Q E) : FnOk P w K mg base CX k f fd ps sp' :=
  ⟨fun vs H Q E q => F.len vs H Q E (h _ _ _ _ q), fun A outer s H args us vs Q E hr he hb hv hs => F.run A outer s H args us vs Q E hr he hb hv (h _ _ _ _ hs)⟩

theorem Env0.make {P : Program} {w : World} {K : PySem.W.Frag} {mg : Str → Option Value} {base : Heap} {A : Around} {outer : List Env} {s : Shared} {H : Hp} (e : Env0 P w K mg base A outer s H) (C : Addr) (us : List Value) (kw : List (Str × Value)) :
    Env0 P w K mg base (A.under (.builtin "type.__call__" ⟨.ref C :: us, kw⟩)) outer s H := ⟨by first | exact e.frames | (simpa [Around.under, Code.envs, Code.isFrame, pushEnvs] using e.frames), e.mod, e.bs, e.bsz, e.funs, e.frf, e.hok, e.bare⟩
theorem Env0.in1 {P : Program} {w : World} {K : PySem.W.Frag} {mg : Str → Option Value} {base : Heap} {A : Around} {outer : List Env} {s : Shared} {H : Hp} (e : Env0 P w K mg base A outer s H) :
    Env0 P w K mg base A.in1 outer s H := ⟨e.frames, e.mod, e.bs, e.bsz, e.funs, e.frf, e.hok, e.bare⟩

section
variable {X : Cx} {pins : List (Addr × Obj)} {σ : St} {H : Hp} {s s' : Shared}
/-- from a body: what a callee wants -/
theorem Inv.env0 (I : Inv X pins σ H s) : Env0 X.prog X.w X.K X.mg X.base X.A X.stack s H :=
  ⟨I.ok.frames, I.ok.mod, I.bs, Nat.le_trans I.ok.bsz I.sz, I.stack, I.stkFree, I.hok, I.bare⟩
/-- behind a call -/
theorem Inv.after {Q : VK} {u : Value} (I : Inv X pins σ H s) (h : CE X.stack X.prog X.w H s Q u s') : EP X pins σ Q u s' := by
  obtain ⟨v, H', os, bare, un, hok, r, q⟩ := h
  obtain ⟨hh, g, d, t, os'⟩ := s'
  obtain rfl : os' = s.os := os
  exact ⟨v, H', I.call (h' := hh) (g' := g) (d' := d) (t' := t) (ch := []) un hok bare (fun b z => absurd z (by simp)), r, q⟩
end

/-! ### calls -/
/-- f(..): the written arguments, then the defaults dvs; E: what is wanted of an exception -/
def tCall (sp : Sp) (dvs : List V) (E : XK) (t : TA) : TE := fun σ H Q => t σ H fun vs H1 => sp (vs ++ dvs) H1 Q E
/-- o.m(..) of an instance of the class at C -/
def tMeth (C : Addr) (m : Str) (sp : Sp) (dvs : List V) (E : XK) (ta : TE) (t : TA) : TE := fun σ H Q => ta σ H fun x H1 => ∃ a dx fs, x = .ref a ∧ H1 a = some (.ins C dx fs) ∧ fs.lookup m = none ∧
  t σ H1 fun vs H2 => sp (x :: (vs ++ dvs)) H2 Q E
/-- C(..): a new instance and its dict, then __init__ -/
def tMake (C : Addr) (sp : Sp) (dvs : List V) (E : XK) (t : TA) : TE := fun σ H Q => t σ H fun vs H1 => ∀ x dx, H1 x = none → H1 dx = none → dx ≠ x →
  sp (.ref x :: (vs ++ dvs)) (upd (upd H1 dx (.own x)) x (.ins C dx [])) (fun v H2 => v = .non ∧ Q (.ref x) H2) E

/-- how the parameters are bound: us the positional arguments, kw the keywords' values by name, ds the defaults that fill up -/
def Binds (K : PySem.W.Frag) (fd : FuncData) (ps : List Str) (ds : List Value) : Prop :=
  ∀ (s : Shared) (us : List Value), K.In s.heap → (us ++ ds).length = ps.length → BindsTo s fd ⟨us, []⟩ (ps.zip (us ++ ds))
/-- every parameter is given -/
theorem Binds.all {K : PySem.W.Frag} {fd : FuncData} {ps : List Str} (h : ∀ us : List Value, us.length = ps.length → bindArgs fd ⟨us, []⟩ = pure (ps.zip us)) : Binds K fd ps [] := fun s us _ hl => by
  rw [List.append_nil] at hl ⊢
  exact .of_eq (h us hl)

/-- an exception of a callee reaches what this body wants of exceptions -/
def Passes (CX : CXT) (X : Cx) (E : XK) : Prop := ∀ (pins : List (Addr × Obj)) (σ : St) (H : Hp) (s : Shared) (e : Value) (s' : Shared), Inv X pins σ H s → CX X.stack H s E e s' → X.xe e s'

section
variable {X : Cx} {CX : CXT} {k : Nat} {f C : Addr} {fd : FuncData} {ps : List Str} {sp : Sp} {dvs : List V} {ds : List Value} {E : XK} {x m : Str} {p pos apos : Pos} {e o : Expr} {es : List Expr} {ta : TE} {t : TA}

/-- the callee runs -/
theorem run_fn {pins : List (Addr × Obj)} {σ : St} {H : Hp} {s : Shared} {Q : VK} {us : List Value} {vs : List V} (F : FnOk X.prog X.w X.K X.mg X.base CX k f fd ps sp) (hr : Room k X.A) (hb : Binds X.K fd ps ds) (hd : Vals dvs ds) (hx : Passes CX X E)
    (I : Inv X pins σ H s) (r : Vals vs us) (h : sp (vs ++ dvs) H Q E) : wpAny (model X.prog X.w) X.A (call (.ref f) us) (EP X pins σ Q) X.xe s := by
  have r2 : Vals (vs ++ dvs) (us ++ ds) := r.append hd
  have hl : (us ++ ds).length = ps.length := by rw [← r2.length]; exact F.len _ _ _ _ h
  refine wpAny_call (codeAny_mono (F.run X.A X.stack s H ⟨us, []⟩ (us ++ ds) (vs ++ dvs) Q E hr I.env0 (hb s us I.kIn hl) r2 h) fun r s' hq => ?_)
  cases r with
  | error e => exact hx pins σ H s e s' I hq
  | ok fl =>
    cases fl with
    | ret u => exact I.after hq
    | next => exact False.elim hq
    | brk => exact False.elim hq
    | cont => exact False.elim hq

theorem pe_call (F : FnOk X.prog X.w X.K X.mg X.base CX k f fd ps sp) (hr : Room k X.A) (hg : Gl X x) (hm : X.mg x = some (.ref f)) (hk : PySem.W.keepIn X.K (.ref f) = true) (hb : Binds X.K fd ps ds) (hd : Vals dvs ds) (hx : Passes CX X E)
    (ha : PA X (e :: es) t) (hdb : (x == ("__debug__" : Str)) = false := by decide) (he : starEach (e :: es) X.env = (false, eval e X.env) :: starEach es X.env := by rfl) (hpl : (backTo pos (starEach es X.env)).any (·.1) = false := by rfl) :
    PE X (.Call (.Name x p) (e :: es) [] pos) (tCall sp dvs E t) := by
  intro pins s σ H Q I h
  refine wpAny_Call_Name_kw (ld_glob I hg hm ?_ hdb)
  refine PySem.W.callWith_K (h₀ := X.base) I.ok.mod.kin hk (thn (ha pos pins s σ H _ I h) fun us s1 ⟨vs, H1, I1, r, q⟩ => ⟨I1.kIn, ?_⟩) he hpl
  exact run_fn F hr hb hd hx I1 r q
/-- o.m(e, ..) -/
theorem pe_meth {pl : Sem Bool} (he : PE X o ta) (c : Cls X.K C) (hm : Meth X.K C m f) (F : FnOk X.prog X.w X.K X.mg X.base CX k f fd ps sp) (hr : Room k X.A) (hb : Binds X.K fd ps ds) (hd : Vals dvs ds) (hx : Passes CX X E) (ha : PA X (e :: es) t)
    (hst : starEach (e :: es) X.env = (false, eval e X.env) :: starEach es X.env := by rfl) (hpl : (backTo pos (starEach es X.env)).any (·.1) = false := by rfl)
    (ht : eval (.Call (.Attribute o m apos) (e :: es) [] pos) X.env = (do
      let ov ← eval o X.env
      standAt apos.atName
      let (f, first) ← holding [ov] (getMethod ov m pl)
      callWith pos f first (backTo pos (starEach (e :: es) X.env)) (backToKw pos (keywordEach [] X.env))) := by rfl) :
    PE X (.Call (.Attribute o m apos) (e :: es) [] pos) (tMeth C m sp dvs E ta t) := by
  intro pins s σ H Q I h
  refine PySem.W.methodCall_KW (pl := pl) (thn (he pins s σ H _ I h) fun u s1 ⟨x, H1, I1, rx, a, dx, fs, ex, ea, l, q⟩ => ?_) ht
  subst ex
  obtain rfl : u = Value.ref a := rx
  refine getmeth_ok I1 ea c hm l ?_
  refine PySem.W.callWith_K (first := [.ref a]) (h₀ := X.base) I.ok.mod.kin hm.kp (thn (ha pos pins s1 σ H1 _ I1 q) fun us s2 ⟨vs, H2, I2, r, q2⟩ => ⟨I2.kIn, ?_⟩) hst hpl
  exact run_fn (us := .ref a :: us) (vs := .ref a :: vs) F hr hb hd hx I2 (.cons rfl r) q2
/-- o.m() -/
theorem pe_meth0 {pl : Sem Bool} (he : PE X o ta) (c : Cls X.K C) (hm : Meth X.K C m f) (F : FnOk X.prog X.w X.K X.mg X.base CX k f fd ps sp) (hr : Room k X.A) (hb : Binds X.K fd ps ds) (hd : Vals dvs ds) (hx : Passes CX X E)
    (ht : eval (.Call (.Attribute o m apos) [] [] pos) X.env = (do
      let ov ← eval o X.env
      standAt apos.atName
      let (f, first) ← holding [ov] (getMethod ov m pl)
      callWith pos f first (backTo pos (starEach [] X.env)) (backToKw pos (keywordEach [] X.env))) := by rfl) :
    PE X (.Call (.Attribute o m apos) [] [] pos) (tMeth C m sp dvs E ta tNil) := by
  intro pins s σ H Q I h
  refine PySem.W.methodCall_KW (pl := pl) (thn (he pins s σ H _ I h) fun u s1 ⟨x, H1, I1, rx, a, dx, fs, ex, ea, l, q⟩ => ?_) ht
  subst ex
  obtain rfl : u = Value.ref a := rx
  refine getmeth_ok I1 ea c hm l ?_
  exact PySem.W.callWith_K0 (first := [.ref a]) I1.kIn hm.kp (run_fn (us := [.ref a]) (vs := [.ref a]) F hr hb hd hx I1 (.cons rfl .nil) q)

/-- what a class must have to be made -/
structure Mk (K : PySem.W.Frag) (C f : Addr) : Prop where
  makes : PySem.W.makesIn K C = true
  init : PySem.W.findIn K (.ref C) "__init__" = some (some (.ref f))
  fn : PySem.W.isFn K (.ref f) = true
  kp : PySem.W.keepIn K (.ref C) = true

theorem run_make {pins : List (Addr × Obj)} {σ : St} {H : Hp} {s : Shared} {Q : VK} {us : List Value} {vs : List V} (M : Mk X.K C f) (F : FnOk X.prog X.w X.K X.mg X.base CX k f fd ps sp) (hr : Room (k + 1) X.A) (hb : Binds X.K fd ps ds) (hd : Vals dvs ds)
    (hx : Passes CX X E) (I : Inv X pins σ H s) (r : Vals vs us)
    (h : ∀ x dx, H x = none → H dx = none → dx ≠ x → sp (.ref x :: (vs ++ dvs)) (upd (upd H dx (.own x)) x (.ins C dx [])) (fun v H2 => v = .non ∧ Q (.ref x) H2) E) :
    wpAny (model X.prog X.w) X.A (call (.ref C) us) (EP X pins σ Q) X.xe s := by
  have hq := h (s.heap.objs.size + 1) s.heap.objs.size (I.hok.fresh (Nat.le_succ _)) (I.hok.fresh (Nat.le_refl _)) (Nat.ne_of_lt (Nat.lt_succ_self _))
  have I2 := Inv.made (C := C) I
  have r2 : Vals (V.ref (s.heap.objs.size + 1) :: (vs ++ dvs)) (Value.ref (s.heap.objs.size + 1) :: (us ++ ds)) := .cons rfl (r.append hd)
  have hl : (Value.ref (s.heap.objs.size + 1) :: us ++ ds).length = ps.length := by
    have e := r2.length
    rw [F.len _ _ _ _ hq] at e
    exact e.symm
  refine wpAny_call (make_map (f := f) I.kIn M.makes M.init (beq_iff_eq.mp M.fn) (codeAny_mono (F.run _ X.stack _ _ ⟨Value.ref (s.heap.objs.size + 1) :: us, []⟩ (Value.ref (s.heap.objs.size + 1) :: (us ++ ds)) _ _ E (hr.make C us [])
    (I2.env0.make C us []) (hb _ (Value.ref (s.heap.objs.size + 1) :: us) I2.kIn hl) r2 hq) fun r s' hq' => ?_))
  cases r with
  | error e => exact hx pins σ _ _ e s' I2 hq'
  | ok fl =>
    cases fl with
    | ret u =>
      obtain ⟨v, H', I3, rv, ev, q3⟩ := I2.after hq'
      subst ev
      exact ⟨rv, ⟨V.ref (s.heap.objs.size + 1), H', I3, rfl, q3⟩⟩
    | next => exact False.elim hq'
    | brk => exact False.elim hq'
    | cont => exact False.elim hq'
theorem pe_make (M : Mk X.K C f) (F : FnOk X.prog X.w X.K X.mg X.base CX k f fd ps sp) (hr : Room (k + 1) X.A) (hg : Gl X x) (hm : X.mg x = some (.ref C)) (hb : Binds X.K fd ps ds) (hd : Vals dvs ds) (hx : Passes CX X E)
    (ha : PA X (e :: es) t) (hdb : (x == ("__debug__" : Str)) = false := by decide) (he : starEach (e :: es) X.env = (false, eval e X.env) :: starEach es X.env := by rfl) (hpl : (backTo pos (starEach es X.env)).any (·.1) = false := by rfl) :
    PE X (.Call (.Name x p) (e :: es) [] pos) (tMake C sp dvs E t) := by
  intro pins s σ H Q I h
  refine wpAny_Call_Name_kw (ld_glob I hg hm ?_ hdb)
  refine PySem.W.callWith_K (h₀ := X.base) I.ok.mod.kin M.kp (thn (ha pos pins s σ H _ I h) fun us s1 ⟨vs, H1, I1, r, q⟩ => ⟨I1.kIn, ?_⟩) he hpl
  exact run_make M F hr hb hd hx I1 r q
end

/-! ### keywords -/
section
variable {X : Cx} {CX : CXT} {k : Nat} {f C : Addr} {fd : FuncData} {ps ks : List Str} {sp : Sp} {E : XK} {x m : Str} {p pos apos kpos : Pos} {e o : Expr} {es : List Expr} {kws : List Keyword} {te ta : TE} {t tk : TA} {nm : Option Str}
/-- how a call with keywords binds: g puts the positional values us and the keywords' values ws (names ks) in the parameters' order, defaults among them -/
structure KBinds (K : PySem.W.Frag) (fd : FuncData) (ps ks : List Str) (g : List Value → List Value → List Value) (gV : List V → List V → List V) : Prop where
  to : ∀ (s : Shared) (us ws : List Value), K.In s.heap → (g us ws).length = ps.length → BindsTo s fd ⟨us, ks.zip ws⟩ (ps.zip (g us ws))
  rel : ∀ {vs : List V} {us : List Value} {zs : List V} {ws : List Value}, Vals vs us → Vals zs ws → Vals (gV vs zs) (g us ws)
variable {g : List Value → List Value → List Value} {gV : List V → List V → List V}
end

/-! ### a def's body keeps its promise -/
/-- names: the parameters first -/
structure FnScope (N P : List Str) (sc : Scope) : Prop where
  kind : sc.kind = .function
  co : sc.isCoroutine = false
  gen : sc.isGenerator = false
  nd : N.Nodup
  pre : N.take P.length = P
  par : ∀ x ∈ P, sc.names.lookup x = some .local ∨ sc.names.lookup x = some .cell
  nofree : ∀ y ∈ sc.names, y.2 ≠ .free

theorem bindL_out {kindOf : Str → Option NameKind} {x : Str} : ∀ {binds : List (Str × Value)} {m : Str → Option Value}, (∀ v, (x, v) ∉ binds) → bindL kindOf binds m x = m x
  | [], _, _ => rfl
  | (n, v) :: r, m, h => by
    unfold bindL
    rw [bindL_out fun w hw => h w (List.mem_cons_of_mem _ hw)]
    split
    · have : x ≠ n := by rintro rfl; exact h v List.mem_cons_self
      simp [this]
    · rfl
theorem bindC_out {kindOf : Str → Option NameKind} {x : Str} : ∀ {binds : List (Str × Value)} {m : Str → Option Value}, (∀ v, (x, v) ∉ binds) → bindC kindOf binds m x = m x
  | [], _, _ => rfl
  | (n, v) :: r, m, h => by
    unfold bindC
    rw [bindC_out fun w hw => h w (List.mem_cons_of_mem _ hw)]
    split
    · rfl
    · have : x ≠ n := by rintro rfl; exact h v List.mem_cons_self
      simp [this]
theorem bindL_get {kindOf : Str → Option NameKind} {x : Str} {v : Value} : ∀ {P : List Str} {vs : List Value} {i : Nat} {m : Str → Option Value}, P.Nodup → P[i]? = some x → vs[i]? = some v → kindOf x = some .local →
    bindL kindOf (P.zip vs) m x = some v
  | [], _, _, _, _, h, _, _ => by simp at h
  | _ :: _, [], _, _, _, _, h, _ => by simp at h
  | p :: P, w :: vs, 0, m, nd, h1, h2, hk => by
    simp at h1 h2; subst h1; subst h2
    show bindL kindOf ((p, w) :: P.zip vs) m p = _
    unfold bindL
    rw [bindL_out fun v hv => (List.nodup_cons.mp nd).1 (List.of_mem_zip hv).1, if_pos hk]
    simp
  | p :: P, w :: vs, i + 1, m, nd, h1, h2, hk => by
    show bindL kindOf ((p, w) :: P.zip vs) m x = _
    unfold bindL
    exact bindL_get (i := i) (List.nodup_cons.mp nd).2 (by simpa using h1) (by simpa using h2) hk
theorem bindC_get {kindOf : Str → Option NameKind} {x : Str} {v : Value} : ∀ {P : List Str} {vs : List Value} {i : Nat} {m : Str → Option Value}, P.Nodup → P[i]? = some x → vs[i]? = some v → kindOf x ≠ some .local →
    bindC kindOf (P.zip vs) m x = some v
  | [], _, _, _, _, h, _, _ => by simp at h
  | _ :: _, [], _, _, _, _, h, _ => by simp at h
  | p :: P, w :: vs, 0, m, nd, h1, h2, hk => by
    simp at h1 h2; subst h1; subst h2
    show bindC kindOf ((p, w) :: P.zip vs) m p = _
    unfold bindC
    rw [bindC_out fun v hv => (List.nodup_cons.mp nd).1 (List.of_mem_zip hv).1, if_neg hk]
    simp
  | p :: P, w :: vs, i + 1, m, nd, h1, h2, hk => by
    show bindC kindOf ((p, w) :: P.zip vs) m x = _
    unfold bindC
    exact bindC_get (i := i) (List.nodup_cons.mp nd).2 (by simpa using h1) (by simpa using h2) hk

/-- the names' values at the entry -/
def start (N : List Str) (vs : List V) : St := vs.map some ++ List.replicate (N.length - vs.length) none

/-- the context of a def's body, at its entry; an exception leaves the frame, then lies as CX says -/
def cxOf (CX : CXT) (P : Program) (w : World) (K : PySem.W.Frag) (mg : Str → Option Value) (base : Heap) (N : List Str) (qual : Str) (scope : Scope) (f : Addr) (cd : Value) (A : Around) (outer : List Env) (s : Shared) (H : Hp) (E : XK) : Cx where
  prog := P
  w := w
  K := K
  mg := mg
  base := base
  A := A.deeper (envOfC qual scope s.heap.objs.size f cd)
  N := N
  s₀ := s
  H₀ := H
  env := envOfC qual scope s.heap.objs.size f cd
  outer := outer
  stack := envOfC qual scope s.heap.objs.size f cd :: outer
  ex := []
  calm := true
  fn := fun _ => true
  pn := []
  xe := fun e s' => wpAny (model P w) (A.deeper (envOfC qual scope s.heap.objs.size f cd)) (leaving (envOfC qual scope s.heap.objs.size f cd) e) (fun _ s'' => CX outer H s E e s'') (fun e' s'' => CX outer H s E e' s'') s'

theorem cell_has {sc : Scope} {n : Nat} {x : Str} (h : sc.names.lookup x = some .cell) : ∃ c, (cellsFrom n sc.names []).lookup x = some c := by
  have q := PySem.W.cellsFrom_some sc.names n [] (.inl h)
  exact Option.isSome_iff_exists.mp q

theorem inv_start {CX : CXT} {P : Program} {w : World} {K : PySem.W.Frag} {mg : Str → Option Value} {base : Heap} {N ps : List Str} {qual : Str} {scope : Scope} {f : Addr} {cd : Value} {A : Around} {outer : List Env} {s s1 : Shared} {H : Hp} {E : XK} {us : List Value} {vs : List V}
    (S : FnScope N ps scope) (hd : A.handled = none) (e0 : Env0 P w K mg base A outer s H) (hl : vs.length = ps.length) (r : Vals vs us)
    (x : InCallC s s.heap.objs.size (bindL (envOfC qual scope s.heap.objs.size f cd).kindOf (ps.zip us) fun _ => none) (cellsFrom (s.heap.objs.size + 1) scope.names []) (bindC (envOfC qual scope s.heap.objs.size f cd).kindOf (ps.zip us) fun _ => none) s1) :
    Inv (cxOf CX P w K mg base N qual scope f cd A outer s H E) [] (start N vs) H s1 := by
  have hpl : ps.length ≤ N.length := by have := congrArg List.length S.pre; rw [List.length_take] at this; omega
  obtain ⟨h1, tk, rfl, hk⟩ := x.done
  have noA : ∀ b : Addr, b ∉ (cxOf CX P w K mg base N qual scope f cd A outer s H E).ex := fun b z => absurd (show b ∈ ([] : List Addr) from z) (by simp)
  refine ⟨⟨e0.mod, S.kind, rfl, rfl, Nat.le_refl _, fun y z c h1 h2 => ?_, fun y hy => ?_, fun y c _ h => ?_, fun _ => hd, Around.frames_deeper e0.frames, .inr ⟨rfl, rfl⟩, fun b z => absurd z (noA b), e0.bs, e0.bsz, fun b _ _ => noA b, fun b z => absurd z (noA b), e0.funs, e0.frf⟩,
    rfl, e0.bare, Un.kept hk, ⟨_, x.toInCall.ns, fun i y v h1 h2 h3 => ?_⟩, fun y c h => ⟨_, x.cell y c h⟩, e0.hok.fresh (Nat.le_refl _), fun y c h => ?_, fun p hp => absurd (show p ∈ ([] : List (Addr × Obj)) from hp) (by simp), e0.hok.kept hk, ?_⟩
  · exact name_of_addr x.apart (PySem.mem_of_lookup h1) (PySem.mem_of_lookup h2)
  · have hy : scope.names.lookup y = some .cell ∨ scope.names.lookup y = some .free := hy
    rcases hy with hy | hy
    · exact cell_has hy
    · exact absurd rfl (S.nofree _ (PySem.mem_of_lookup hy))
  · exact Nat.le_of_lt (x.above y c (PySem.mem_of_lookup h))
  · have hi : i < vs.length := by
      unfold start at h2
      by_cases hi : i < vs.length
      · exact hi
      · rw [List.getElem?_append_right (by simpa using hi)] at h2
        rw [List.getElem?_replicate] at h2
        split at h2 <;> cases h2
    have ha : vs[i]? = some v := by
      unfold start at h2
      rw [List.getElem?_append_left (by simpa using hi), List.getElem?_map] at h2
      cases e : vs[i]? with
      | none => rw [e] at h2; cases h2
      | some a => rw [e] at h2; cases h2; rfl
    obtain ⟨u, hu, rv⟩ := r.get ha
    have hp : ps[i]? = some y := by
      rw [← S.pre, List.getElem?_take_of_lt (by omega)]; exact h1
    have ndP : ps.Nodup := by rw [← S.pre]; exact S.nd.sublist (List.take_sublist _ _)
    refine ⟨u, rv, ?_⟩
    rcases S.par y (List.mem_of_getElem? hp) with k | k
    · exact .inl ⟨k, bindL_get ndP hp hu k⟩
    · obtain ⟨c, e⟩ := cell_has (n := s.heap.objs.size + 1) k
      refine .inr ⟨.inl k, c, e, ?_⟩
      have q := x.cell y c e
      rw [bindC_get ndP hp hu (by show scope.names.lookup y ≠ _; rw [k]; decide)] at q
      exact q
  · exact e0.hok.fresh (Nat.le_of_lt (x.above y c (PySem.mem_of_lookup h)))
  · unfold start
    show _ = N.length
    rw [List.length_append, List.length_map, List.length_replicate]
    omega

/-- THE RULE: a def (or a method) of the text, by its body. The body's reading t is chosen for each entry; it is run at the parameters' values -/
theorem fn_of {CX : CXT} {P : Program} {w : World} {K : PySem.W.Frag} {mg : Str → Option Value} {base : Heap} {k : Nat} {f : Addr} {name qual : Str} {params : Arguments} {body : List Stmt} {scope : Scope} {dV kV doc pm cdv ct oc : Value} {an od : Option Addr}
    {osl : Array (Option Value)} {N ps : List Str} {sp : Sp} (lk : K.lookup f = some ⟨oc, od, .func (PySem.W.fnOf name qual params body scope dV kV doc pm an cdv ct), osl⟩) (hcd : PySem.W.codeIn K cdv qual = true) (S : FnScope N ps scope)
    (len : ∀ vs H Q E, sp vs H Q E → vs.length = ps.length)
    (hbody : ∀ (A : Around) (outer : List Env) (s : Shared) (H : Hp) (vs : List V) (Q : VK) (E : XK), Room k (A.deeper (envOfC qual scope s.heap.objs.size f cdv)) → sp vs H Q E →
      ∃ t, PSs (cxOf CX P w K mg base N qual scope f cdv A outer s H E) body t ∧ t { nx := fun _ H' => Q .non H', rt := Q } (start N vs) H) :
    FnOk P w K mg base CX (k + 1) f (PySem.W.fnOf name qual params body scope dV kV doc pm an cdv ct) ps sp := by
  refine ⟨len, fun A outer s H args us vs Q E hr e0 hb r hsp => ?_⟩
  have hl := len _ _ _ _ hsp
  have KX : K.In s.heap := e0.mod.kin.keeps fun b o e => (e0.bs b o e).1
  have lim : s.heap.NoLimit := e0.mod.nolimit.keeps fun b o e => (e0.bs b o e).1
  have hkind : ∀ y ∈ ps.zip us, scope.names.lookup y.1 = some .local ∨ (scope.names.lookup y.1 = some .cell ∧ ((cellsFrom (s.heap.objs.size + 1) scope.names []).lookup y.1).isSome = true) := fun ⟨n, v⟩ hy => by
    rcases S.par n (List.of_mem_zip hy).1 with q | q
    · exact .inl q
    · exact .inr ⟨q, PySem.W.cellsFrom_some _ _ _ (.inl q)⟩
  refine codeAny_call_function hr.depth (KX _ _ lk) rfl S.co S.gen rfl (PySem.W.codeRec_of KX hcd) (hb _ _ _ _ ?_)
  refine wpAny_newFunctionEnv_cells S.kind hkind fun env he s1 x => ?_
  subst he
  refine ⟨lim.keeps x.toInCall.keep, codeAny_func ?_⟩
  obtain ⟨t, ht, hq⟩ := hbody A outer s H vs Q E (hr.deeper _) hsp
  have I : Inv (cxOf CX P w K mg base N qual scope f cdv A outer s H E) [] (start N vs) H s1 := inv_start S hr.hd e0 hl r x
  refine wpAny_mono (ht [] s1 (start N vs) H _ I hq) (fun fl s' hs => ?_) fun e s' hs => hs
  have fin : ∀ {σ' : St} {H' : Hp} {v : V} {u : Value}, Inv (cxOf CX P w K mg base N qual scope f cdv A outer s H E) [] σ' H' s' → RelV v u → Q v H' → CE outer P w H s Q u s' :=
    fun {σ' H' v u} J rv q => ⟨v, H', J.os, J.bare, J.base, J.hok, rv, q⟩
  cases fl with
  | ret u =>
    obtain ⟨v, σ', H', J, rv, q⟩ := hs
    exact fin J rv q
  | next =>
    obtain ⟨σ', H', J, q⟩ := hs
    exact fin (v := V.non) (u := Value.none) J rfl q
  | brk =>
    obtain ⟨_, _, _, q⟩ := hs
    exact False.elim q
  | cont =>
    obtain ⟨_, _, _, q⟩ := hs
    exact False.elim q
end L2

namespace L2
open PySem PySem.Spec PyProof.Rows
section
variable {X : Cx} {x : Str} {p pos : Pos} {e : Expr} {es : List Expr} {t : TA} {id T : String} {r : List V → Hp → VK → Prop}

def tCB (r : List V → Hp → VK → Prop) (t : TA) : TE := fun σ H Q => t σ H fun vs H1 => r vs H1 Q
/-- f(e, ..), f a built-in function -/
theorem pe_callB (hc : CallR X (.builtin id) r) (hg : Gl X x) (hm : X.mg x = none) (hv : bootBuiltins x = some (.builtin id)) (ha : PA X (e :: es) t) (hn : x ≠ "__name__" := by decide) (hdb : (x == ("__debug__" : Str)) = false := by decide)
    (he : starEach (e :: es) X.env = (false, eval e X.env) :: starEach es X.env := by rfl) (hpl : (backTo pos (starEach es X.env)).any (·.1) = false := by rfl) : PE X (.Call (.Name x p) (e :: es) [] pos) (tCB r t) := by
  intro pins s σ H Q I h
  refine wpAny_Call_Name_kw (ld_blt I hg hm hv ?_ hn hdb)
  exact PyProof.Rows.callWith_builtin1 (thn (ha pos pins s σ H _ I h) fun us s1 ⟨vs, H1, I1, r1, q1⟩ => hc pins s1 σ H1 vs us Q I1 r1 q1) he hpl
/-- T(e, ..), T a built-in type -/
theorem pe_callTy (hc : CallR X (.type T) r) (hg : Gl X x) (hm : X.mg x = none) (hv : bootBuiltins x = some (.type T)) (ha : PA X (e :: es) t) (hn : x ≠ "__name__" := by decide) (hdb : (x == ("__debug__" : Str)) = false := by decide)
    (he : starEach (e :: es) X.env = (false, eval e X.env) :: starEach es X.env := by rfl) (hpl : (backTo pos (starEach es X.env)).any (·.1) = false := by rfl) : PE X (.Call (.Name x p) (e :: es) [] pos) (tCB r t) := by
  intro pins s σ H Q I h
  refine wpAny_Call_Name_kw (ld_blt I hg hm hv ?_ hn hdb)
  exact PyProof.Rows.callWith_type1 (thn (ha pos pins s σ H _ I h) fun us s1 ⟨vs, H1, I1, r1, q1⟩ => hc pins s1 σ H1 vs us Q I1 r1 q1) he hpl
end
end L2

namespace HT
open PySem PyProof.Rows

section
open PySem.SeqAt
open PySem.AutoSeq1 (wpAny_loadPart')
open PySem.MeetsSeq PySem.MeetsSeq2 PySem.MeetsSeq3

end

section
variable {prog : Program} {w : World} {A : Around} {E : Value → Shared → Prop} {s : Shared}

/-- t + u, t not empty -/
theorem cat_tup {t b : Addr} {vs ws : List Value} {Q : Value → Shared → Prop} (ht : IsTup s.heap t vs.toArray) (hb : IsTup s.heap b ws.toArray) (hv : vs ≠ [])
    (h1 : ws = [] → Q (.ref t) s) (h2 : ws ≠ [] → Q (.ref s.heap.objs.size) { s with heap := s.heap.push { cls := .type "tuple", data := .seq (vs ++ ws).toArray } })
    (hsz : vs.length + ws.length ≤ sizeLine) : wpAny (model prog w) A (binaryOp .Add (.ref t) (.ref b)) Q E s := by
  obtain ⟨⟨cls, dd, data, sl⟩, ho, hc, n, hd⟩ := id ht
  obtain ⟨⟨cls2, dd2, data2, sl2⟩, ho2, hc2, n2, hd2⟩ := id hb
  simp only at hc hd hc2 hd2
  subst hc hd hc2 hd2
  have e : vs.toArray ++ ws.toArray = (vs ++ ws).toArray := by simp
  by_cases hw : ws = []
  · exact concat_meets ⟨_, ho, rfl⟩ ⟨_, ho2, rfl⟩ noFill_tuple_add seq_tuple_add PySem.F.slot_tuple_add PySem.F.entry_tuple_add (PySem.F.args_tuple_add_2 _ _)
      (tuple_addW1 t b vs.toArray ws.toArray n n2 dd dd2 sl sl2 (by simpa using hv) (by simp [hw])) ⟨ho, ho2, h1 hw⟩
  · refine concat_meets ⟨_, ho, rfl⟩ ⟨_, ho2, rfl⟩ noFill_tuple_add seq_tuple_add PySem.F.slot_tuple_add PySem.F.entry_tuple_add (PySem.F.args_tuple_add_2 _ _)
      (tuple_addW2 t b vs.toArray ws.toArray n n2 dd dd2 sl sl2 (by simpa using hv) (by simpa using hw) (by rw [List.size_toArray, List.size_toArray]; exact hsz)) ⟨ho, ho2, ?_⟩
    rw [e]
    exact h2 hw

/-! ### t[a:b], not the whole -/
/-- a slice's bound as a place among n (d where it is left out) -/
def sIx (n d : Nat) : Option Int → Nat
  | none => d
  | some v => if v < 0 then (v + (n : Int)).toNat else min v.toNat n
theorem sIx_none (n d : Nat) : sIx n d none = d := rfl
theorem sIx_nat (n d k : Nat) : sIx n d (some (k : Int)) = min k n := by
  show (if (k : Int) < 0 then ((k : Int) + (n : Int)).toNat else min (k : Int).toNat n) = min k n
  rw [if_neg (by omega), Int.toNat_natCast]
theorem sIx_le (n d : Nat) (hd : d ≤ n) (o : Option Int) : sIx n d o ≤ n := by
  cases o with
  | none => exact hd
  | some v =>
    show (if v < 0 then (v + (n : Int)).toNat else min v.toNat n) ≤ n
    by_cases hv : v < 0
    · rw [if_pos hv]; omega
    · rw [if_neg hv]; exact Nat.min_le_right _ _
theorem clip_eq (v : Int) (n d : Nat) : (if v < 0 then max (v + (n : Int)) 0 else min v (n : Int)) = ((sIx n d (some v) : Nat) : Int) := by
  show (if v < 0 then max (v + (n : Int)) 0 else min v (n : Int)) = (((if v < 0 then (v + (n : Int)).toNat else min v.toNat n) : Nat) : Int)
  by_cases hv : v < 0
  · simp only [if_pos hv]; omega
  · simp only [if_neg hv]; omega
theorem adjust_gen (lo hi : Option Int) (n : Nat) : Builtin.Slice.sliceAdjust lo hi 1 (n : Int) = (((sIx n 0 lo : Nat) : Int), ((sIx n n hi : Nat) : Int)) := by
  have h1 : ¬ ((1 : Int) < 0) := by omega
  unfold Builtin.Slice.sliceAdjust
  simp only [h1, if_false]
  refine Prod.ext ?_ ?_
  · cases lo with
    | none => rfl
    | some v => exact clip_eq v n 0
  · cases hi with
    | none => rfl
    | some v => exact clip_eq v n n
theorem places_gen (i j : Nat) : Builtin.Slice.slicePlaces (i : Int) (j : Int) 1 = j - i := by
  unfold Builtin.Slice.slicePlaces
  have h1 : (1 : Int) > 0 := by omega
  simp only [h1, if_true, Int.ediv_one]
  split <;> omega
theorem slicePart_ {v : Value} {o : Option Int} {Q : Option Int → Shared → Prop} (p : IsPart v o) (h : Q o s) : wpAny (model prog w) A (Builtin.Slice.slicePartIndex v) Q E s := by
  cases p with
  | none => exact slicePart_none h
  | int i t => exact slicePart_int h
theorem sliceApplied_gen {sl : Addr} {vl vu : Value} {lo hi : Option Int} {n : Nat} {Q : Int × Int × Nat → Shared → Prop} (hs : s.heap.IsSliceOf sl vl vu .none) (pl : IsPart vl lo) (pu : IsPart vu hi)
    (h : Q (((sIx n 0 lo : Nat) : Int), 1, sIx n n hi - sIx n 0 lo) s) : wpAny (model prog w) A (Builtin.Slice.sliceApplied (.ref sl) (pure (n : Int))) Q E s := by
  obtain ⟨os, hos, hcs, hds⟩ := id hs
  unfold Builtin.Slice.sliceApplied Builtin.Slice.sliceFields
  refine wpAny_bind (wpAny_bind (wpAny_field hos hds (x := vl) rfl (wpAny_bind (wpAny_field hos hds (x := vu) rfl (wpAny_bind (wpAny_field hos hds (x := .none) rfl (wpAny_pure ?_)))))))
  refine wpAny_bind (slicePart_none ?_)
  show wpAny _ _ (if ((1 : Int) == 0) = true then _ else _) _ _ s
  rw [if_neg (by decide)]
  refine wpAny_bind (slicePart_ pl (wpAny_bind (slicePart_ pu (wpAny_bind (wpAny_pure ?_)))))
  show wpAny _ _ (match Builtin.Slice.sliceAdjust lo hi 1 (n : Int) with | (lo, hi) => pure (lo, (1 : Int), Builtin.Slice.slicePlaces lo hi 1)) _ _ s
  rw [adjust_gen lo hi n]
  show wpAny _ _ (pure (((sIx n 0 lo : Nat) : Int), (1 : Int), Builtin.Slice.slicePlaces ((sIx n 0 lo : Nat) : Int) ((sIx n n hi : Nat) : Int) 1)) _ _ s
  rw [places_gen]
  exact wpAny_pure h
theorem pick_gen (xs : Array Value) (i k : Nat) : ((List.range k).filterMap fun (m : Nat) => xs[((i : Int) + (m : Int) * 1).toNat]?).toArray = ((xs.toList.drop i).take k).toArray := by
  have e : (fun (m : Nat) => xs[((i : Int) + (m : Int) * 1).toNat]?) = fun m => xs[i + m]? := by
    funext m
    have : ((i : Int) + (m : Int) * 1).toNat = i + m := by omega
    rw [this]
  rw [e]
  have := pick_run xs i k
  rw [List.filterMap_map] at this
  have e2 : ((fun x => xs[x]?) ∘ fun x => i + x) = fun m => xs[i + m]? := rfl
  rw [e2] at this
  rw [this]

theorem getItem_tuple_cut {t sl : Addr} {items : Array Value} {vl vu : Value} {lo hi : Option Int} {Q : Value → Shared → Prop} (ht : IsTup s.heap t items) (hs : s.heap.IsSliceOf sl vl vu .none) (pl : IsPart vl lo) (pu : IsPart vu hi)
    (hw : ¬ (sIx items.size 0 lo = 0 ∧ sIx items.size items.size hi = items.size))
    (h : Q (.ref s.heap.objs.size) { s with heap := s.heap.push { cls := .type "tuple", data := .seq ((items.toList.drop (sIx items.size 0 lo)).take (sIx items.size items.size hi - sIx items.size 0 lo)).toArray } })
    (hsz : items.size ≤ sizeLine) : wpAny (model prog w) A (getItem (.ref t) (.ref sl)) Q E s := by
  have htake : sizeOk (.seq ((items.toList.drop (sIx items.size 0 lo)).take (sIx items.size items.size hi - sIx items.size 0 lo)).toArray) := by
    show ((items.toList.drop (sIx items.size 0 lo)).take (sIx items.size items.size hi - sIx items.size 0 lo)).toArray.size ≤ sizeLine
    rw [List.size_toArray, List.length_take, List.length_drop, Array.length_toList]
    omega
  have hj : sIx items.size items.size hi ≤ items.size := sIx_le _ _ (Nat.le_refl _) hi
  obtain ⟨os, hos, hcs, hds⟩ := id hs
  have hTs : s.TypeIs (.ref sl) "slice" := ⟨os, hos, hcs⟩
  unfold getItem
  try with_reducible refine wpAny_holding ?_
  first | refine wpAny_bind (wpAny_pure ?_) | skip
  refine wpAny_bind (wpAny_sequenceKey ht.typeIs (by decide) ?_)
  refine wpAny_bind (wpAny_callSpecial?_slot (name := Str.ofString "__getitem__") ht.typeIs PyProof.Rows.slot_tuple_getitem
    (wpAny_call_entry PyProof.Rows.slot_tuple_getitem ht.typeIs entry_tuple_getitem ?_ (args_tuple_getitem _ _)))
  show wpAny _ _ (Builtin.Tuple.tupleItemsOf (.ref t) >>= _) _ _ s
  refine wpAny_bind (tupleItemsOf_ ht ?_)
  refine wpAny_bind (wpAny_typeOf hTs ?_)
  rw [if_pos (by decide)]
  refine wpAny_bind (sliceApplied_gen hs pl pu ?_)
  have hno : ¬ ((((sIx items.size 0 lo : Nat) : Int) == 0 && (1 : Int) == 1 && (sIx items.size items.size hi - sIx items.size 0 lo) == items.size) = true) := by
    intro q
    rw [Bool.and_eq_true, Bool.and_eq_true] at q
    have q1 : ((sIx items.size 0 lo : Nat) : Int) = 0 := eq_of_beq q.1.1
    have q2 : sIx items.size items.size hi - sIx items.size 0 lo = items.size := eq_of_beq q.2
    exact hw ⟨by omega, by omega⟩
  show wpAny _ _ (if (((sIx items.size 0 lo : Nat) : Int) == 0 && (1 : Int) == 1 && (sIx items.size items.size hi - sIx items.size 0 lo) == items.size) = true then _ else _) _ _ s
  rw [if_neg hno, pick_gen]
  first
    | exact wpAny_bind (m := Builtin.Tuple.tupleExact _) (wpAny_newObj_type (wpAny_pure ⟨_, rfl, wpAny_pure h⟩) htake)
    | exact wpAny_bind (m := Builtin.Tuple.tupleExact _) (wpAny_newObj_type (wpAny_bind (wpAny_pure (wpAny_pure ⟨_, rfl, wpAny_pure h⟩))) htake)
    | exact wpAny_bind (wpAny_bind (m := Builtin.Tuple.tupleExact _) (wpAny_newObj_type (wpAny_pure (wpAny_pure ⟨_, rfl, wpAny_pure h⟩)) htake))
    | exact wpAny_bind (wpAny_bind (m := Builtin.Tuple.tupleExact _) (wpAny_newObj_type (wpAny_pure ⟨_, rfl, wpAny_pure h⟩) htake))
end
end HT

namespace L2
open PySem PySem.Spec PyProof.Rows

/-! ### the parts of a slice -/
abbrev TO := St → Hp → (Option Int → Hp → Prop) → Prop
/-- a slice's part (left out, or an int) -/
def PO (X : Cx) (e : Option Expr) (t : TO) : Prop :=
  ∀ (pins : List (Addr × Obj)) (s : Shared) (σ : St) (H : Hp) (Q : Option Int → Hp → Prop), Inv X pins σ H s → t σ H Q →
    wpAny (model X.prog X.w) X.A (evalPart e X.env) (fun u s' => ∃ o H', Inv X pins σ H' s' ∧ IsPart u o ∧ Q o H') X.xe s
def tNoPart : TO := fun _ H Q => Q none H
def tPart (t : TE) : TO := fun σ H Q => t σ H fun x H1 => ∃ i, x = .int i ∧ Q (some i) H1

section
variable {X : Cx} {e : Expr} {te : TE} {lo hi : Option Expr} {tl th : TO} {pos p2 : Pos}

theorem po_none : PO X none tNoPart := by
  intro pins s σ H Q I h
  rw [evalPart_none]
  exact wpAny_pure ⟨none, H, I, .none, h⟩
theorem po_some (h : PE X e te) : PO X (some e) (tPart te) := by
  intro pins s σ H Q I hw
  rw [evalPart_some]
  refine thn (h pins s σ H _ I hw) fun u s1 ⟨x, H1, I1, r1, q1⟩ => ?_
  obtain ⟨i, rfl, q⟩ := q1
  obtain ⟨t, rfl⟩ := r1
  exact ⟨some i, H1, I1, .int i t, q⟩

/-- what a slice of a value is, by values: the slice object stands at sl -/
def SlR (X : Cx) (r : V → Option Int → Option Int → Hp → VK → Prop) : Prop :=
  ∀ (pins : List (Addr × Obj)) (s : Shared) (σ : St) (H : Hp) (x : V) (v vl vu : Value) (lo hi : Option Int) (sl : Addr) (Q : VK), Inv X pins σ H s → RelV x v → s.heap.IsSliceOf sl vl vu .none → IsPart vl lo → IsPart vu hi → r x lo hi H Q →
    ∃ T id, typeLookup (.type T) "__getitem__" = pure (some (.builtin id)) ∧ s.TypeIs v T ∧ wpAny (model X.prog X.w) X.A (getItem v (.ref sl)) (EP X pins σ Q) X.xe s
theorem SlR.or {r r' : V → Option Int → Option Int → Hp → VK → Prop} (h : SlR X r) (h' : SlR X r') : SlR X (fun x lo hi H Q => r x lo hi H Q ∨ r' x lo hi H Q) := by
  intro pins s σ H x v vl vu lo hi sl Q I rx hs pl pu q
  rcases q with q | q
  · exact h pins s σ H x v vl vu lo hi sl Q I rx hs pl pu q
  · exact h' pins s σ H x v vl vu lo hi sl Q I rx hs pl pu q
def tSl (r : V → Option Int → Option Int → Hp → VK → Prop) (te : TE) (tl th : TO) : TE := fun σ H Q => te σ H fun x H1 => tl σ H1 fun l H2 => th σ H2 fun u H3 => r x l u H3 Q
/-- a[lo:hi], any a -/
theorem pe_slice {r : V → Option Int → Option Int → Hp → VK → Prop} (hr : SlR X r) (he : PE X e te) (hl : PO X lo tl) (hu : PO X hi th) : PE X (.Subscript e (.Slice lo hi none p2) pos) (tSl r te tl th) := by
  intro pins s σ H Q I h
  refine Subscript_ (thn (he pins s σ H _ I h) fun v s1 ⟨x, H1, I1, r1, q1⟩ => ?_)
  refine wpAny_Slice (thn (hl pins s1 σ H1 _ I1 q1) fun vl s2 ⟨l, H2, I2, pl, q2⟩ => thn (hu pins s2 σ H2 _ I2 q2) fun vu s3 ⟨u, H3, I3, pu, q3⟩ => ?_)
  rw [evalPart_none]
  refine wpAny_pure ?_
  have I4 : Inv X pins σ H3 { s3 with heap := s3.heap.push { cls := .type "slice", data := .fields #[vl, vu, .none] } } := I3.kept (t' := s3.toks) fun b ob q => Heap.get?_push_of_some _ q
  obtain ⟨T, id, hT, ht, hg⟩ := hr pins { s3 with heap := s3.heap.push { cls := .type "slice", data := .fields #[vl, vu, .none] } } σ H3 x v vl vu l u s3.heap.objs.size Q I4 r1 (Heap.IsSliceOf.new ..) pl pu q3
  show wpAny (model X.prog X.w) X.A (subscriptTail e (.Slice lo hi none p2) v (.ref s3.heap.objs.size)) (EP X pins σ Q) X.xe { s3 with heap := s3.heap.push { cls := .type "slice", data := .fields #[vl, vu, .none] } }
  exact tail_any (ops := [.ref s3.heap.objs.size, v]) ht hT hg (by with_unfolding_all rfl)

/-- the items of xs[lo:hi] -/
def cutV (xs : List V) (lo hi : Option Int) : List V := (xs.drop (HT.sIx xs.length 0 lo)).take (HT.sIx xs.length xs.length hi - HT.sIx xs.length 0 lo)
theorem cutV_length (xs : List V) (lo hi : Option Int) : (cutV xs lo hi).length ≤ xs.length := by
  unfold cutV
  rw [List.length_take, List.length_drop]
  omega
/-- t[lo:hi], not the whole of it (the whole would be t itself) -/
def rSlT (K : PySem.W.Frag) : V → Option Int → Option Int → Hp → VK → Prop := fun x lo hi H Q => ∃ a xs, x = .ref a ∧ SqT K H a xs ∧
  ¬ (HT.sIx xs.length 0 lo = 0 ∧ HT.sIx xs.length xs.length hi = xs.length) ∧ ∀ p, H p = none → Q (.ref p) (upd H p (.tup (cutV xs lo hi)))
theorem sl_tup : SlR X (rSlT X.K) := by
  intro pins s σ H x v vl vu lo hi sl Q I rx hs pl pu h
  obtain ⟨a, xs, rfl, hx, hw, q⟩ := h
  cases rx
  obtain ⟨its, r, ht, hz⟩ := I.tuple hx
  have hlen : its.toArray.size = xs.length := by rw [List.size_toArray]; exact r.length.symm
  refine ⟨"tuple", _, PyProof.Rows.slot_tuple_getitem.lookup, ht.typeIs, ?_⟩
  refine HT.getItem_tuple_cut ht hs pl pu (by rw [hlen]; exact hw) ?_ (by rw [hlen]; exact hz)
  rw [hlen]
  refine ⟨.ref s.heap.objs.size, _, I.laid (t' := s.toks) (o := .tup (cutV xs lo hi)) (fun b ob q => Heap.get?_push_of_some _ q) (Nat.le_refl _) ?_, rfl, q _ (I.hok.fresh (Nat.le_refl _))⟩
  exact ⟨Nat.le_trans (cutV_length xs lo hi) hz, _, (r.drop (HT.sIx xs.length 0 lo)).take (HT.sIx xs.length xs.length hi - HT.sIx xs.length 0 lo), IsTup.new _ _⟩

/-! ### t < u, t + u -/
/-- t + u, t not empty: u empty gives t itself -/
def rCatT (K : PySem.W.Frag) : R2 := fun x y H Q => ∃ a b xs ys, x = .ref a ∧ y = .ref b ∧ SqT K H a xs ∧ SqT K H b ys ∧ xs ≠ [] ∧ xs.length + ys.length ≤ sizeLine ∧
  (ys = [] → Q (.ref a) H) ∧ (ys ≠ [] → ∀ p, H p = none → Q (.ref p) (upd H p (.tup (xs ++ ys))))
theorem Vals.nil_iff {xs : List V} {us : List Value} (r : Vals xs us) : us = [] ↔ xs = [] := by
  cases r with
  | nil => simp
  | cons _ _ => simp
theorem op_catT : OpR X (binaryOp .Add) (rCatT X.K) := by
  intro pins s σ H x y v u Q I rx ry h
  obtain ⟨a, b, xs, ys, rfl, rfl, ha, hb, hx, hz, q1, q2⟩ := h
  cases rx
  cases ry
  obtain ⟨its, r1, p1, _⟩ := I.tuple ha
  obtain ⟨its2, r2, p2, _⟩ := I.tuple hb
  refine HT.cat_tup p1 p2 (fun z => hx (r1.nil_iff.mp z)) (fun z => ⟨.ref a, H, I, rfl, q1 (r2.nil_iff.mp z)⟩) (fun z => ?_) (by rw [← r1.length, ← r2.length]; exact hz)
  refine ⟨.ref s.heap.objs.size, _, I.laid (t' := s.toks) (o := .tup (xs ++ ys)) (fun b ob q => Heap.get?_push_of_some _ q) (Nat.le_refl _) ?_, rfl, q2 (fun w => z (r2.nil_iff.mpr w)) _ (I.hok.fresh (Nat.le_refl _))⟩
  exact ⟨by rw [List.length_append]; exact hz, _, r1.append r2, IsTup.new _ _⟩
end
end L2

namespace L2
open PySem PySem.Spec PyProof.Rows

/-! ### places -/
/-- the place that an index of any sign means -/
def ixN (n : Nat) (i : Int) : Option Nat := if 0 ≤ i then (if i < n then some i.toNat else none) else if -(n : Int) ≤ i then some (i + n).toNat else none
def atI {α : Type} (xs : List α) (i : Int) : Option α := (ixN xs.length i).bind fun j => xs[j]?
theorem ixN_seq {n : Nat} {i : Int} {j : Nat} (h : ixN n i = some j) : seqIndex? i n = some j ∧ j < n ∧ -(n : Int) ≤ i ∧ i < n := by
  unfold ixN at h
  by_cases h0 : 0 ≤ i
  · rw [if_pos h0] at h
    by_cases h1 : i < n
    · rw [if_pos h1] at h
      have e : i.toNat = j := Option.some.inj h
      exact ⟨by rw [seqIndex_of h0 h1, e], by omega, by omega, h1⟩
    · rw [if_neg h1] at h; cases h
  · rw [if_neg h0] at h
    by_cases h1 : -(n : Int) ≤ i
    · rw [if_pos h1] at h
      have e : (i + n).toNat = j := Option.some.inj h
      exact ⟨by rw [seqIndex_neg (by omega) h1, e], by omega, h1, by omega⟩
    · rw [if_neg h1] at h; cases h
theorem atI_get {α : Type} {xs : List α} {i : Int} {v : α} (h : atI xs i = some v) : ∃ j, seqIndex? i xs.length = some j ∧ xs[j]? = some v ∧ j < xs.length ∧ -(xs.length : Int) ≤ i ∧ i < xs.length := by
  unfold atI at h
  cases e : ixN xs.length i with
  | none => rw [e] at h; cases h
  | some j =>
    rw [e] at h
    obtain ⟨h1, h2, h3, h4⟩ := ixN_seq e
    exact ⟨j, h1, h, h2, h3, h4⟩
theorem atI_nat {α : Type} {xs : List α} {j : Nat} {v : α} (h : xs[j]? = some v) : atI xs (j : Int) = some v := by
  have hj : j < xs.length := (List.getElem?_eq_some_iff.mp h).1
  have e : ixN xs.length (j : Int) = some j := by
    unfold ixN
    rw [if_pos (by omega), if_pos (by omega)]; simp
  unfold atI; rw [e]; exact h
/-! ### what may be subscripted -/
/-- what stands as an index of a plain subscript -/
def PlainIx (b : Expr) : Prop := ∀ o i, subscripted b false o i = operate [o, i] (getItem o i)
/-- a subscript by values -/
def IxR (X : Cx) (r : R2) : Prop :=
  ∀ (value slice : Expr) (pins : List (Addr × Obj)) (s : Shared) (σ : St) (H : Hp) (x y : V) (v u : Value) (Q : VK), Inv X pins σ H s → RelV x v → RelV y u → r x y H Q →
    subscripted slice false v u = operate [v, u] (getItem v u) → wpAny (model X.prog X.w) X.A (subscriptTail value slice v u) (EP X pins σ Q) X.xe s
/-- a call of a builtin's method by values: the receiver, the arguments -/
def MtR (X : Cx) (id : String) (r : V → List V → Hp → VK → Prop) : Prop :=
  ∀ (pins : List (Addr × Obj)) (s : Shared) (σ : St) (H : Hp) (x : V) (xs : List V) (v : Value) (us : List Value) (Q : VK), Inv X pins σ H s → RelV x v → Vals xs us → r x xs H Q →
    wpAny (model X.prog X.w) X.A (call (.builtin id) (v :: us)) (EP X pins σ Q) X.xe s
section
variable {X : Cx} {a b : Expr} {ta tb : TE} {pos : Pos}
theorem IxR.or {r r' : R2} (h : IxR X r) (h' : IxR X r') : IxR X (fun x y H Q => r x y H Q ∨ r' x y H Q) := by
  intro value slice pins s σ H x y v u Q I rx ry q hs
  rcases q with q | q
  · exact h value slice pins s σ H x y v u Q I rx ry q hs
  · exact h' value slice pins s σ H x y v u Q I rx ry q hs
theorem MtR.or {id : String} {r r' : V → List V → Hp → VK → Prop} (h : MtR X id r) (h' : MtR X id r') : MtR X id (fun x xs H Q => r x xs H Q ∨ r' x xs H Q) := by
  intro pins s σ H x xs v us Q I rx rs q
  rcases q with q | q
  · exact h pins s σ H x xs v us Q I rx rs q
  · exact h' pins s σ H x xs v us Q I rx rs q
/-- a[b] -/
theorem pe_ix {r : R2} (hr : IxR X r) (ha : PE X a ta) (hb : PE X b tb) (hs : PlainIx b) : PE X (.Subscript a b pos) (tOp r ta tb) := by
  intro pins s σ H Q I h
  exact Subscript_ (binT ha hb I h fun v u s2 x y H2 I2 rx ry q => hr a b pins s2 σ H2 x y v u Q I2 rx ry q (hs _ _))

def rIxL (K : PySem.W.Frag) : R2 := fun x y H Q => ∃ p xs i v, x = .ref p ∧ y = .int i ∧ SqL K H p xs ∧ atI xs i = some v ∧ Q v H
theorem ix_list : IxR X (rIxL X.K) := by
  intro value slice pins s σ H x y v u Q I rx ry h hs
  obtain ⟨p, xs, i, z, rfl, rfl, hq, he, q⟩ := h
  cases rx
  obtain ⟨t, rfl⟩ := ry
  obtain ⟨its, r, pl, hz⟩ := I.list hq
  obtain ⟨j, h1, h2, h3, h4, h5⟩ := atI_get he
  obtain ⟨w, ew, rw'⟩ := r.get h2
  have hl := r.length
  have hn := line63
  have fin : EP X pins σ Q w s := ⟨z, H, I, rw', q⟩
  by_cases h0 : 0 ≤ i
  · have hj : i.toNat = j := by
      rw [seqIndex_of h0 h5] at h1
      exact Option.some.inj h1
    exact item_listR pl.isList h0 (by omega) (by rw [hj]; simpa using ew) fin hs
  · have hj : (i + (its.toArray.size : Int)).toNat = j := by
      rw [seqIndex_neg (by omega) h4] at h1
      rw [List.size_toArray, ← hl]
      exact Option.some.inj h1
    exact subscriptTail_builtinR (x := w) pl.isList.typeIs slot_list_getitem.lookup
      (wpAny_getItem_list_neg (Q := fun r s' => r = w ∧ EP X pins σ Q r s') pl.isList (by omega) (by rw [List.size_toArray] <;> omega) (by omega) (by rw [hj]; simpa using ew) ⟨rfl, fin⟩) hs
/-! ### xs[i] = v, any sign -/
/-- the list's object behind a store -/
theorem mapSeq_set (its : List Value) (n j : Nat) (u : Value) : Obj.mapSeq (·.setIfInBounds j u) { cls := .type "list", data := .seq its.toArray n } = { cls := .type "list", data := .seq (its.set j u).toArray n } := by
  simp [Obj.mapSeq]
theorem Inv.lst {pins : List (Addr × Obj)} {σ : St} {H : Hp} {s : Shared} {p : Addr} {xs : List V} (I : Inv X pins σ H s) (h : H p = some (.lst xs)) :
    ∃ (its : List Value) (n : Nat), Vals xs its ∧ s.heap.get? p = some { cls := .type "list", data := .seq its.toArray n } ∧ xs.length ≤ sizeLine := by
  obtain ⟨z, its, n, r, e⟩ := I.hok p _ h
  exact ⟨its, n, r, e, z⟩
/-- the list at p is written by an update of its object -/
theorem Inv.lstUpd {pins : List (Addr × Obj)} {σ : St} {H : Hp} {s : Shared} {p : Addr} {xs ys : List V} {its its' : List Value} {n n' : Nat} {f : Obj → Obj} (I : Inv X pins σ H s) (h : H p = some (.lst xs))
    (ho : s.heap.get? p = some { cls := .type "list", data := .seq its.toArray n }) (hf : f { cls := .type "list", data := .seq its.toArray n } = { cls := .type "list", data := .seq its'.toArray n' }) (r : Vals ys its') (hz : ys.length ≤ sizeLine) (t : Nat) :
    Inv X pins σ (upd H p (.lst ys)) { s with heap := s.heap.update p f, toks := t } := by
  have e : (s.heap.update p f).get? p = some { cls := .type "list", data := .seq its'.toArray n' } := by
    rw [Heap.get?_update_self f ho (by rw [hf] <;> rfl), hf]
  refine I.write (x := p) (e := p) (by rw [h]; trivial) (.inl rfl) (fun b u hb q => (Heap.get?_update_other _ _ (Ne.symm hb)).trans q) ⟨_, e⟩ ?_
  exact ⟨hz, its', n', r, e⟩
def rSetL : V → V → V → Hp → (Hp → Prop) → Prop := fun o i v H Q => ∃ p xs k j, o = .ref p ∧ i = .int k ∧ H p = some (.lst xs) ∧ ixN xs.length k = some j ∧ Q (upd H p (.lst (xs.set j v)))
theorem set_list : PSet X rSetL := by
  intro pins s σ H o i v ov iv u Q I ro ri rv h
  obtain ⟨p, xs, k, j, rfl, rfl, hp, hj, q⟩ := h
  cases ro
  obtain ⟨t, rfl⟩ := ri
  obtain ⟨its, n, r, ho, hz⟩ := I.lst hp
  obtain ⟨h1, h2, h3, h4⟩ := ixN_seq hj
  have hl := r.length
  have hn := line63
  have I' : Inv X pins σ (upd H p (.lst (xs.set j v))) { s with heap := s.heap.update p (Obj.mapSeq (·.setIfInBounds j u)) } :=
    I.lstUpd hp ho (mapSeq_set its n j u) (r.set rv j) (by rw [List.length_set]; exact hz) s.toks
  by_cases h0 : 0 ≤ k
  · have hk : k.toNat = j := by
      rw [seqIndex_of h0 h4] at h1
      exact Option.some.inj h1
    exact PySem.W.ki_setAt ho h0 (by omega) (by rw [List.size_toArray, ← hl]; exact h4) (by rw [hk]; exact ⟨_, I', q⟩)
  · have hk : (k + (its.toArray.size : Int)).toNat = j := by
      rw [seqIndex_neg (by omega) h3] at h1
      rw [List.size_toArray, ← hl]
      exact Option.some.inj h1
    exact PySem.W.ki_setBack ho (by omega) (by rw [List.size_toArray, ← hl]; exact h3) (by omega) (by rw [hk]; exact ⟨_, I', q⟩)

/-! ### slices -/
theorem slice_bounds (lo hi : Option Int) (n : Nat) : (sliceBounds lo hi none n).1 = ((HT.sIx n 0 lo : Nat) : Int) ∧ (sliceBounds lo hi none n).2.1 = ((HT.sIx n n hi : Nat) : Int) ∧ (sliceBounds lo hi none n).2.2 = 1 := by
  refine ⟨?_, ?_, rfl⟩
  · cases lo with
    | none => simp [sliceBounds, HT.sIx]
    | some i =>
      simp only [sliceBounds, HT.sIx, Option.getD_none, show (1 : Int) > 0 by decide, if_true]
      by_cases h : i < 0
      · simp only [h, if_true] <;> omega
      · simp only [h, if_false] <;> omega
  · cases hi with
    | none => simp [sliceBounds, HT.sIx]
    | some i =>
      simp only [sliceBounds, HT.sIx, Option.getD_none, show (1 : Int) > 0 by decide, if_true]
      by_cases h : i < 0
      · simp only [h, if_true] <;> omega
      · simp only [h, if_false] <;> omega
theorem slicePick_cut (its : List Value) (lo hi : Option Int) : slicePick its.toArray lo hi none = ((its.drop (HT.sIx its.length 0 lo)).take (HT.sIx its.length its.length hi - HT.sIx its.length 0 lo)).toArray := by
  obtain ⟨h1, h2, h3⟩ := slice_bounds lo hi its.toArray.size
  unfold slicePick
  rw [h1, h2, h3]
  simp only [sliceRange_one, pick_run, List.size_toArray] <;> rfl
/-- xs[lo:hi] of a list: a new list -/
def rSlL (K : PySem.W.Frag) : V → Option Int → Option Int → Hp → VK → Prop := fun x lo hi H Q => ∃ a xs, x = .ref a ∧ SqL K H a xs ∧ ∀ p, H p = none → Q (.ref p) (upd H p (.lst (cutV xs lo hi)))
theorem sl_list : SlR X (rSlL X.K) := by
  intro pins s σ H x v vl vu lo hi sl Q I rx hs pl pu h
  obtain ⟨a, xs, rfl, hx, q⟩ := h
  cases rx
  obtain ⟨its, r, ht, hz⟩ := I.list hx
  have hlen := r.length
  refine ⟨"list", _, slot_list_getitem.lookup, ht.isList.typeIs, ?_⟩
  refine wpAny_getItem_list_slice ht.isList hs pl pu .none (by simp) ?_ (by rw [List.size_toArray] <;> omega)
  rw [slicePick_cut, ← hlen]
  refine ⟨.ref s.heap.objs.size, _, I.laid (t' := s.toks) (o := .lst (cutV xs lo hi)) (fun b ob q => Heap.get?_push_of_some _ q) (Nat.le_refl _) ?_, rfl, q _ (I.hok.fresh (Nat.le_refl _))⟩
  exact ⟨Nat.le_trans (cutV_length xs lo hi) hz, _, 0, (r.drop (HT.sIx xs.length 0 lo)).take (HT.sIx xs.length xs.length hi - HT.sIx xs.length 0 lo), Heap.get?_push_size _ rfl⟩

/-! ### in, not in: flat items -/
def flatV : V → Bool
  | .non => true
  | .bl _ => true
  | .int _ => true
  | .str _ => true
  | _ => false
/-- == of flat values -/
def eqV : V → V → Bool
  | .non, .non => true
  | .bl a, .bl b => a == b
  | .bl a, .int b => (if a then 1 else 0) == b
  | .int a, .bl b => a == (if b then 1 else 0)
  | .int a, .int b => a == b
  | .str a, .str b => a == b
  | _, _ => false
theorem eqAt_V {A : Around} {s : Shared} {y x : V} {u v : Value} (ry : RelV y u) (rx : RelV x v) (fy : flatV y = true) (fx : flatV x = true) : SeqAt.EqAt A s u v (eqV y x) := by
  cases y with
  | non =>
    cases ry
    cases x with
    | non => cases rx; exact SeqAt.EqAt.same _
    | bl b => cases rx; exact SeqAt.EqAt.none_bool b
    | int b => obtain ⟨t, rfl⟩ := rx; exact SeqAt.EqAt.none_int b t
    | str b => obtain ⟨t, rfl⟩ := rx; exact SeqAt.EqAt.none_str b t
    | _ => exact absurd (show false = true from fx) Bool.false_ne_true
  | bl a =>
    cases ry
    cases x with
    | non => cases rx; exact SeqAt.EqAt.bool_none a
    | bl b => cases rx; exact SeqAt.EqAt.bool_bool a b
    | int b => obtain ⟨t, rfl⟩ := rx; exact SeqAt.EqAt.bool_int a b t
    | str b => obtain ⟨t, rfl⟩ := rx; exact SeqAt.EqAt.bool_str a b t
    | _ => exact absurd (show false = true from fx) Bool.false_ne_true
  | int a =>
    obtain ⟨t', rfl⟩ := ry
    cases x with
    | non => cases rx; exact SeqAt.EqAt.int_none a t'
    | bl b => cases rx; exact SeqAt.EqAt.int_bool a t' b
    | int b => obtain ⟨t, rfl⟩ := rx; exact SeqAt.EqAt.int_int a t' b t
    | str b => obtain ⟨t, rfl⟩ := rx; exact SeqAt.EqAt.int_str a t' b t
    | _ => exact absurd (show false = true from fx) Bool.false_ne_true
  | str a =>
    obtain ⟨t', rfl⟩ := ry
    cases x with
    | non => cases rx; exact SeqAt.EqAt.str_none a t'
    | bl b => cases rx; exact SeqAt.EqAt.str_bool a t' b
    | int b => obtain ⟨t, rfl⟩ := rx; exact SeqAt.EqAt.str_int a t' b t
    | str b => obtain ⟨t, rfl⟩ := rx; exact SeqAt.EqAt.str_str a t' b t
    | _ => exact absurd (show false = true from fx) Bool.false_ne_true
  | _ => exact absurd (show false = true from fy) Bool.false_ne_true
/-! ### len, list(x), tuple(x) of any list or tuple that is read -/
theorem call_len_seq : CallR X (.builtin "len") (fun xs H Q => ∃ p ys, xs = [.ref p] ∧ (SqL X.K H p ys ∨ SqT X.K H p ys) ∧ Q (.int ys.length) H) := by
  intro pins s σ H xs us Q I r h
  obtain ⟨p, ys, rfl, hq, q⟩ := h
  obtain ⟨u, rfl, rx⟩ := vals1 r
  cases rx
  have hn := line63
  rcases hq with hq | hq
  · obtain ⟨its, r', pl, hz⟩ := I.list hq
    have hlen := r'.length
    exact Calls.call_len_list pl.isList (by simp only [List.size_toArray] <;> omega) ⟨.int ys.length, H, I.tok _, ⟨s.toks + 1, by rw [List.size_toArray, hlen]⟩, q⟩
  · obtain ⟨its, r', pl, hz⟩ := I.tuple hq
    have hlen := r'.length
    exact len_tuple pl (by simp only [List.size_toArray] <;> omega) ⟨.int ys.length, H, I.tok _, ⟨s.toks + 1, by rw [List.size_toArray, hlen]⟩, q⟩
theorem CallR.or {f : Value} {r r' : List V → Hp → VK → Prop} (h : CallR X f r) (h' : CallR X f r') : CallR X f (fun xs H Q => r xs H Q ∨ r' xs H Q) := by
  intro pins s σ H xs us Q I rs q
  rcases q with q | q
  · exact h pins s σ H xs us Q I rs q
  · exact h' pins s σ H xs us Q I rs q
theorem call_list_of : CallR X (.type "list") (fun xs H Q => ∃ p ys, xs = [.ref p] ∧ (SqL X.K H p ys ∨ SqT X.K H p ys) ∧ ∀ l, H l = none → Q (.ref l) (upd H l (.lst ys))) := by
  intro pins s σ H xs us Q I r h
  obtain ⟨p, ys, rfl, hq, q⟩ := h
  obtain ⟨u, rfl, rx⟩ := vals1 r
  cases rx
  have fin : ∀ (its : List Value), Vals ys its → ys.length ≤ sizeLine → ∀ (h' : Heap) (c' : Nat), (∀ b o', s.heap.get? b = some o' → h'.get? b = some o') →
      h'.get? s.heap.objs.size = some { cls := .type "list", dict := none, data := .seq its.toArray c', slots := #[] } → EP X pins σ Q (.ref s.heap.objs.size) { s with heap := h' } := fun its r' hz h' c' kp e =>
    ⟨.ref s.heap.objs.size, _, I.laid (t' := s.toks) kp (Nat.le_refl _) (show ObjOk X.prog X.w _ h' _ (.lst ys) from ⟨hz, its, c', r', e⟩), rfl, q _ (I.hok.fresh (Nat.le_refl _))⟩
  rcases hq with hq | hq
  · obtain ⟨its, r', pl, hz⟩ := I.list hq
    have hlen := r'.length
    obtain ⟨o, ho, hc, n, hd⟩ := pl.isList
    exact call_list_seq p (.inl rfl) ho hc hd (fun h' c' kp e => fin its r' hz h' c' kp e) (by simp only [List.size_toArray] <;> omega)
  · obtain ⟨its, r', pl, hz⟩ := I.tuple hq
    have hlen := r'.length
    obtain ⟨o, ho, hc, n, hd⟩ := pl
    exact call_list_seq p (.inr rfl) ho hc hd (fun h' c' kp e => fin its r' hz h' c' kp e) (by simp only [List.size_toArray] <;> omega)
theorem call_tuple_of : CallR X (.type "tuple") (fun xs H Q => ∃ p ys, xs = [.ref p] ∧ ((SqL X.K H p ys ∧ ∀ l, H l = none → Q (.ref l) (upd H l (.tup ys))) ∨ (SqT X.K H p ys ∧ Q (.ref p) H))) := by
  intro pins s σ H xs us Q I r h
  obtain ⟨p, ys, rfl, h⟩ := h
  obtain ⟨u, rfl, rx⟩ := vals1 r
  cases rx
  rcases h with ⟨hq, q⟩ | ⟨hq, q⟩
  · obtain ⟨its, r', pl, hz⟩ := I.list hq
    have hlen := r'.length
    refine call_tuple_list pl.isList (fun h' kp => ?_) (by simp only [List.size_toArray] <;> omega)
    have I1 : Inv X pins σ H { s with heap := h' } := I.kept (t' := s.toks) kp
    have I2 : Inv X pins σ (upd H h'.objs.size (.tup ys)) { s with heap := h'.push { cls := .type "tuple", data := .seq its.toArray } } :=
      I1.laid (t' := s.toks) (fun b o e => Heap.get?_push_of_some _ e) (Nat.le_refl _) (show ObjOk X.prog X.w _ _ _ (.tup ys) from ⟨hz, its, r', IsTup.new _ _⟩)
    exact ⟨.ref h'.objs.size, _, I2, rfl, q _ (I1.hok.fresh (Nat.le_refl _))⟩
  · obtain ⟨its, r', pl, hz⟩ := I.tuple hq
    exact call_tuple_same pl ⟨.ref p, H, I, rfl, q⟩

/-! ### the call of a builtin's method: o.m(..) -/
/-- the value is of that builtin type -/
def tyV (K : PySem.W.Frag) (T : String) (x : V) (H : Hp) : Prop := match x with
  | .str _ => T = "str"
  | .int _ => T = "int"
  | .ref p => (T = "list" ∧ ∃ xs, SqL K H p xs) ∨ (T = "tuple" ∧ ∃ o, K.lookup p = some o ∧ o.cls = .type "tuple" ∧ o.dict = none) ∨
      (T = "dict" ∧ ((∃ kvs, H p = some (.dK kvs)) ∨ ∃ kvs, H p = some (.dT kvs))) ∨ (T = "set" ∧ ∃ S n, H p = some (.set S n))
  | _ => False
theorem tyV_is {pins : List (Addr × Obj)} {σ : St} {H : Hp} {s : Shared} {T : String} {x : V} {v : Value} (I : Inv X pins σ H s) (r : RelV x v) (ty : tyV X.K T x H) :
    s.TypeIs v T ∧ ∀ a, v = .ref a → ∃ ob, s.heap.get? a = some ob ∧ ob.dict = none := by
  cases x with
  | str z =>
    obtain ⟨t, rfl⟩ := r
    cases (show T = "str" from ty)
    exact ⟨typeIs_str s z t, fun _ e => nomatch e⟩
  | int i =>
    obtain ⟨t, rfl⟩ := r
    cases (show T = "int" from ty)
    exact ⟨typeIs_int s i t, fun _ e => nomatch e⟩
  | ref p =>
    cases r
    rcases ty with ⟨rfl, xs, hq⟩ | ⟨rfl, o, hk, hc, hd⟩ | ⟨rfl, hk⟩ | ⟨rfl, S, n, hk⟩
    · obtain ⟨its, _, pl, _⟩ := I.list hq
      refine ⟨pl.isList.typeIs, fun a e => ?_⟩
      cases e
      obtain ⟨o, n, e, c, hd, _⟩ := pl
      exact ⟨o, e, hd⟩
    · refine ⟨⟨o, I.kIn p o hk, hc⟩, fun a e => ?_⟩
      cases e
      exact ⟨o, I.kIn _ o hk, hd⟩
    · have z : ∃ o, s.heap.get? p = some o ∧ o.ExactDict := by
        rcases hk with ⟨kvs, hk⟩ | ⟨kvs, hk⟩
        · obtain ⟨_, _, _, _, o, _, _, e, ex, _⟩ := I.hok p _ hk
          exact ⟨o, e, ex⟩
        · obtain ⟨_, _, _, _, o, _, _, e, ex, _⟩ := I.hok p _ hk
          exact ⟨o, e, ex⟩
      obtain ⟨o, e, ex⟩ := z
      refine ⟨⟨o, e, ex.1⟩, fun a e2 => ?_⟩
      cases e2
      exact ⟨o, e, ex.2.1⟩
    · obtain ⟨o, _, _, _, e, ex, _⟩ := I.hok p _ hk
      refine ⟨⟨o, e, ex.1⟩, fun a e2 => ?_⟩
      cases e2
      exact ⟨o, e, ex.2.1⟩
  | _ => exact False.elim ty
def tBM (K : PySem.W.Frag) (T : String) (r : V → List V → Hp → VK → Prop) (to : TE) (t : TA) : TE := fun σ H Q => to σ H fun x H1 => tyV K T x H1 ∧ t σ H1 fun xs H2 => r x xs H2 Q
variable {o e : Expr} {es : List Expr} {to : TE} {t : TA} {name : Str} {apos cpos : Pos} {T id : String} {r : V → List V → Hp → VK → Prop}
theorem pe_bm (pa : PlainAttrs T) (slot : Slot T name id) (hty : typeOf (.builtin id) = pure (.type "method_descriptor")) (hm : MtR X id r) (ho : PE X o to) (ha : PA X (e :: es) t)
    (hbase : attributeBase o name X.env (eval o X.env) = eval o X.env := by rfl)
    (hfew : ((backTo cpos (starEach (e :: es) X.env)).all (fun x => !x.1) && (backToKw cpos (keywordEach [] X.env)).all (fun x => x.1.isSome)
      && decide ((e :: es).length + ([] : List Keyword).length + (if ([] : List Keyword).isEmpty then 0 else 1) < 30)) = true := by rfl)
    (hline : (apos.endLine == cpos.line) = true := by rfl) (hs : starEach (e :: es) X.env = (false, eval e X.env) :: starEach es X.env := by rfl) (hplain : (backTo cpos (starEach es X.env)).any (·.1) = false := by rfl) :
    PE X (.Call (.Attribute o name apos) (e :: es) [] cpos) (tBM X.K T r to t) := by
  intro pins s σ H Q I h
  refine wpAny_Call_method_late hbase hfew hline rfl (thn (ho pins s σ H _ I h) fun v s1 ⟨x, H1, I1, r1, ty, q1⟩ => ?_)
  obtain ⟨h1, h2⟩ := tyV_is I1 r1 ty
  refine ⟨T, id, pa, slot, hty, h1, h2, ?_⟩
  have hA := ha cpos pins s1 σ H1 _ I1 q1
  rw [hs] at hA ⊢
  refine Calls.callWith_builtin (by show (false || (backTo cpos (starEach es X.env)).any (·.1)) = false; rw [hplain] <;> rfl) (Calls.evalArgs_plain ?_)
  exact thn hA fun us s2 ⟨vs, H2, I2, r2, q2⟩ => hm pins s2 σ H2 x vs v us Q I2 r1 r2 q2
/- xs.append(e), list.index on a module's tuple .. are MtR facts of 06m -/
end
end L2

namespace L2
open PySem PySem.Spec PyProof.Rows

def MtM (X : Cx) (id : String) (r : V → List V → Hp → VK → Prop) : Prop :=
  ∀ (pins : List (Addr × Obj)) (s : Shared) (σ : St) (H : Hp) (x : V) (xs : List V) (v : Value) (us : List Value) (Q : VK), Inv X pins σ H s → RelV x v → Vals xs us → r x xs H Q →
    wpAny (model X.prog X.w) X.A (call (.builtin id) (v :: us)) (EP X pins σ Q) X.xe s

/-! ### lists of values -/
theorem Vals.one : ∀ {x : V} {us : List Value}, Vals [x] us → ∃ u, us = [u] ∧ RelV x u
  | _, _, .cons r .nil => ⟨_, rfl, r⟩
theorem Vals.two : ∀ {x y : V} {us : List Value}, Vals [x, y] us → ∃ u v, us = [u, v] ∧ RelV x u ∧ RelV y v
  | _, _, _, .cons r (.cons q .nil) => ⟨_, _, rfl, r, q⟩
theorem Vals.zero : ∀ {us : List Value}, Vals [] us → us = []
  | _, .nil => rfl
theorem Vals.rep {xs : List V} {us : List Value} (h : Vals xs us) : ∀ k : Nat, Vals (List.replicate k xs).flatten (List.replicate k us).flatten
  | 0 => .nil
  | k + 1 => by
    rw [List.replicate_succ, List.replicate_succ, List.flatten_cons, List.flatten_cons]
    exact Vals.append h (Vals.rep h k)
theorem foldl_rep (its : List Value) : ∀ (k : Nat) (acc : List Value),
    List.foldl (fun x1 x2 => x1 ++ x2) acc.toArray (List.replicate k its.toArray) = (acc ++ (List.replicate k its).flatten).toArray
  | 0, acc => by simp
  | k + 1, acc => by
    have e : acc.toArray ++ its.toArray = (acc ++ its).toArray := by simp
    have e2 : (acc ++ its) ++ (List.replicate k its).flatten = acc ++ (List.replicate (k + 1) its).flatten := by
      rw [List.replicate_succ, List.flatten_cons, List.append_assoc]
    rw [← e2, ← foldl_rep its k (acc ++ its), ← e, List.replicate_succ, List.foldl_cons]

section
variable {X : Cx} {pins : List (Addr × Obj)} {σ : St} {H : Hp} {s : Shared} {l b : Addr} {xs ys zs : List V}

/-! ### the two steps: a tracked list is rewritten, a new list is laid -/
theorem Inv.lset {its its' : List Value} {n : Nat} {f : Array Value → Array Value} {t' : Nat} (I : Inv X pins σ H s) (hH : H l = some (.lst xs))
    (e : s.heap.get? l = some { cls := .type "list", data := .seq its.toArray n }) (hf : f its.toArray = its'.toArray) (hv : Vals ys its') (hz : ys.length ≤ sizeLine) :
    Inv X pins σ (upd H l (.lst ys)) { s with heap := s.heap.update l (Obj.mapSeq f), toks := t' } := by
  have q := PySem.IsL.update e f
  rw [hf] at q
  refine I.write (x := l) (e := l) (by rw [hH]; exact trivial) (.inl rfl) (fun b' u hb hu => (Heap.get?_update_other s.heap (Obj.mapSeq f) (Ne.symm hb)).trans hu) ⟨_, q⟩ ?_
  exact ⟨hz, its', _, hv, q⟩
theorem Inv.lnew {its : List Value} {t' : Nat} (I : Inv X pins σ H s) (hv : Vals ys its) (hz : ys.length ≤ sizeLine) :
    Inv X pins σ (upd H s.heap.objs.size (.lst ys)) { s with heap := s.heap.push { cls := .type "list", data := .seq its.toArray }, toks := t' } :=
  I.laid (fun _ _ q => Heap.get?_push_of_some _ q) (Nat.le_refl _) ⟨hz, its, 0, hv, Heap.get?_push_size _ rfl⟩
theorem Inv.fresh (I : Inv X pins σ H s) : H s.heap.objs.size = none := I.hok.fresh (Nat.le_refl _)
theorem Inv.lstM (I : Inv X pins σ H s) (hH : H l = some (.lst xs)) : xs.length ≤ sizeLine ∧ ∃ (its : List Value) (n : Nat), Vals xs its ∧ xs.length = its.length ∧ s.heap.get? l = some { cls := .type "list", data := .seq its.toArray n } := by
  obtain ⟨z, its, n, r, e⟩ := I.hok l _ hH
  exact ⟨z, its, n, r, r.length, e⟩

theorem notLongL {n : Nat} (h : n ≤ sizeLine) : Builtin.List.listTooLong n = false := by
  unfold Builtin.List.listTooLong
  exact decide_eq_false (by omega)
end

section
variable {X : Cx}

/-! ### methods -/
def rAppend : V → List V → Hp → VK → Prop := fun x vs H Q => ∃ l xs y, x = .ref l ∧ vs = [y] ∧ H l = some (.lst xs) ∧ xs.length < sizeLine ∧ Q .non (upd H l (.lst (xs ++ [y])))
theorem mt_append : MtM X "list.append" rAppend := by
  intro pins s σ H x vs v us Q I rx rv h
  obtain ⟨l, xs, y, rfl, rfl, hH, hz, q⟩ := h
  cases rx
  obtain ⟨u, rfl, ru⟩ := rv.one
  obtain ⟨z, its, n, r, hl, e⟩ := I.lstM hH
  refine call_meets F.slot_list_append ⟨_, e, rfl⟩ F.entry_list_append (F.args_list_append_2 _ _) (PySem.list_append l its.toArray n u (by rw [List.size_toArray]; omega)) ⟨e, ?_⟩
  refine ⟨.non, _, I.lset (its' := its ++ [u]) hH e (by simp) (r.append (.cons ru .nil)) ?_, rfl, q⟩
  rw [List.length_append, List.length_singleton]
  omega

/-! ### list + list, list += list, list * int -/
/-- a list times an int (a negative one is nothing) -/
def rRep : R2 := fun x y H Q => ∃ l k xs, x = .ref l ∧ y = .int k ∧ H l = some (.lst xs) ∧ -(2 ^ 63) ≤ k ∧ k < 2 ^ 63 ∧ xs.length * k.toNat ≤ sizeLine ∧
  ∀ p, H p = none → Q (.ref p) (upd H p (.lst (List.replicate k.toNat xs).flatten))
theorem len_rep {α : Type} (xs : List α) (k : Nat) : (List.replicate k xs).flatten.length = k * xs.length := by
  induction k with
  | zero => simp
  | succ k ih => rw [List.replicate_succ, List.flatten_cons, List.length_append, ih, Nat.succ_mul, Nat.add_comm]
theorem op_rep : OpR X (binaryOp .Mult) rRep := by
  intro pins s σ H x y v u Q I rx ry h
  obtain ⟨l, k, xs, rfl, rfl, hH, h1, h2, hz, q⟩ := h
  cases rx
  obtain ⟨t, rfl⟩ := ry
  obtain ⟨z, its, n, r, hl, e⟩ := I.lstM hH
  have hlen : its.toArray.size * k.toNat ≤ sizeLine := by rw [List.size_toArray, ← hl]; exact hz
  have hcap : ¬ its.toArray.size * k.toNat > (2 ^ 63 - 1) / 8 := by
    have : (sizeLine : Nat) ≤ (2 ^ 63 - 1) / 8 := by decide
    omega
  have hfit : ¬ (!Builtin.List.listFitsIndex k) = true := by
    rw [fitsIndex_both h1 h2]
    exact Bool.false_ne_true
  have hlong : ¬ Builtin.List.listTooLong (its.toArray.size * k.toNat) = true := by
    rw [notLongL hlen]
    exact Bool.false_ne_true
  have hnew : List.foldl (fun x1 x2 => x1 ++ x2) #[] (List.replicate (if its.toArray.isEmpty = true then 0 else k.toNat) its.toArray) = (List.replicate k.toNat its).flatten.toArray := by
    have f0 : ∀ m : Nat, List.foldl (fun x1 x2 => x1 ++ x2) #[] (List.replicate m its.toArray) = (List.replicate m its).flatten.toArray := fun m => by
      have := foldl_rep its m []
      rw [List.nil_append] at this
      exact this
    rw [f0]
    cases its with
    | nil => simp
    | cons a r' => rw [if_neg (by simp)]
  refine wpAny_binaryOp_repeat_ref (T := "list") (U := "int") (by decide) ⟨_, e, rfl⟩ (fun s' => typeIs_int s' k t) noFill_list_mul F.fills_int_mul F.slot_int_rmul repeat_list F.slot_int_index.lookup
    (call_meets F.slot_int_rmul (typeIs_int s k t) F.entry_int_rmul (F.args_int_rmul_2 _ _) (int___rmul___int_list k t l its.toArray n)
      ⟨e, rfl, ⟨_, e, rfl⟩, call_meets F.slot_list_mul ⟨_, e, rfl⟩ F.entry_list_mul (F.args_list_mul_2 _ _) (AutoListH.list___mul___list_int_3 l its.toArray n k t hfit hcap hlong) ⟨e, ?_⟩⟩)
  rw [hnew]
  exact ⟨.ref _, _, I.lnew (t' := s.toks) (r.rep k.toNat) (by rw [len_rep, Nat.mul_comm]; exact hz), rfl, q _ I.fresh⟩

/-! ### del xs[i] -/
end

/-! ### xs[a:b] = ys -/
section
variable {prog : Program} {w : World} {A : Around} {E : Value → Shared → Prop} {s : Shared}
end

section
variable {X : Cx}
end
end L2

namespace Att
open PySem PySem.W PySem.Calls PyProof.Rows

/-! ### the script -/
theorem ints_of_wellAll {P : Params} {h : Heap} : ∀ (ns : List Int) (vs : List Value), WellAll P h vs (ns.map WData.int) → IntsAre vs ns := by
  intro ns
  induction ns with
  | nil =>
    intro vs w
    rw [List.map_nil] at w
    cases w
    exact .nil
  | cons n ns ih =>
    intro vs w
    rw [List.map_cons] at w
    cases w with
    | cons a b =>
      cases a
      exact .cons _ _ (ih _ b)

theorem script_of {l : OpenLaw} {n : Nat} (hn : l.most = some n) {P : Params} {h : Heap} {args : List WData} {vals : List Value}
    (hpre : l.row.toRowW.claim.pre args = true) (hwl : WellAll P h vals args) :
    ∃ a vs ns, vals = [Value.ref a] ∧ args = [WData.list (ns.map WData.int)] ∧ h.get? a = some { cls := .type "list", data := .seq vs.toArray } ∧ IntsAre vs ns ∧ ns.length ≤ n := by
  have hsh : WShape.hasAll [] args [.list .int] = true := (pre_splitW hpre).1
  have hc : l.pre.holds [] { args := args } = true := (pre_splitW hpre).2
  obtain ⟨d, r, rfl, h1, h2⟩ := hasAllW_cons hsh
  obtain rfl := hasAllW_nil h2
  obtain ⟨xs, rfl, h3⟩ := hasW_list h1
  obtain ⟨ns, rfl⟩ := items_int h3
  have hlen : ns.length ≤ n := by
    unfold OpenLaw.pre at hc
    have h4 : (WTm.not (.lt (.lit (.int (n : Int))) (.len (.arg 0)))).holds [] { args := [.list (ns.map .int)] } = true := by
      have h4 := (holds_andW hc).1
      rw [hn] at h4
      exact h4
    have h5 := condW_of h4 (w_not (w_lt w_lit (w_len_list (w_arg rfl))))
    rw [List.length_map] at h5
    refine Nat.le_of_not_lt fun q => ?_
    have q' : (n : Int) < ((ns.length : Nat) : Int) := by omega
    first
      | (rw [decide_eq_true q'] at h5; exact absurd h5 (by decide))
      | (simp at h5; omega)
  cases hwl with
  | cons w1 w2 =>
    cases w2
    cases w1 with
    | list ho hall => exact ⟨_, _, ns, rfl, rfl, ho, ints_of_wellAll ns _ hall, hlen⟩

theorem post_true (l : OpenLaw) (args : List WData) : l.row.toRowW.claim.post args (.bool true) args = true :=
  postW_of (r := l.row.toRowW) (X := (true == true))
    (show WShape.has [] (.bool true) .bool = true by first | rfl | decide | simp [WShape.has, WShape.arms, WShape.armsAll])
    (show (WTm.eq .res (.lit (.bool true))).value [] { args := args, res := some (.bool true), after := args } = some (.bool (true == true)) from w_eq_bool (w_res rfl) w_lit) rfl

/-! ### the attachment: holds_open's last premise (the goal 'hc' behind k_head) from a wpAny of the law's body -/
/-- the same from a codeAny of the CALL (for a layer whose function contracts speak of calls) -/
theorem attach_call {l : OpenLaw} {n : Nat} {q : Program} {loose : List Str} {XP : (Str → Option Value) → Heap → Prop} {YP : World → Heap → Prop} {d : DefRec}
    (hn : l.most = some n) (hdf : d.params.defaults = [])
    (call : ∀ (w : World) (s₀ s₁ : Shared) (mg mb : Str → Option Value) (fa : Addr) (o : Obj) (pm cd doc : Value) (a : Addr) (vs : List Value) (ns : List Int),
      Ground q loose [] XP w s₀ mg mb s₁.heap → YP w s₁.heap →
      s₁.heap.get? fa = some o → o.data = .func (docDef d.name d.params d.body d.scope pm cd doc) → s₁.heap.CodeRec cd d.name → mg d.name = some (.ref fa) →
      s₁.heap.get? a = some { cls := .type "list", data := .seq vs.toArray } → IntsAre vs ns → ns.length ≤ n → s₁.gens = #[] →
      codeAny (model l.prog w) callerA (.call (.ref fa) ⟨[.ref a], []⟩) (fun r s' => r = .ok (.ret (.bool true)) ∧ OldK s₁.heap s'.heap ∧ s'.os = s₁.os ∧ AllBare s'.gens) s₁) :
    WalkO q loose XP YP l.row.toRowW d [] (fun f vs => PySem.call f vs) := by
  intro w s₀ s₁ mg mb G Y fa o pm cd doc dV kV ho hd hcd hD hmg hg args vals as hpre hlay hrd hwl hlo
  obtain rfl : dV = .none := Dflts.none hD hdf
  obtain rfl : kV = .none := Dflts.noKw hD
  obtain ⟨a, vs, ns, rfl, rfl, hobj, hints, hlen⟩ := script_of hn hpre hwl
  refine enter_call (codeAny_mono (call w s₀ s₁ mg mb fa o pm cd doc a vs ns G Y ho (fd_plain hd) hcd hmg hobj hints hlen hg) fun r s' hq => ?_)
  obtain ⟨rfl, h2, h3, h4⟩ := hq
  exact ⟨.inl ⟨.bool true, .bool true, [], rfl, fun _ => rfl, .bool true, post_true l _, fun _ => ⟨List.Pairwise.nil, fun _ hm => (nomatch hm)⟩⟩, h2, h3, h4⟩

/-! ### rules over ANY heap (no ledger) from facts about the written part K: the library's own take a ledger (News) for what they write -/
section
variable {prog : Program} {w : World} {A : Around} {E : Value → Shared → Prop} {s : Shared} {K : Frag}

/-! the whole heap as the ledger: makes every rule that writes through a ledger a rule over any heap -/
end
end Att

namespace L2
open PySem PySem.Spec PyProof.Rows

theorem vals_ints : ∀ {vs : List Value} {ns : List Int}, IntsAre vs ns → Vals (ns.map V.int) vs
  | _, _, .nil => .nil
  | _, _, .cons n t h => .cons ⟨t, rfl⟩ (vals_ints h)

/-- nothing is tracked but the script, known to the object (or it is an object of the module) -/
def Only (H : Hp) : Prop := ∀ b, H b = none ∨ ∃ o xs, H b = some (.frz o (.lst xs))

/-- THE HEAD: the law's promise, at the heap behind the top. F, the promise of the law's def, may use that base is part of the heap (so K.In base, base.Ns mainGlobals mg stand in Mod) -/
theorem law_call {P : Program} {w : World} {K : PySem.W.Frag} {mg mb : Str → Option Value} {CX : CXT} {k : Nat} {fa a : Addr} {fd : FuncData} {x : Str} {sp : Sp} {s₁ : Shared} {vs : List Value} {ns : List Int}
    (KX : K.In s₁.heap) (hns : s₁.heap.Ns mainGlobals mg) (hb : s₁.heap.Ns builtinsNs mb) (hbb : ∀ x : Str, x ≠ "__name__" → mb x = bootBuiltins x) (hlim : s₁.heap.NoLimit) (hg : s₁.gens = #[])
    (ha : s₁.heap.get? a = some { cls := .type "list", data := .seq vs.toArray }) (hi : IntsAre vs ns) (hl : ns.length ≤ sizeLine) (hr : Room k callerA)
    (F : ∀ base : Heap, K.In base → base.Ns mainGlobals mg → FnOk P w K mg base CX k fa fd [x] sp) (hbind : ∀ (s : Shared) (u : Value), BindsTo s fd ⟨[u], []⟩ [(x, u)])
    (hsp : ∀ H : Hp, Only H → SqL K H a (ns.map V.int) → sp [.ref a] H (fun v _ => v = .bl true) fun _ _ _ => False)
    (hCX : ∀ H e s', CX [] H s₁ (fun _ _ _ => False) e s' → False) :
    codeAny (model P w) callerA (.call (.ref fa) ⟨[.ref a], []⟩) (fun r s' => r = .ok (.ret (.bool true)) ∧ OldK s₁.heap s'.heap ∧ s'.os = s₁.os ∧ AllBare s'.gens) s₁ := by
  have rv := vals_ints hi
  have lenV := hi.length
  -- from an abstract heap in which nothing but the script may be tracked
  have core : ∀ H : Hp, Only H → SqL K H a (ns.map V.int) → HOk P w H s₁.heap → (∀ b, H b ≠ none → b = a) → (H a ≠ none → K.lookup a = none) →
      codeAny (model P w) callerA (.call (.ref fa) ⟨[.ref a], []⟩) (fun r s' => r = .ok (.ret (.bool true)) ∧ OldK s₁.heap s'.heap ∧ s'.os = s₁.os ∧ AllBare s'.gens) s₁ := by
    intro H hO hS hok hA hK
    have base_of : ∀ {b : Addr} {o : Obj}, s₁.heap.get? b = some o → H b = none → (hidT s₁.heap H).get? b = some o := fun e n => hidT_get e n
    have noA : ∀ {b : Addr} {o : Obj} {es : Array DictEntry} {ep : Nat}, s₁.heap.get? b = some o → o.data = .dict es ep → H b = none := fun {b o es ep} e d => by
      cases q : H b with
      | none => rfl
      | some u =>
        have e' : b = a := hA b (by rw [q]; simp)
        subst e'
        rw [ha] at e; cases e
        have d' : Data.seq vs.toArray _ = Data.dict es ep := d
        cases d'
    have nsK : ∀ {b : Addr} {m : Str → Option Value}, s₁.heap.Ns b m → (hidT s₁.heap H).Ns b m := fun {b m} ⟨o, es, ep, e, d, r⟩ => ⟨o, es, ep, base_of e (noA e d), d, r⟩
    have hKb : K.In (hidT s₁.heap H) := fun b o e => base_of (KX b o e) (by
      cases q : H b with
      | none => rfl
      | some u =>
        have e' : b = a := hA b (by rw [q]; simp)
        subst e'
        rw [hK (by rw [q]; simp)] at e; cases e)
    have hM : Mod K mg (hidT s₁.heap H) := ⟨hKb, nsK hns, ⟨mb, nsK hb, hbb⟩, let ⟨mc, h1, h2⟩ := hlim; ⟨mc, nsK h1, h2⟩⟩
    have e0 : Env0 P w K mg (hidT s₁.heap H) callerA [] s₁ H := ⟨rfl, hM, fun b o e => of_hidT e, Nat.le_of_eq (hidT_size _ _), trivial, fun b hb => absurd (show b ∈ ([] : List Addr) from hb) (by simp), hok, .of_eq hg⟩
    refine codeAny_mono ((F _ hKb (nsK hns)).run callerA [] s₁ H ⟨[.ref a], []⟩ [.ref a] [.ref a] _ _ hr e0 (hbind s₁ (.ref a)) (.cons rfl .nil) (hsp H hO hS)) fun r s' h => ?_
    cases r with
    | error e => exact (hCX H e s' h).elim
    | ok fl =>
      cases fl with
      | next => exact False.elim h
      | brk => exact False.elim h
      | cont => exact False.elim h
      | ret u =>
        obtain ⟨v, H', os, bare, un, hok', r', q⟩ := h
        have q' : v = .bl true := q
        subst q'
        obtain rfl : u = Value.bool true := r'
        refine ⟨rfl, OldK.of_keep fun b o e => ?_, os, bare⟩
        cases q : H b with
        | none => exact un.keep b o e q (by intro z; exact absurd (show b ∈ ([] : List Addr) from z) (by simp)) (by simp)
        | some u =>
          rcases hO b with z | ⟨ob, xs, z⟩
          · rw [q] at z; cases z
          · have z2 := un.frzs b ob _ z
            obtain ⟨e1, _⟩ := hok b _ z
            obtain ⟨e2, _⟩ := hok' b _ z2
            rw [e] at e1; cases e1
            exact e2
  cases hk : K.lookup a with
  | some o =>
    -- the script is one of the module's own objects
    have e := KX a o hk
    rw [ha] at e
    cases e
    refine core (fun _ => none) (fun _ => .inl rfl) (.inr ⟨_, vs.toArray, _, hk, rfl, rfl, rfl, by rw [List.size_toArray, lenV]; exact hl, by simpa using rv⟩) (fun b u z => by have z' : (none : Option HO) = some u := z; cases z') (fun b z => absurd rfl z) fun z => absurd rfl z
  | none =>
    refine core (fun b => if b = a then some (.frz { cls := .type "list", data := .seq vs.toArray } (.lst (ns.map V.int))) else none) (fun b => ?_) (.inl (.inr ⟨{ cls := .type "list", data := .seq vs.toArray }, if_pos rfl⟩)) (fun b u z => ?_) (fun b z => ?_) fun _ => hk
    · by_cases hb : b = a
      · exact .inr ⟨_, _, if_pos hb⟩
      · exact .inl (if_neg hb)
    · by_cases hb : b = a
      · have z' := (if_pos hb).symm.trans z
        cases z'
        subst hb
        exact ⟨ha, by rw [List.length_map]; exact hl, vs, _, rv, ha⟩
      · have z' := (if_neg hb).symm.trans z
        cases z'
    · by_cases hb : b = a
      · exact hb
      · exact absurd (if_neg hb) z
end L2

namespace L2
open PySem PySem.Spec PyProof.Rows

abbrev KOf {K : PySem.W.Frag} {h : Heap} (_ : K.In h) : PySem.W.Frag := K

/-- the goal that k_head leaves (case hc), from the law's promise. F gives the function object fd (K's own) once, then the promise over every base -/
theorem walk_of {l : PySem.W.OpenLaw} {n k : Nat} {q : Program} {loose : List Str} {XP : (Str → Option Value) → Heap → Prop} {YP : World → Heap → Prop} {d : DefRec} {K : Params → PySem.W.Frag} {CX : World → CXT} {sp : World → Sp} {x : Str}
    (hn : l.most = some n) (hn2 : n ≤ sizeLine) (hdf : d.params.defaults = []) (hr : Room k callerA)
    (hY : ∀ (w : World) (h : Heap), YP w h → (K w.params).In h)
    (F : ∀ (w : World) (mg : Str → Option Value) (fa : Addr) (h : Heap), (K w.params).In h → h.Ns mainGlobals mg → mg d.name = some (.ref fa) →
      ∃ fd : FuncData, (∀ (s : Shared) (u : Value), BindsTo s fd ⟨[u], []⟩ [(x, u)]) ∧
        ∀ base : Heap, (K w.params).In base → base.Ns mainGlobals mg → FnOk l.prog w (K w.params) mg base (CX w) k fa fd [x] (sp w))
    (hsp : ∀ (w : World) (H : Hp) (a : Addr) (ns : List Int), ns.length ≤ n → Only H → SqL (K w.params) H a (ns.map V.int) → sp w [.ref a] H (fun v _ => v = .bl true) fun _ _ _ => False)
    (hCX : ∀ (w : World) (H : Hp) (s : Shared) (e : Value) (s' : Shared), CX w [] H s (fun _ _ _ => False) e s' → False) :
    PySem.W.WalkO q loose XP YP l.row.toRowW d [] (fun f vs => PySem.call f vs) := by
  refine Att.attach_call hn hdf fun w s₀ s₁ mg mb fa o pm cd doc a vs ns G Y ho hd hcd hmg hobj hints hlen hg => ?_
  have KX := hY w _ Y
  obtain ⟨fd, hb, hF⟩ := F w mg fa _ KX G.T.g hmg
  exact law_call KX G.T.g G.T.b G.T.builtins G.T.nolimit hg hobj hints (Nat.le_trans hlen hn2) hr hF hb (fun H hO hS => hsp w H a ns hlen hO hS) fun H e s' => hCX w H s₁ e s'
end L2


/-! SHORT WORDS over the layer: a def of the text, its body, what a loop and a test want. -/
namespace L2
open PySem PySem.Spec PyProof.Rows

/-! ### the text by places -/
def defArgs (s : Stmt) : Arguments := match s with
  | .FunctionDef _ a _ _ _ _ _ _ _ _ => a
  | _ => { posonlyargs := [], args := [], vararg := none, kwonlyargs := [], kw_defaults := [], kwarg := none, defaults := [] }
def defBody (s : Stmt) : List Stmt := match s with
  | .FunctionDef _ _ b _ _ _ _ _ _ _ => b
  | _ => []
def defScope (s : Stmt) : Scope := match s with
  | .FunctionDef _ _ _ _ _ _ sc _ _ _ => sc
  | _ => { kind := .function, names := [], isGenerator := false, isCoroutine := false }

/-! ### no exception leaves a def -/
abbrev CX0 : CXT := fun _ _ _ _ _ _ => False
abbrev E0 : XK := fun _ _ _ => False
/-! ### a def (or method) of the text as it stands behind the top -/
structure Fun (K : PySem.W.Frag) (x qual : Str) (st : Stmt) (f : Addr) (fd : FuncData) : Prop where
  ex : ∃ (oc : Value) (od : Option Addr) (kV doc pm : Value) (an : Option Addr) (cdv ct : Value) (osl : Array (Option Value)),
    fd = PySem.W.fnOf x qual (defArgs st) (defBody st) (defScope st) .none kV doc pm an cdv ct ∧ K.lookup f = some ⟨oc, od, .func fd, osl⟩ ∧ PySem.W.codeIn K cdv qual = true
  kp : PySem.W.keepIn K (.ref f) = true
section
variable {P : Program} {w : World} {K : PySem.W.Frag} {mg : Str → Option Value} {base : Heap}
/-- THE RULE for a def: its body as a term of rules, and the reading of that term -/
theorem Fun.ok {x qual : Str} {st : Stmt} {f : Addr} {fd : FuncData} {N ps : List Str} {k : Nat} {sp : Sp} (F : Fun K x qual st f fd) (S : FnScope N ps (defScope st)) (len : ∀ vs H Q E, sp vs H Q E → vs.length = ps.length)
    (hbody : ∀ (cdv : Value) (A : Around) (outer : List Env) (s : Shared) (H : Hp) (vs : List V) (Q : VK) (E : XK), Room k (A.deeper (envOfC qual (defScope st) s.heap.objs.size f cdv)) → sp vs H Q E →
      ∃ t, PSs (cxOf CX0 P w K mg base N qual (defScope st) f cdv A outer s H E).nox (defBody st) t ∧ t { nx := fun _ H' => Q .non H', rt := Q } (start N vs) H) : FnOk P w K mg base CX0 (k + 1) f fd ps sp := by
  obtain ⟨oc, od, kV, doc, pm, an, cdv, ct, osl, rfl, lk, hcd⟩ := F.ex
  refine fn_of lk hcd S len fun A outer s H vs Q E hr hsp => ?_
  obtain ⟨t, h, q⟩ := hbody cdv A outer s H vs Q E hr hsp
  exact ⟨t, h.nox, q⟩
/-- how its arguments bind (no defaults): h is «fun _ _ _ _ _ _ us hl => match us, hl with | [_, _], _ => rfl», one _ a parameter -/
theorem Fun.binds {x qual : Str} {st : Stmt} {f : Addr} {fd : FuncData} {ps : List Str} (F : Fun K x qual st f fd)
    (h : ∀ (kV doc pm : Value) (an : Option Addr) (cdv ct : Value) (us : List Value), us.length = ps.length → bindArgs (PySem.W.fnOf x qual (defArgs st) (defBody st) (defScope st) .none kV doc pm an cdv ct) ⟨us, []⟩ = pure (ps.zip us)) : Binds K fd ps [] := by
  obtain ⟨oc, od, kV, doc, pm, an, cdv, ct, osl, rfl, lk, hcd⟩ := F.ex
  exact .all (h kV doc pm an cdv ct)
theorem fun_mk {x qual : Str} {st : Stmt} {f : Addr} {oc : Value} {od an : Option Addr} {osl : Array (Option Value)} {kV doc pm cdv ct : Value} (l : K.lookup f = some ⟨oc, od, .func (PySem.W.fnOf x qual (defArgs st) (defBody st) (defScope st) .none kV doc pm an cdv ct), osl⟩)
    (c : PySem.W.codeIn K cdv qual = true) (k : PySem.W.keepIn K (.ref f) = true) : Fun K x qual st f (PySem.W.fnOf x qual (defArgs st) (defBody st) (defScope st) .none kV doc pm an cdv ct) := ⟨⟨oc, od, kV, doc, pm, an, cdv, ct, osl, rfl, l, c⟩, k⟩
end
theorem hu_of {A : Around} {k : Nat} (hr : Room k A) : A.units + 1 < cLine := Nat.lt_of_le_of_lt (Nat.add_le_add_left (by decide : 1 ≤ 64) _) hr.units
/-! ### expressions in short: the name that stands in the i-th slot -/
section
variable {X : Cx}
theorem pv (i : Nat) {x : Str} {pos : Pos} (hN : X.N[i]? = some x := by rfl) (hv : Vis X.env.scope x := by first | exact Or.inl rfl | exact Or.inr (Or.inl rfl) | exact Or.inr (Or.inr rfl)) (hd : (x == ("__debug__" : Str)) = false := by decide)
    (hcd : (x == ("__classdict__" : Str)) = false := by decide) : PE X (.Name x pos) (tVar i) := pe_var hN hv hd hcd
end

/-! ### tests -/
theorem iteF {A B : Prop} (h : B) : if false = true then A else B := by
  rw [if_neg Bool.false_ne_true]
  exact h
theorem iteT {A B : Prop} (h : A) : if true = true then A else B := by
  rw [if_pos rfl]
  exact h
theorem ite2 {c A B : Prop} [Decidable c] (h1 : c → A) (h2 : ¬ c → B) : if c then A else B := by
  by_cases h : c
  · rw [if_pos h]
    exact h1 h
  · rw [if_neg h]
    exact h2 h
/-! ### heaps -/
/-- all that was tracked is as it was -/
def Same (H H' : Hp) : Prop := ∀ b o, H b = some o → H' b = some o
theorem Same.refl (H : Hp) : Same H H := fun _ _ h => h
theorem Same.trans {H H1 H2 : Hp} (a : Same H H1) (b : Same H1 H2) : Same H H2 := fun c o h => b c o (a c o h)
theorem Same.free {H H' : Hp} (e : Same H H') {l : Addr} (h : H' l = Option.none) : H l = Option.none := by
  cases q : H l with
  | none => rfl
  | some o =>
    rw [e l o q] at h
    cases h
theorem Same.seq {K : PySem.W.Frag} {H H' : Hp} {a : Addr} {xs : List V} (e : Same H H') (h : SqL K H a xs) : SqL K H' a xs := by
  rcases h with (h | ⟨o, h⟩) | h
  · exact .inl (.inl (e _ _ h))
  · exact .inl (.inr ⟨o, e _ _ h⟩)
  · exact .inr h

end L2
namespace L2
open PySem PySem.Spec PyProof.Rows

/-! ### a comprehension's block -/
/-- the closure of a block: the cells of the names that are free in it -/
def clFrom (env : Env) : List (Str × NameKind) → List (Str × Addr) → List (Str × Addr)
  | [], acc => acc
  | (n, k) :: r, acc => if k == .free then clFrom env r ((n, (env.cells.lookup n).getD 0) :: acc) else clFrom env r acc
theorem closure_eq {env : Env} : ∀ (names : List (Str × NameKind)) (acc : List (Str × Addr)) (f : Str × NameKind → List (Str × Addr) → Sem (ForInStep (List (Str × Addr)))),
    (∀ n k cs, f (n, k) cs = if k == .free then (do let c ← cellOf env n; pure (.yield ((n, c) :: cs))) else pure (.yield cs)) →
    (∀ x ∈ names, x.2 = .free → ∃ c, env.cells.lookup x.1 = some c) → (forIn names acc f : Sem _) = pure (clFrom env names acc)
  | [], acc, f, _, _ => rfl
  | (n, k) :: r, acc, f, hf, h => by
    rw [List.forIn_cons, hf]
    unfold clFrom
    by_cases hk : (k == .free) = true
    · rw [if_pos hk, if_pos hk]
      obtain ⟨c, e⟩ := h (n, k) List.mem_cons_self (beq_iff_eq.mp hk)
      have e' : env.cells.lookup n = some c := e
      unfold cellOf
      rw [e']
      show (forIn r ((n, c) :: acc) f : Sem _) = _
      exact closure_eq r _ f hf fun x hx => h x (List.mem_cons_of_mem _ hx)
    · rw [if_neg hk, if_neg hk]
      show (forIn r acc f : Sem _) = _
      exact closure_eq r _ f hf fun x hx => h x (List.mem_cons_of_mem _ hx)
theorem closure_of {env : Env} {scope : Scope} (h : ∀ x ∈ scope.names, x.2 = .free → ∃ c, env.cells.lookup x.1 = some c) : closureFor scope env = pure (clFrom env scope.names []) := by
  unfold closureFor
  have e := closure_eq scope.names [] (fun x cs => if x.2 == .free then (do let c ← cellOf env x.1; pure (.yield ((x.1, c) :: cs))) else pure (.yield cs)) (fun _ _ _ => rfl) h
  show (forIn scope.names [] _ >>= fun cs => pure cs) = _
  exact (bind_pure_comp_id e)
where
  bind_pure_comp_id {α : Type} {a : α} {t : Sem α} (e : t = pure a) : (t >>= fun x => pure x) = pure a := by rw [e]; rfl
theorem clFrom_look {env : Env} {x : Str} {c : Addr} : ∀ (names : List (Str × NameKind)) (acc : List (Str × Addr)), (∀ y ∈ names, y.2 = .free → ∃ c, env.cells.lookup y.1 = some c) →
    (∀ c, acc.lookup x = some c → env.cells.lookup x = some c) → (clFrom env names acc).lookup x = some c → env.cells.lookup x = some c
  | [], acc, _, ha, h => ha c h
  | (n, k) :: r, acc, hn, ha, h => by
    unfold clFrom at h
    have hr : ∀ y ∈ r, y.2 = .free → ∃ c, env.cells.lookup y.1 = some c := fun y hy => hn y (List.mem_cons_of_mem _ hy)
    by_cases hk : (k == .free) = true
    · rw [if_pos hk] at h
      obtain ⟨c', e⟩ := hn (n, k) List.mem_cons_self (beq_iff_eq.mp hk)
      have e' : env.cells.lookup n = some c' := e
      rw [e'] at h
      refine clFrom_look r _ hr (fun c2 q => ?_) h
      rw [List.lookup_cons] at q
      cases hb : x == n with
      | true => rw [hb] at q; cases q; rw [beq_iff_eq.mp hb]; exact e'
      | false => rw [hb] at q; exact ha c2 q
    · rw [if_neg hk] at h
      exact clFrom_look r _ hr ha h
theorem clFrom_has {env : Env} {x : Str} : ∀ (names : List (Str × NameKind)) (acc : List (Str × Addr)), ((x, NameKind.free) ∈ names ∨ ∃ c, acc.lookup x = some c) → ∃ c, (clFrom env names acc).lookup x = some c
  | [], acc, h => h.elim (fun z => by cases z) id
  | (n, k) :: r, acc, h => by
    unfold clFrom
    by_cases hk : (k == .free) = true
    · rw [if_pos hk]
      refine clFrom_has r _ ?_
      cases hb : x == n with
      | true => exact .inr ⟨_, by rw [List.lookup_cons, hb]⟩
      | false =>
        rcases h with h | ⟨c, h⟩
        · rcases List.mem_cons.mp h with e | e
          · injection e with e1 _
            rw [e1] at hb; simp at hb
          · exact .inl e
        · exact .inr ⟨c, by rw [List.lookup_cons, hb]; exact h⟩
    · rw [if_neg hk]
      refine clFrom_has r _ ?_
      rcases h with h | h
      · rcases List.mem_cons.mp h with e | e
        · injection e with _ e2
          rw [← e2] at hk; exact absurd rfl hk
        · exact .inl e
      · exact .inr h
/-! the cells of a block: its own, then the closure's -/
theorem cells_look {x : Str} {c : Addr} : ∀ (names : List (Str × NameKind)) (n : Nat) (acc : List (Str × Addr)), (cellsFrom n names acc).lookup x = some c → acc.lookup x = some c ∨ (n ≤ c ∧ (x, NameKind.cell) ∈ names)
  | [], _, _, h => .inl h
  | (y, k) :: r, n, acc, h => by
    unfold cellsFrom at h
    by_cases hk : (k == .cell) = true
    · rw [if_pos hk] at h
      rcases cells_look r _ _ h with q | ⟨q1, q2⟩
      · rw [List.lookup_cons] at q
        cases hb : x == y with
        | true => rw [hb] at q; cases q; exact .inr ⟨Nat.le_refl _, by rw [beq_iff_eq.mp hb, beq_iff_eq.mp hk]; exact List.mem_cons_self⟩
        | false => rw [hb] at q; exact .inl q
      · exact .inr ⟨by omega, List.mem_cons_of_mem _ q2⟩
    · rw [if_neg hk] at h
      rcases cells_look r _ _ h with q | ⟨q1, q2⟩
      · exact .inl q
      · exact .inr ⟨q1, List.mem_cons_of_mem _ q2⟩
theorem cells_own {x : Str} {lo : Nat} : ∀ (names : List (Str × NameKind)) (n : Nat) (acc : List (Str × Addr)), lo ≤ n → ((x, NameKind.cell) ∈ names ∨ ∃ c, acc.lookup x = some c ∧ lo ≤ c) → ∃ c, (cellsFrom n names acc).lookup x = some c ∧ lo ≤ c
  | [], _, _, _, h => h.elim (fun z => by cases z) id
  | (y, k) :: r, n, acc, hn, h => by
    unfold cellsFrom
    by_cases hk : (k == .cell) = true
    · rw [if_pos hk]
      refine cells_own r _ _ (by omega) ?_
      cases hb : x == y with
      | true => exact .inr ⟨n, by rw [List.lookup_cons, hb], hn⟩
      | false =>
        rcases h with h | ⟨c, h, hc⟩
        · rcases List.mem_cons.mp h with e | e
          · injection e with e1 _
            rw [e1] at hb; simp at hb
          · exact .inl e
        · exact .inr ⟨c, by rw [List.lookup_cons, hb]; exact h, hc⟩
    · rw [if_neg hk]
      refine cells_own r _ _ hn ?_
      rcases h with h | h
      · rcases List.mem_cons.mp h with e | e
        · injection e with _ e2
          rw [← e2] at hk; exact absurd rfl hk
        · exact .inl e
      · exact .inr h
theorem cells_keep {x : Str} : ∀ (names : List (Str × NameKind)) (n : Nat) (acc : List (Str × Addr)), (x, NameKind.cell) ∉ names → (cellsFrom n names acc).lookup x = acc.lookup x
  | [], _, _, _ => rfl
  | (y, k) :: r, n, acc, h => by
    unfold cellsFrom
    have hr : (x, NameKind.cell) ∉ r := fun z => h (List.mem_cons_of_mem _ z)
    by_cases hk : (k == .cell) = true
    · rw [if_pos hk, cells_keep r _ _ hr, List.lookup_cons]
      cases hb : x == y with
      | true => exact absurd (by rw [beq_iff_eq.mp hb, beq_iff_eq.mp hk]; exact List.mem_cons_self) h
      | false => rfl
    · rw [if_neg hk]; exact cells_keep r _ _ hr
theorem cells_inj : ∀ (names : List (Str × NameKind)) (n : Nat) (acc : List (Str × Addr)), (∀ x c, acc.lookup x = some c → c < n) → (∀ x y c, acc.lookup x = some c → acc.lookup y = some c → x = y) →
    ∀ x y c, (cellsFrom n names acc).lookup x = some c → (cellsFrom n names acc).lookup y = some c → x = y
  | [], _, _, _, h => h
  | (z, k) :: r, n, acc, hlt, h => by
    unfold cellsFrom
    by_cases hk : (k == .cell) = true
    · rw [if_pos hk]
      refine cells_inj r (n + 1) _ (fun x c e => ?_) fun x y c e1 e2 => ?_
      · rw [List.lookup_cons] at e
        cases hb : x == z with
        | true => rw [hb] at e; cases e; exact Nat.lt_succ_self _
        | false => rw [hb] at e; exact Nat.lt_succ_of_lt (hlt x c e)
      · rw [List.lookup_cons] at e1 e2
        cases hb : x == z with
        | true =>
          rw [hb] at e1; cases e1
          cases hb2 : y == z with
          | true => rw [beq_iff_eq.mp hb, beq_iff_eq.mp hb2]
          | false => rw [hb2] at e2; exact absurd (hlt y _ e2) (Nat.lt_irrefl _)
        | false =>
          rw [hb] at e1
          cases hb2 : y == z with
          | true => rw [hb2] at e2; cases e2; exact absurd (hlt x _ e1) (Nat.lt_irrefl _)
          | false => rw [hb2] at e2; exact h x y c e1 e2
    · rw [if_neg hk]; exact cells_inj r n _ hlt h
theorem push_cells_is {x : Str} {c : Addr} : ∀ (names : List (Str × NameKind)) (h : Heap) (acc : List (Str × Addr)), (∀ y c, acc.lookup y = some c → ∃ v, h.IsCell c v) →
    (cellsFrom h.objs.size names acc).lookup x = some c → ∃ v, (pushCells h names).IsCell c v
  | [], h, acc, ha, e => ha x c e
  | (y, k) :: r, h, acc, ha, e => by
    unfold cellsFrom at e
    unfold pushCells
    by_cases hk : (k == .cell) = true
    · rw [if_pos hk] at e ⊢
      rw [show h.objs.size + 1 = (h.push { cls := .type "cell", data := .cell none }).objs.size from (Heap.size_push ..).symm] at e
      refine push_cells_is r _ _ (fun z c' q => ?_) e
      rw [List.lookup_cons] at q
      cases hb : z == y with
      | true => rw [hb] at q; cases q; exact ⟨none, _, Heap.get?_push_size _ rfl, rfl⟩
      | false =>
        rw [hb] at q
        obtain ⟨v, w⟩ := ha z c' q
        exact ⟨v, w.keeps fun b o e => Heap.get?_push_of_some _ e⟩
    · rw [if_neg hk] at e ⊢
      exact push_cells_is r _ _ ha e

section
variable {M : Model} {A : Around} {E : Value → Shared → Prop} {s : Shared}
/-- the environment of a comprehension's block -/
theorem newEnv_comp {scope : Scope} {globals : Addr} {cl : List (Str × Addr)} {qual : Str} {env : Env} {Q : Env → Shared → Prop}
    (h : Q { scope, locals := s.heap.objs.size, globals, cells := cellsFrom (s.heap.objs.size + 1) scope.names cl, qual, func := none, code := env.code, frame := env.frame, builtins := env.builtins }
      { s with heap := pushCells (s.heap.push { cls := .type "dict", data := .dict #[] }) scope.names }) :
    wpAny M A (newFunctionEnv scope globals cl [] qual none .none (some env)) Q E s := by
  simp only [newFunctionEnv, Option.isSome_some, if_true]
  refine wpAny_bind (wpAny_alloc ?_)
  refine wpAny_bind (wpAny_layCells _ (fun name kind cells => by cases hkc : kind == NameKind.cell <;> simp [hkc]) _ _ _ _ ?_)
  rw [show ({ s with heap := s.heap.push { cls := .type "dict", data := .dict #[] } } : Shared).heap.objs.size = s.heap.objs.size + 1 from Heap.size_push ..]
  refine wpAny_bind ?_
  rw [List.forIn_nil]
  exact wpAny_pure (wpAny_pure h)
end
section
variable {prog : Program} {w : World} {A : Around} {R : Result → Shared → Prop} {s : Shared}
/-- the loop of a list comprehension of one clause, whatever its target -/
theorem compLoop_any {elt target iter : Expr} {ifs : List Expr} {scope : Scope} {pos : Pos} {it acc : Value} {env : Env} (I : Nat → Shared → Prop)
    (turn : ∀ n s, I n s → wpAny (model prog w) A (pyNext it) (fun r s₁ => match r with
      | none => R (.ok .next) s₁
      | some v => wpAny (model prog w) A (letOwnedTupleGo target it v) (fun _ s₁' => wpAny (model prog w) A (assign target env v) (fun _ s₂ =>
          wpAny (model prog w) A (forIn ifs true fun c r => if r = true then do let ok ← isTrue c env (eval c env); pure (ForInStep.yield ok) else pure (ForInStep.yield r)) (fun ok s₃ =>
            if ok = true then wpAny (model prog w) A (eval elt env) (fun x s₄ =>
              wpAny (model prog w) A (call (.builtin "list.append") [acc, x]) (fun _ s₅ => ∃ m, m < n ∧ I m s₅) (fun _ _ => False) s₄) (fun _ _ => False) s₃
            else ∃ m, m < n ∧ I m s₃) (fun _ _ => False) s₂) (fun _ _ => False) s₁') (fun _ _ => False) s₁) (fun _ _ => False) s)
    (n : Nat) (h : I n s) :
    codeAny (model prog w) A (.compLoop (.ListComp elt [⟨target, iter, ifs, 0⟩] scope pos) 0 it acc env) R s := by
  refine codeAny_loop rfl I (fun n s hI => ?_) n h
  show wpAny _ A ((compTurn (.ListComp elt [⟨target, iter, ifs, 0⟩] scope pos) 0 it acc env).onRaise (fun x => do noteFrame x env; theTreesLotGoes x)) _ _ s
  refine wpAny_noted ?_
  rw [compTurn_list]
  refine wpAny_bind (wpAny_standAt (wpAny_bind (wpAny_mono (turn n s hI) (fun r s₁ h₁ => ?_) fun _ _ h' => h'.elim)))
  cases r with
  | none => exact wpAny_pure h₁
  | some v =>
    refine wpAny_bind (wpAny_mono h₁ (fun _ s₁' h₁' => ?_) fun _ _ h' => h'.elim)
    refine wpAny_bind (wpAny_mono h₁' (fun _ s₂ h₂ => wpAny_bind (wpAny_mono h₂ (fun ok s₃ h₃ => ?_) fun _ _ h' => h'.elim)) fun _ _ h' => h'.elim)
    cases ok with
    | false => exact wpAny_pure ⟨rfl, h₃⟩
    | true =>
      exact wpAny_bind (wpAny_bind (wpAny_mono h₃ (fun x s₄ h₄ => wpAny_bind (wpAny_mono h₄ (fun _ s₅ h₅ => wpAny_pure (wpAny_pure ⟨rfl, h₅⟩)) fun _ _ h' => h'.elim)) fun _ _ h' => h'.elim))
end
end L2
namespace L2
open PySem PySem.Spec PyProof.Rows

/-- the context of a comprehension's block; no exception leaves it -/
def cxC (X : Cx) (Nc : List Str) (scope : Scope) (C : Addr) (fp : List Addr) (s : Shared) (H : Hp) : Cx where
  prog := X.prog
  w := X.w
  K := X.K
  mg := X.mg
  base := X.base
  A := X.A
  N := Nc
  s₀ := s
  H₀ := H
  env := compEnvC scope (cellsFrom (C + 1) scope.names (clFrom X.env scope.names [])) C X.env
  outer := X.stack
  stack := X.stack
  ex := fp
  fn := fun x => scope.names.contains (x, NameKind.cell)
  calm := X.calm
  pn := []
  xe := fun _ _ => False

/-- the names of a block: ix tells of each the outer slot that it is read from, or none (its own) -/
structure CompScope (X : Cx) (Nc : List Str) (ix : List (Option Nat)) (scope : Scope) : Prop where
  kind : scope.kind = .function
  nd : Nc.Nodup
  len : ix.length = Nc.length
  loc : ∀ x ∈ scope.names, x.2 = .local → scope.names.lookup x.1 = some .local
  free : ∀ x ∈ scope.names, x.2 = .free → X.env.kindOf x.1 = some .cell ∨ X.env.kindOf x.1 = some .free
  once : ∀ x, (x, NameKind.free) ∈ scope.names → (x, NameKind.cell) ∉ scope.names
  out : ∀ (i j : Nat) (x : Str), ix[i]? = some (some j) → Nc[i]? = some x → X.N[j]? = some x ∧ scope.names.lookup x = some .free

/-- the names' values at the block's entry -/
def startC (ix : List (Option Nat)) (σ : St) : St := ix.map fun o => o.bind fun j => (σ[j]?).bind id

theorem relabel_look {env : Env} {x : Str} : ∀ {names : List (Str × NameKind)} {k : NameKind}, names.lookup x = some k →
    (names.map fun (n, k) => if (k == NameKind.free && env.scope.kind == .function && env.kindOf n == some .cell) then (n, NameKind.cell) else (n, k)).lookup x =
      some (if (k == NameKind.free && env.scope.kind == .function && env.kindOf x == some .cell) then NameKind.cell else k)
  | [], _, h => by simp at h
  | (n, k') :: r, k, h => by
    show List.lookup x ((if (k' == NameKind.free && env.scope.kind == .function && env.kindOf n == some .cell) = true then (n, NameKind.cell) else (n, k')) :: _) = _
    cases hx : x == n with
    | true =>
      simp only [List.lookup_cons, hx] at h
      cases h
      have e := beq_iff_eq.mp hx
      subst e
      split <;> simp [List.lookup_cons]
    | false =>
      simp only [List.lookup_cons, hx] at h
      have ih := relabel_look (env := env) (names := r) h
      split <;> (simp only [List.lookup_cons, hx]; exact ih)
theorem relabel_none {env : Env} {x : Str} : ∀ {names : List (Str × NameKind)}, names.lookup x = none →
    (names.map fun (n, k) => if (k == NameKind.free && env.scope.kind == .function && env.kindOf n == some .cell) then (n, NameKind.cell) else (n, k)).lookup x = none
  | [], _ => rfl
  | (n, k') :: r, h => by
    show List.lookup x ((if (k' == NameKind.free && env.scope.kind == .function && env.kindOf n == some .cell) = true then (n, NameKind.cell) else (n, k')) :: _) = _
    cases hx : x == n with
    | true => simp only [List.lookup_cons, hx] at h; cases h
    | false =>
      simp only [List.lookup_cons, hx] at h
      have ih := relabel_none (env := env) (names := r) h
      split <;> (simp only [List.lookup_cons, hx]; exact ih)

section
variable {X : Cx} {pins : List (Addr × Obj)} {σ : St} {H : Hp} {s : Shared} {Nc : List Str} {ix : List (Option Nat)} {scope : Scope} {fp : List Addr}

theorem CompScope.cells (S : CompScope X Nc ix scope) (I : Inv X pins σ H s) : ∀ x ∈ scope.names, x.2 = .free → ∃ c, X.env.cells.lookup x.1 = some c := fun x hx hf => I.ok.has x.1 (S.free x hx hf)

/-- where a cell of the block comes from -/
theorem cell_from (S : CompScope X Nc ix scope) (I : Inv X pins σ H s) {C : Addr} {x : Str} {c : Addr} (e : (cellsFrom (C + 1) scope.names (clFrom X.env scope.names [])).lookup x = some c) :
    X.env.cells.lookup x = some c ∨ (C + 1 ≤ c ∧ (x, NameKind.cell) ∈ scope.names) := by
  rcases cells_look _ _ _ e with q | q
  · exact .inl (clFrom_look _ _ (S.cells I) (fun _ z => by simp at z) q)
  · exact .inr q

theorem inv_comp (S : CompScope X Nc ix scope) (I : Inv X pins σ H s) (hfp : ∀ b ∈ fp, FpOk X pins H b) (ho : ∀ b ∈ fp, ∃ o, s.heap.get? b = some o) {t' : Nat} :
    Inv (cxC X Nc scope (s.heap.objs.size + 1) fp s H) [] (startC ix σ) (upd H s.heap.objs.size (.lst []))
      { s with heap := pushCells ((s.heap.push { cls := .type "list", dict := none, data := .seq ([] : List Value).toArray }).push { cls := .type "dict", data := .dict #[] }) scope.names, toks := t' } := by
  have keep : ∀ b o, s.heap.get? b = some o → (pushCells ((s.heap.push { cls := .type "list", dict := none, data := .seq ([] : List Value).toArray }).push { cls := .type "dict", data := .dict #[] }) scope.names).get? b = some o :=
    fun b o e => pushCells_keeps _ _ b o (Heap.get?_push_of_some _ (Heap.get?_push_of_some _ e))
  have hD : (pushCells ((s.heap.push { cls := .type "list", dict := none, data := .seq ([] : List Value).toArray }).push { cls := .type "dict", data := .dict #[] }) scope.names).get? s.heap.objs.size =
      some { cls := .type "list", dict := none, data := .seq ([] : List Value).toArray } := pushCells_keeps _ _ _ _ (Heap.get?_push_of_some _ (Heap.get?_push_size _ rfl))
  have hsz : (s.heap.push { cls := .type "list", dict := none, data := .seq ([] : List Value).toArray }).objs.size = s.heap.objs.size + 1 := Heap.size_push ..
  have fresh : ∀ a : Addr, s.heap.objs.size ≤ a → H a = none := fun a h => I.hok.fresh h
  have hcc : ∀ x c, X.env.cells.lookup x = some c → c < s.heap.objs.size := fun x c e => let ⟨_, q⟩ := I.cell x c e; q.lt
  have clt : ∀ x c, (clFrom X.env scope.names []).lookup x = some c → c < s.heap.objs.size + 1 + 1 := fun x c e =>
    Nat.lt_succ_of_lt (Nat.lt_succ_of_lt (hcc x c (clFrom_look _ _ (S.cells I) (fun _ z => by simp at z) e)))
  have cinj : ∀ x y c, (clFrom X.env scope.names []).lookup x = some c → (clFrom X.env scope.names []).lookup y = some c → x = y := fun x y c e1 e2 =>
    I.ok.inj x y c (clFrom_look _ _ (S.cells I) (fun _ z => by simp at z) e1) (clFrom_look _ _ (S.cells I) (fun _ z => by simp at z) e2)
  refine ⟨⟨I.ok.mod, S.kind, I.ok.glob, I.ok.blt, Nat.le_succ _, cells_inj _ _ _ clt cinj, fun x hx => ?has, fun x c hf e => ?cab, I.ok.hd, I.ok.frames, .inl rfl, fun b hb => ?exf, I.bs, Nat.le_trans I.ok.bsz I.sz, fun b o e hb => ?noex, fun b hb hs => ?exfs, I.stack, I.stkFree⟩,
    rfl, I.bare, Un.laid keep (Nat.le_refl _) (fresh _ (Nat.le_refl _)), ⟨fun _ => none, ?ns, fun i x v e1 e2 e3 => ?loc⟩, fun x c e => ?cell, ?free, fun x c e => ?freeC, fun p hp => absurd (show p ∈ ([] : List (Addr × Obj)) from hp) (by simp), I.hok.laid keep (Nat.le_refl _) ?obj, ?len⟩
  case has =>
    have hx : (relabel scope X.env).names.lookup x = some .cell ∨ (relabel scope X.env).names.lookup x = some .free := hx
    show ∃ c, (cellsFrom (s.heap.objs.size + 1 + 1) scope.names (clFrom X.env scope.names [])).lookup x = some c
    cases hk : scope.names.lookup x with
    | none =>
      rw [show (relabel scope X.env).names.lookup x = none from relabel_none hk] at hx
      rcases hx with z | z <;> cases z
    | some k =>
      have hm := PySem.mem_of_lookup hk
      rw [show (relabel scope X.env).names.lookup x = _ from relabel_look hk] at hx
      cases k with
      | cell => obtain ⟨c, e, _⟩ := cells_own (x := x) (lo := 0) scope.names (s.heap.objs.size + 1 + 1) (clFrom X.env scope.names []) (Nat.zero_le _) (.inl hm); exact ⟨c, e⟩
      | free =>
        obtain ⟨c, e⟩ := clFrom_has (env := X.env) (x := x) scope.names [] (.inl hm)
        exact ⟨c, by rw [cells_keep _ _ _ (S.once x hm)]; exact e⟩
      | _ => rcases hx with z | z <;> simp at z
  case cab =>
    have hm : (x, NameKind.cell) ∈ scope.names := List.contains_iff_mem.mp hf
    obtain ⟨c', e', hc⟩ := cells_own (x := x) (lo := s.heap.objs.size + 1 + 1) scope.names (s.heap.objs.size + 1 + 1) (clFrom X.env scope.names []) (Nat.le_refl _) (.inl hm)
    have e2 : (cellsFrom (s.heap.objs.size + 1 + 1) scope.names (clFrom X.env scope.names [])).lookup x = some c := e
    rw [e'] at e2; cases e2
    exact Nat.le_trans (Nat.le_trans (Nat.le_succ _) (Nat.le_succ _)) hc
  case exf =>
    obtain ⟨o, eo⟩ := ho b hb
    have hlt := Heap.lt_size eo
    refine ⟨Nat.ne_of_lt (Nat.lt_succ_of_lt hlt), fun x c e => ?_⟩
    rcases cell_from S I e with q | ⟨q, _⟩
    · exact (hfp b hb).2.2.2.2.1 x c q
    · exact Nat.ne_of_gt (Nat.lt_of_lt_of_le (Nat.lt_succ_of_lt (Nat.lt_succ_of_lt hlt)) q)
  case noex =>
    obtain ⟨_, _, _, q, _⟩ := hfp b hb
    rcases q with q | q
    · exact I.ok.noex b o e q
    · exact absurd (Nat.lt_of_lt_of_le (Nat.lt_of_lt_of_le (Heap.lt_size e) I.ok.bsz) q) (Nat.lt_irrefl _)
  case exfs =>
    obtain ⟨_, q1, q2, _⟩ := hfp b hb
    rcases List.mem_cons.mp (I.stkSub b hs) with z | z
    · exact q1 z
    · exact q2 z
  case ns =>
    refine Heap.Ns.keeps (h := (s.heap.push { cls := .type "list", dict := none, data := .seq ([] : List Value).toArray }).push { cls := .type "dict", data := .dict #[] }) ?_ (pushCells_keeps _ _)
    have q := Heap.Ns.new (s.heap.push { cls := .type "list", dict := none, data := .seq ([] : List Value).toArray }) (.type "dict")
    rw [hsz] at q
    exact q
  case loc =>
    have e2' : (ix.map fun o => o.bind fun j => (σ[j]?).bind id)[i]? = some (some v) := e2
    rw [List.getElem?_map] at e2'
    cases ei : ix[i]? with
    | none => rw [ei] at e2'; cases e2'
    | some o =>
      rw [ei] at e2'
      cases o with
      | none => simp at e2'
      | some j =>
        obtain ⟨hN, hfr⟩ := S.out i j x ei e1
        have ej : σ[j]? = some (some v) := by
          cases q : σ[j]? with
          | none => simp [q] at e2'
          | some y => simp [q] at e2'; rw [e2']
        have hm := PySem.mem_of_lookup hfr
        have hvis : Vis X.env.scope x := by
          rcases S.free (x, .free) hm rfl with z | z
          · exact .inr (.inl z)
          · exact .inr (.inr z)
        obtain ⟨m0, hn0, hl0⟩ := I.loc
        obtain ⟨u, r, l⟩ := hl0 j x v hN ej hvis
        refine ⟨u, r, ?_⟩
        have hk : X.env.kindOf x = some .cell ∨ X.env.kindOf x = some .free := S.free (x, .free) hm rfl
        rcases l with ⟨z, _⟩ | ⟨_, c, ec, hcell⟩
        · rcases hk with y | y <;> (rw [z] at y; cases y)
        · refine .inr ⟨?_, c, ?_, hcell.keeps keep⟩
          · show (relabel scope X.env).names.lookup x = _ ∨ (relabel scope X.env).names.lookup x = _
            rw [show (relabel scope X.env).names.lookup x = _ from relabel_look hfr]
            split
            · exact .inl rfl
            · exact .inr rfl
          · show (cellsFrom (s.heap.objs.size + 1 + 1) scope.names (clFrom X.env scope.names [])).lookup x = some c
            rw [cells_keep _ _ _ (S.once x hm)]
            obtain ⟨c', e'⟩ := clFrom_has (env := X.env) (x := x) scope.names [] (.inl hm)
            have q := clFrom_look _ _ (S.cells I) (fun _ z => by simp at z) e'
            rw [ec] at q; cases q
            exact e'
  case cell =>
    have q := push_cells_is (x := x) (c := c) scope.names ((s.heap.push { cls := .type "list", dict := none, data := .seq ([] : List Value).toArray }).push { cls := .type "dict", data := .dict #[] }) (clFrom X.env scope.names [])
      (fun y c' e' => by
        obtain ⟨v, z⟩ := I.cell y c' (clFrom_look _ _ (S.cells I) (fun _ z => by simp at z) e')
        exact ⟨v, z.keeps fun b o e => Heap.get?_push_of_some _ (Heap.get?_push_of_some _ e)⟩)
    rw [Heap.size_push, hsz] at q
    exact q e
  case free =>
    show upd H s.heap.objs.size (.lst []) (s.heap.objs.size + 1) = none
    rw [upd_ne (Nat.succ_ne_self _)]
    exact fresh _ (Nat.le_succ _)
  case freeC =>
    rcases cell_from S I e with q | ⟨q, _⟩
    · rw [upd_ne (Nat.ne_of_lt (hcc x c q))]
      exact I.freeC x c q
    · have h1 : s.heap.objs.size < c := Nat.lt_of_lt_of_le (Nat.lt_succ_of_lt (Nat.lt_succ_self _)) q
      rw [upd_ne (Nat.ne_of_gt h1)]
      exact fresh c (Nat.le_of_lt h1)
  case obj => exact ⟨Nat.zero_le _, [], 0, .nil, hD⟩
  case len =>
    show (startC ix σ).length = Nc.length
    unfold startC
    rw [List.length_map, S.len]
end

/-- the tests of a clause -/
def PTs (X : Cx) (ifs : List Expr) (t : TT) : Prop :=
  ∀ (pins : List (Addr × Obj)) (s : Shared) (σ : St) (H : Hp) (Q : Bool → Hp → Prop), Inv X pins σ H s → t σ H Q →
    wpAny (model X.prog X.w) X.A (forIn ifs true fun c r => if r = true then do let ok ← isTrue c X.env (eval c X.env); pure (ForInStep.yield ok) else pure (ForInStep.yield r)) (TP X pins σ Q) X.xe s
def tYes : TT := fun _ H Q => Q true H
theorem pts_nil {X : Cx} : PTs X [] tYes := fun _ _ _ H _ I h => wpAny_tests_nil ⟨H, I, h⟩
theorem pts_one {X : Cx} {c : Expr} {t : TT} (h : PT X c t) : PTs X [c] t := fun pins s σ H Q I hw => wpAny_tests_one (h pins s σ H Q I hw)

/-- a comprehension's turns, its list at D. W: the invariant, by the turn and a measure, over the block's names -/
def lcRun (J : It) (g : TG) (tt : TT) (te : TE) (D : Addr) (σ : St) (H : Hp) (Q : VK) : Prop := ∃ W : Nat → Nat → St → Hp → Prop, (∃ m, W 0 m σ H) ∧ ∀ i m σ' H', W i m σ' H' →
  (J.stop i H' ∧ Q (.ref D) H') ∨ (J.go i H' ∧ ∀ x H2, J.yld i H' x H2 → g x σ' H2 fun σ3 H3 => tt σ3 H3 fun b H4 =>
    if b = true then te σ3 H4 fun v H5 => ∃ xs, H5 D = some (.lst xs) ∧ xs.length < sizeLine ∧ ∃ m', m' < m ∧ W (i + 1) m' σ3 (upd H5 D (.lst (xs ++ [v])))
    else ∃ m', m' < m ∧ W (i + 1) m' σ3 H4)
/-- a list comprehension of one clause -/
def tLC (wi : TI) (ix : List (Option Nat)) (g : TG) (tt : TT) (te : TE) : TE := fun σ H Q => wi σ H fun J H1 => ∀ D, H1 D = none → lcRun J g tt te D (startC ix σ) (upd H1 D (.lst [])) Q

section
variable {X : Cx} {tg elt iter : Expr} {ifs : List Expr} {scope : Scope} {pos : Pos} {wi : TI} {g : TG} {tt : TT} {te : TE} {Nc : List Str} {ix : List (Option Nat)}

/-- the block, run: from the state behind the iterator to that behind the last turn -/
theorem comp_run {pins : List (Addr × Obj)} {σ : St} {H : Hp} {s : Shared} {it : Addr} {fp : List Addr} {tn : Nat → Heap → Prop} {J : It} {Q : VK} {R : Value → Addr → Result → Shared → Prop}
    (hc : X.calm = true) (S : CompScope X Nc ix scope) (I : Inv X pins σ H s) (T : Turn X.prog X.w X.K tg J fp it tn) (st : tn 0 s.heap) (f : ∀ b ∈ fp, FpOk X pins H b)
    (hg : PG (cxC X Nc scope (s.heap.objs.size + 1) fp s H) tg g) (ht : PTs (cxC X Nc scope (s.heap.objs.size + 1) fp s H) ifs tt) (he : PE (cxC X Nc scope (s.heap.objs.size + 1) fp s H) elt te)
    (h : ∀ D, H D = none → ∃ W : Nat → Nat → St → Hp → Prop, (∃ m, W 0 m (startC ix σ) (upd H D (.lst []))) ∧ ∀ i m σ' H', W i m σ' H' →
      (J.stop i H' ∧ Q (.ref D) H') ∨ (J.go i H' ∧ ∀ x H2, J.yld i H' x H2 → g x σ' H2 fun σ3 H3 => tt σ3 H3 fun b H4 =>
        if b = true then te σ3 H4 fun v H5 => ∃ xs, H5 D = some (.lst xs) ∧ xs.length < sizeLine ∧ ∃ m', m' < m ∧ W (i + 1) m' σ3 (upd H5 D (.lst (xs ++ [v])))
        else ∃ m', m' < m ∧ W (i + 1) m' σ3 H4))
    (hR : ∀ σ' H' s', Inv (cxC X Nc scope (s.heap.objs.size + 1) fp s H) [] σ' H' s' → (∀ b ∈ fp, H' b = none) → Q (.ref s.heap.objs.size) H' → R (.ref s.heap.objs.size) (s.heap.objs.size + 1) (.ok .next) s') :
    wpAny (model X.prog X.w) X.A (newList []) (fun acc s₃ => wpAny (model X.prog X.w) X.A (newFunctionEnv scope X.env.globals (clFrom X.env scope.names []) [] X.env.qual none .none (some X.env)) (fun cenv s₄ =>
      codeAny (model X.prog X.w) X.A (.compStart (.ListComp elt [⟨tg, iter, ifs, 0⟩] scope pos) 0 (.ref it) acc { cenv with scope := relabel scope X.env }) (R acc cenv.locals) s₄) X.xe s₃) X.xe s := by
  obtain ⟨W, ⟨m0, w0⟩, turn⟩ := h s.heap.objs.size (I.hok.fresh (Nat.le_refl _))
  refine wpAny_newObj_type (newEnv_comp ?_)
  have I4 := inv_comp (t' := s.toks) S I f (fun b hb => let ⟨o, e, _⟩ := T.obj _ _ st b hb; ⟨o, e⟩)
  have hsz : (s.heap.push { cls := .type "list", dict := none, data := .seq ([] : List Value).toArray }).objs.size = s.heap.objs.size + 1 := Heap.size_push ..
  dsimp only
  rw [hsz]
  have st4 : tn 0 (pushCells ((s.heap.push { cls := .type "list", dict := none, data := .seq ([] : List Value).toArray }).push { cls := .type "dict", data := .dict #[] }) scope.names) :=
    T.keep _ _ _ st fun b _ o e => pushCells_keeps _ _ b o (Heap.get?_push_of_some _ (Heap.get?_push_of_some _ e))
  have fr4 : ∀ b ∈ fp, upd H s.heap.objs.size (.lst []) b = none := fun b hb => by
    obtain ⟨o, e, _⟩ := T.obj _ _ st b hb
    rw [upd_ne (Nat.ne_of_lt (Heap.lt_size e))]
    exact (f b hb).1
  have stat : ∀ {H' : Hp}, (∀ b ∈ fp, H' b = none) → ∀ b ∈ fp, FpOk (cxC X Nc scope (s.heap.objs.size + 1) fp s H) [] H' b := fun {H'} hn b hb => by
    obtain ⟨q1, q2⟩ := I4.ok.exf b hb
    exact ⟨hn b hb, q1, I4.ok.exfs b hb, .inl hb, q2, fun p hp => absurd (show p ∈ ([] : List (Addr × Obj)) from hp) (by simp)⟩
  have loop : codeAny (model X.prog X.w) X.A (.compLoop (.ListComp elt [⟨tg, iter, ifs, 0⟩] scope pos) 0 (.ref it) (.ref s.heap.objs.size) (cxC X Nc scope (s.heap.objs.size + 1) fp s H).env)
      (R (.ref s.heap.objs.size) (s.heap.objs.size + 1))
      { s with heap := pushCells ((s.heap.push { cls := .type "list", dict := none, data := .seq ([] : List Value).toArray }).push { cls := .type "dict", data := .dict #[] }) scope.names } := by
    refine compLoop_any (fun n s' => ∃ i σ' H', Inv (cxC X Nc scope (s.heap.objs.size + 1) fp s H) [] σ' H' s' ∧ tn i s'.heap ∧ (∀ b ∈ fp, H' b = none) ∧ W i n σ' H') ?_ m0 ⟨0, _, _, I4, st4, fr4, w0⟩
    rintro n s5 ⟨i, σ5, H5, I5, st5, fr5, w5⟩
    rcases turn i n σ5 H5 w5 with ⟨stop, qn⟩ | ⟨go, step⟩
    · refine thn (T.done (cxC X Nc scope (s.heap.objs.size + 1) fp s H) rfl rfl rfl hc i [] s5 σ5 H5 _ I5 (stat fr5) st5 stop) fun r s6 ⟨hr, I6⟩ => ?_
      subst hr
      exact hR σ5 H5 s6 I6 fr5 qn
    · refine thn (T.item (cxC X Nc scope (s.heap.objs.size + 1) fp s H) rfl rfl rfl hc i [] s5 σ5 H5 _ I5 (stat fr5) st5 go) fun r s6 ⟨u, hr, h6⟩ => ?_
      subst hr
      refine thn h6 fun _ s7 ⟨x, H7, I7, r7, y7, st7, fr7⟩ => ?_
      have I7' := I7.pinned (stat fr7) (T.obj _ _ st7)
      refine thn (hg _ s7 σ5 H7 x u _ I7' r7 (step x H7 y7)) fun _ s8 ⟨σ8, H8, I8, q8⟩ => ?_
      refine thn (ht _ s8 σ8 H8 _ I8 q8) fun b s9 ⟨H9, I9, q9⟩ => ?_
      have again : ∀ {s' : Shared} {σ' : St} {H' : Hp}, Inv (cxC X Nc scope (s.heap.objs.size + 1) fp s H) ([] ++ pinsAt fp s7.heap) σ' H' s' → tn (i + 1) s'.heap ∧ ∀ b ∈ fp, H' b = none := fun {s' σ' H'} I' => by
        refine ⟨T.keep _ _ _ st7 fun b hb o e => (I'.pin (b, o) (List.mem_append_right _ (List.mem_append_right _ (mem_pinsAt hb e)))).1, fun b hb => ?_⟩
        obtain ⟨o, e, d⟩ := T.obj _ _ st7 b hb
        exact (I'.pin (b, o) (List.mem_append_right _ (List.mem_append_right _ (mem_pinsAt hb e)))).2.1
      cases b with
      | false =>
        rw [if_neg Bool.false_ne_true] at q9 ⊢
        obtain ⟨m', hm, w9⟩ := q9
        obtain ⟨a1, a2⟩ := again I9
        exact ⟨m', hm, i + 1, σ8, H9, I9.unpinned, a1, a2, w9⟩
      | true =>
        rw [if_pos rfl] at q9 ⊢
        refine thn (he _ s9 σ8 H9 _ I9 q9) fun v s10 ⟨x', H10, I10, r10, xs, eD, hlt, m', hm, w10⟩ => ?_
        refine thn (mt_append (X := cxC X Nc scope (s.heap.objs.size + 1) fp s H) _ s10 σ8 H10 (.ref s.heap.objs.size) [x'] (.ref s.heap.objs.size) [v] (fun _ H' => H' = upd H10 s.heap.objs.size (.lst (xs ++ [x']))) I10 rfl (.cons r10 .nil)
          ⟨_, xs, x', rfl, rfl, eD, hlt, rfl⟩) fun _ s11 ⟨_, H11, I11, _, e11⟩ => ?_
        subst e11
        obtain ⟨a1, a2⟩ := again I11
        exact ⟨m', hm, i + 1, σ8, _, I11.unpinned, a1, a2, w10⟩
  exact codeAny_compStart_list loop (T.self X.A 0 _ _ _ st4 loop)

/-- behind the block: the outer frame again -/
theorem comp_back {pins : List (Addr × Obj)} {σ σ' : St} {H H' : Hp} {s s' : Shared} {fp : List Addr} (I : Inv X pins σ H s) (f : ∀ b ∈ fp, FpOk X pins H b) (J : Inv (cxC X Nc scope (s.heap.objs.size + 1) fp s H) [] σ' H' s') : Inv X pins σ H' s' :=
  I.call' (ch := fp) J.os J.base J.hok J.bare fun b hb => let ⟨_, q1, _, q3, q4, q5⟩ := f b hb; ⟨q3, q1, q4, q5⟩
theorem Inv.letgo {pins : List (Addr × Obj)} {σ : St} {H : Hp} {s : Shared} {C : Addr} {h' : Heap} (I : Inv X pins σ H s) (f : FpOk X pins H C) (hs : Heap.SameBut C s.heap h') : Inv X pins σ H { s with heap := h' } :=
  I.turned (t' := s.toks) (it := C) (fun b o hb e => (hs.2 b hb).trans e) f.1 f.2.1 f.2.2.2.1 f.2.2.2.2.1 f.2.2.2.2.2

theorem pe_lc (hc : X.calm = true) (S : CompScope X Nc ix scope) (hi : PI X tg iter wi)
    (hb : ∀ (C : Addr) (fp : List Addr) (s : Shared) (H : Hp), PG (cxC X Nc scope C fp s H) tg g ∧ PTs (cxC X Nc scope C fp s H) ifs tt ∧ PE (cxC X Nc scope C fp s H) elt te)
    (hs : ∀ x, foldedSetIterable iter X.env x = pure x := by intro _; rfl) : PE X (.ListComp elt [⟨tg, iter, ifs, 0⟩] scope pos) (tLC wi ix g tt te) := by
  intro pins s σ H Q I h
  rw [eval_ListComp]
  refine wpAny_comprehension_free (use := none) rfl hs (closure_of (S.cells I)) S.kind S.loc (thn (hi pins s σ H _ I h) fun v s1 h1 => thn h1 fun itv s2 h2 => ?_)
  obtain ⟨it, fp, tn, J, H2, e, I2, T, st2, f2, q2⟩ := h2
  subst e
  obtain ⟨hg, ht, he⟩ := hb (s2.heap.objs.size + 1) fp s2 H2
  refine comp_run (R := fun acc C => compPost (model X.prog X.w) X.A X.xe none (EP X pins σ Q) acc C) hc S I2 T st2 f2 hg ht he q2 fun σ' H' s' J' fr' q' => ?_
  obtain ⟨m, hn, _⟩ := J'.loc
  refine ⟨m, hn, fun h' hsb => ⟨.ref _, H', ?_, rfl, q'⟩⟩
  exact (comp_back I2 f2 J').letgo (I2.fpOk (Nat.le_succ _) J'.free) hsb
/-- x = [..], where the name is stored ahead of the block's end -/
theorem ps_setLC {i : Nat} {y : Str} {py spos : Pos} (hN : X.N.Nodup) (hy : X.N[i]? = some y) (hl : Loc X.env.scope y) (hc : X.calm = true) (S : CompScope X Nc ix scope) (hi : PI X tg iter wi)
    (hb : ∀ (C : Addr) (fp : List Addr) (s : Shared) (H : Hp), PG (cxC X Nc scope C fp s H) tg g ∧ PTs (cxC X Nc scope C fp s H) ifs tt ∧ PE (cxC X Nc scope C fp s H) elt te)
    (hsw : swapsWith (.ListComp elt [⟨tg, iter, ifs, 0⟩] scope pos) (some (.Name y py)) spos.line X.env = pure true := by rfl)
    (hs : ∀ x, foldedSetIterable iter X.env x = pure x := by intro _; rfl)
    (hf : X.fn y = true ∨ X.env.scope.names.lookup y = some .local := by first | exact .inl rfl | exact .inr rfl | assumption) :
    PS X (.Assign [.Name y py] (.ListComp elt [⟨tg, iter, ifs, 0⟩] scope pos) spos) (tAsg (tLC wi ix g tt te) (gName i)) := by
  intro pins s σ H D I h
  rw [exec_Assign_Name_used _ _ _ _ hsw]
  refine wpAny_bind (wpAny_standAt (wpAny_bind ?_))
  show wpAny _ X.A (do let _ ← comprehension (.ListComp elt [⟨tg, iter, ifs, 0⟩] scope pos) scope X.env _ (newList []) false (eval iter X.env) (some (assign (.Name y py) X.env))) _ _ s
  refine wpAny_bind (wpAny_mono (wpAny_comprehension_free (use := some (assign (.Name y py) X.env)) (Q := fun _ s' => SP X pins D .next s') rfl hs (closure_of (S.cells I)) S.kind S.loc
    (thn (hi pins s σ H _ I h) fun v s1 h1 => thn h1 fun itv s2 h2 => ?_)) (fun _ s' hq => wpAny_pure (wpAny_pure hq)) fun _ _ e => e)
  obtain ⟨it, fp, tn, J, H2, e, I2, T, st2, f2, q2⟩ := h2
  subst e
  obtain ⟨hg, ht, he⟩ := hb (s2.heap.objs.size + 1) fp s2 H2
  refine comp_run (Q := fun x H1 => gName i x σ H1 D.nx) (R := fun acc C => compPost (model X.prog X.w) X.A X.xe (some (assign (.Name y py) X.env)) (fun _ s' => SP X pins D .next s') acc C) hc S I2 T st2 f2 hg ht he q2 fun σ' H' s' J' fr' q' => ?_
  obtain ⟨m, hn, _⟩ := J'.loc
  have I3 := comp_back I2 f2 J'
  have fC := I2.fpOk (Nat.le_succ _) J'.free
  show wpAny _ X.A (assign (.Name y py) X.env (.ref s2.heap.objs.size)) _ _ s'
  refine wpAny_assign_Name (store_ok2 (v := .ref s2.heap.objs.size) I3 hN hy hl rfl (fun s4 I4 ⟨a, hsa, ha⟩ => ?_) hf)
  have haC : s2.heap.objs.size + 1 ≠ a := by
    rcases ha with z | z
    · rw [z]; exact fC.2.1
    · exact Ne.symm (fC.2.2.2.2.1 y a z)
  refine ⟨m, hn.sameBut hsa haC, fun h' hsb => ⟨_, H', I4.letgo fC hsb, q'⟩⟩
end
end L2
namespace L2
open PySem PySem.Spec PyProof.Rows

/-! ### exceptions of one's own classes: raised, passed on, caught -/
/-- an exception of the class at C, its object at a, has left all frames but those of outer. B: what stood at the raise, but the frames -/
structure Thrown (P : Program) (w : World) (outer : List Env) (H : Hp) (s : Shared) (a C : Addr) (a0 : Value) (B : Heap) (H' : Hp) (s' : Shared) : Prop where
  os : s'.os = s.os
  bare : AllBare s'.gens
  un : Un (frs outer) [] H H' s.heap s'.heap
  hok : HOk P w H' s'.heap
  fly : Heap.FlyingW B outer a (.ref C) a0 s'.heap
  cov : ∀ b o, s.heap.get? b = some o → b ∉ frs outer → ∃ o', B.get? b = some o'
  trk : ∀ b u, H' b = some u → ∃ o', B.get? b = some o'
def CX1 (P : Program) (w : World) : CXT := fun outer H s E e s' => ∃ (a C : Addr) (a0 : Value) (B : Heap) (H' : Hp), e = .ref a ∧ Thrown P w outer H s a C a0 B H' s' ∧ E (.ref C) none H'

theorem frs_mem {l : List Env} {b : Addr} {base h : Heap} (F : h.FunFrames base l) (hb : b ∈ frs l) : base.get? b = none ∧ ∃ o, h.get? b = some o ∧ ∀ vs, o.data ≠ .fields vs := F.mem hb

/-- from a heap in which B stands to a later one -/
theorem un_later {outer : List Env} {H H' : Hp} {h h1 h2 B : Heap} (u : Un (frs outer) [] H H' h h1) (F : h1.FunFrames B outer) (hB1 : B.StaysIn h1) (hB2 : B.StaysIn h2) (up : h1.UpToSlots h2)
    (cov : ∀ b o, h.get? b = some o → b ∉ frs outer → ∃ o', B.get? b = some o') : Un (frs outer) [] H H' h h2 := by
  have at2 : ∀ b o, h.get? b = some o → b ∉ frs outer → ∀ o1, h1.get? b = some o1 → h2.get? b = some o1 := fun b o e hb o1 e1 => by
    obtain ⟨o', eB⟩ := cov b o e hb
    have q := hB1 b o' eB
    rw [e1] at q; cases q
    exact hB2 b _ eB
  refine ⟨fun b o e n hb hx => at2 b o e hb o (u.keep b o e n hb hx), fun b o e n hb hx => ?_, u.free, fun b o e hx => ?_, u.tups, u.frzs, u.tbls⟩
  · obtain ⟨sl, e1⟩ := u.slot b o e n hb hx
    obtain ⟨_, o1, q1, q2⟩ := frs_mem F hb
    rw [e1] at q1; cases q1
    obtain ⟨sl2, e2⟩ := up b _ e1 q2
    exact ⟨sl2, e2⟩
  · obtain ⟨o1, e1⟩ := u.there b o e hx
    by_cases hb : b ∈ frs outer
    · obtain ⟨_, o2, q1, q2⟩ := frs_mem F hb
      obtain ⟨sl2, e2⟩ := up b _ q1 q2
      exact ⟨_, e2⟩
    · exact ⟨o1, at2 b o e hb o1 e1⟩
theorem hok_later {P : Program} {w : World} {H : Hp} {h1 h2 B : Heap} (x : HOk P w H h1) (hB1 : B.StaysIn h1) (hB2 : B.StaysIn h2) (trk : ∀ b u, H b = some u → ∃ o', B.get? b = some o') : HOk P w H h2 := fun b o e => by
  refine (x b o e).stay (fun c u hc q => ?_) (fun _ q => q) fun _ _ q => q
  have ht : ∃ o', B.get? c = some o' := by
    rcases hc with z | z
    · rw [z]; exact trk b o e
    · exact trk c _ z
  obtain ⟨o', eB⟩ := ht
  have q1 := hB1 c o' eB
  rw [q] at q1; cases q1
  exact hB2 c _ eB

/-- a def's body as its exceptions see it -/
structure Body (X : Cx) (E : XK) : Prop where
  xe : X.xe = fun e s' => wpAny (model X.prog X.w) X.A (leaving X.env e) (fun _ s'' => CX1 X.prog X.w X.outer X.H₀ X.s₀ E e s'') (fun e' s'' => CX1 X.prog X.w X.outer X.H₀ X.s₀ E e' s'') s'
  stk : X.stack = X.env :: X.outer
  fr : X.env.frame = some X.env.locals
  ex : X.ex = []
section
variable {X : Cx} {E : XK} {pins : List (Addr × Obj)} {σ : St} {H : Hp} {s : Shared}
theorem Inv.old (I : Inv X pins σ H s) {b : Addr} {o : Obj} (e : X.s₀.heap.get? b = some o) : b ≠ X.env.locals := Nat.ne_of_lt (Nat.lt_of_lt_of_le (Heap.lt_size e) I.ok.above)
theorem Body.base (Bd : Body X E) (I : Inv X pins σ H s) : Un X.fs [] X.H₀ H X.s₀.heap s.heap := by
  have q := I.base
  rw [Bd.ex] at q
  exact q
theorem Body.notin (Bd : Body X E) {b : Addr} (h1 : b ≠ X.env.locals) (h2 : b ∉ frs X.outer) : b ∉ frs X.stack := by
  rw [Bd.stk]
  intro z
  obtain ⟨env, he, hf⟩ := List.mem_filterMap.mp z
  rcases List.mem_cons.mp he with rfl | he
  · rw [Bd.fr] at hf; exact h1 (Option.some.inj hf).symm
  · exact h2 (List.mem_filterMap.mpr ⟨env, he, hf⟩)

/-- an exception of a callee passes through this body -/
theorem pass1 (Bd : Body X E) : Passes (CX1 X.prog X.w) X E := by
  intro pins σ H s e s' I h
  obtain ⟨a, C, a0, B, H', rfl, T, q⟩ := h
  rw [Bd.xe]
  have hfr : X.A.frames = some (X.env :: X.outer) := by rw [← Bd.stk]; exact I.ok.frames
  have fly := T.fly
  rw [Bd.stk] at fly
  refine wpAny_leaves_onW hfr Bd.fr fly fun h' fly' up => ?_
  have cov : ∀ b o, X.s₀.heap.get? b = some o → b ∉ frs X.outer → ∃ o', B.get? b = some o' := fun b o e hb => by
    obtain ⟨o1, e1⟩ := (Bd.base I).there b o e (by simp)
    exact T.cov b o1 e1 (Bd.notin (I.old e) hb)
  have u1 : Un (frs X.outer) [] X.H₀ H' X.s₀.heap s'.heap := by
    have ub := Bd.base I
    refine ⟨fun b o e n hb hx => T.un.keep b o (ub.keep b o e n hb hx) (ub.free b o e n hx) (Bd.notin (I.old e) hb) (by simp), fun b o e n hb hx => ?_, fun b o e n hx => ?_, fun b o e hx => ?_, fun b xs e => T.un.tups b xs (ub.tups b xs e),
      fun b o xs e => T.un.frzs b o xs (ub.frzs b o xs e), fun b ps e => ?_⟩
    · obtain ⟨sl, e1⟩ := ub.slot b o e n hb hx
      obtain ⟨sl', e2⟩ := T.un.any e1 (ub.free b o e n hx) (by simp)
      exact ⟨sl', e2⟩
    · obtain ⟨o1, e1⟩ := ub.there b o e hx
      exact T.un.free b o1 e1 (ub.free b o e n hx) (by simp)
    · obtain ⟨o1, e1⟩ := ub.there b o e hx
      exact T.un.there b o1 e1 (by simp)
    · obtain ⟨m1, e1⟩ := ub.tbls b ps e
      obtain ⟨m2, e2⟩ := T.un.tbls b _ e1
      exact ⟨m1 ++ m2, by rw [e2, Array.append_assoc]⟩
  have F' : s'.heap.FunFrames B X.outer := by obtain ⟨_, _, ⟨_, _, k⟩, _⟩ := fly; exact k
  exact ⟨a, C, a0, B, H', rfl, ⟨T.os.trans I.os, T.bare, un_later u1 F' fly.1 fly'.1 up cov, hok_later T.hok fly.1 fly'.1 T.trk, fly', cov, T.trk⟩, q⟩

/-- an own exception class, as the written part has it -/
theorem own_of_K {K : PySem.W.Frag} {h : Heap} {mg : Str → Option Value} {x : Str} {C : Addr} {bmB : List Value} {newId : String} (KX : K.In h) (hm : mg x = some (.ref C)) (q : PySem.W.excIn K C bmB newId = true) : OwnCls x C bmB newId mg h := by
  refine ⟨hm, ?_⟩
  unfold PySem.W.excIn at q
  split at q
  · rename_i dd cd sl ho
    split at q
    · rename_i C' bm k0 k1 k2 k3 n k5 hm' hs
      simp only [Bool.and_eq_true, beq_iff_eq, Bool.not_eq_true'] at q
      obtain ⟨⟨⟨⟨⟨rfl, rfl⟩, hdel⟩, ht⟩, hok⟩, hni⟩ := q
      obtain ⟨nm, bs, mro, ns, qn, hd, sn, sub, ab, col, del⟩ := cd
      dsimp only at hm' hdel hok hni
      subst hm' hdel
      have hsl : sl = #[k0, k1, k2, k3, some (.builtin n), k5] := by
        obtain ⟨l⟩ := sl
        simp only at hs
        rw [hs]
      subst hsl
      exact ⟨bm, ns, nm, qn, bs, hd, sn, sub, ab, col, dd, k0, k1, k2, k3, k5, _, KX _ _ ho, .of_isNs (PySem.W.isNs_of_in KX hok), PySem.W.nsMap_none_of_in KX hok hni, PySem.W.tail_of_in KX ht⟩
    · cases q
  · cases q

/-- raise C(e, ..) -/
def tRaise (C : Addr) (E : XK) (t : TA) : TS := fun _ σ H => t σ H fun vs H1 => vs.length ≤ sizeLine ∧ E (.ref C) none H1
theorem ps_raise {x : Str} {np cpos pos : Pos} {e : Expr} {es : List Expr} {t : TA} {C : Addr} {bmB : List Value} {B newId initId : String} (Bd : Body X E) (hc : X.calm = true) (hg : Gl X x) (hm : X.mg x = some (.ref C))
    (hk : PySem.W.excIn X.K C bmB newId = true) (FB : ExcBaseFacts B newId initId bmB) (ha : PA X (e :: es) t)
    (he : starEach (e :: es) X.env = (false, eval e X.env) :: starEach es X.env := by rfl) (hpl : (backTo cpos (starEach es X.env)).any (·.1) = false := by rfl) (hdb : (x == ("__debug__" : Str)) = false := by decide) :
    PS X (.Raise (some (.Call (.Name x np) (e :: es) [] cpos)) none pos) (tRaise C E t) := by
  intro pins s σ H D I h
  have O := own_of_K (I.mod.kin) hm hk
  obtain ⟨tl, N, nm, q, bs, hdct, sn, sub, ab, col, dd, k0, k1, k2, k3, k5, mN, hC, hN, hni, T⟩ := O.obj
  refine wpAny_Raise_call_subT (C := C) (nm := nm) (q := q) (N := N) (bs := bs) (bm := tl) (hdct := hdct) (sn := sn) (sub := sub) (ab := ab) (col := col) (dd := dd) (k0 := k0) (k1 := k1) (k2 := k2) (k3 := k3) (k5 := k5)
    FB (mN := mN) (T.hasType FB.hasBase) (I.ok.hd hc) (by rw [he]; show (false || (backTo cpos (starEach es X.env)).any (·.1)) = false; rw [hpl]; rfl) hni (ld_glob I hg hm ⟨rfl, ?_⟩ hdb)
  have hA := ha cpos pins s σ H _ I h
  rw [he] at hA ⊢
  refine Calls.evalArgs_plain (thn hA fun us s2 ⟨vs, H2, I2, r, hz, q2⟩ => ?_)
  refine ⟨rfl, by rw [← r.length]; exact hz, I2.bk _ _ hC, hN.keeps I2.bk, T.keeps I2.bk, fun h' a hx => ?_⟩
  rw [Bd.xe]
  have hfr : X.A.frames = some (X.env :: X.outer) := by rw [← Bd.stk]; exact I.ok.frames
  have hin : ∀ env ∈ X.stack, ∀ b, env.frame = some b → b ∈ frs X.stack := fun env he b hb => List.mem_filterMap.mpr ⟨env, he, hb⟩
  have F0 : s2.heap.FunFrames (PySem.W.hideAll s2.heap (frs X.stack)) X.stack := PySem.W.funFrames_hide I2.stack hin
  have F1 : s2.heap.FunFrames (PySem.W.hideAll s2.heap (frs X.stack)) (X.env :: X.outer) := by rw [← Bd.stk]; exact F0
  have hB0 : (PySem.W.hideAll s2.heap (frs X.stack)).StaysIn s2.heap := fun b o q => PySem.W.of_hideAll _ q
  have hBget : ∀ b o, s2.heap.get? b = some o → b ∉ frs X.stack → (PySem.W.hideAll s2.heap (frs X.stack)).get? b = some o := fun b o e hb => PySem.W.hideAll_get _ e hb
  refine wpAny_leaves_madeW hfr Bd.fr hB0 F1 hx fun h'' t fly tup tn up => ?_
  have cov : ∀ b o, X.s₀.heap.get? b = some o → b ∉ frs X.outer → ∃ o', (PySem.W.hideAll s2.heap (frs X.stack)).get? b = some o' := fun b o e hb => by
    obtain ⟨o1, e1⟩ := (Bd.base I2).there b o e (by simp)
    exact ⟨o1, hBget b o1 e1 (Bd.notin (I2.old e) hb)⟩
  have trk : ∀ b u, H2 b = some u → ∃ o', (PySem.W.hideAll s2.heap (frs X.stack)).get? b = some o' := fun b u e => by
    have hb : b ∉ frs X.stack := fun z => by rw [I2.stkFree b z] at e; cases e
    have hlt := I2.hok.lt e
    obtain ⟨o1, e1⟩ : ∃ o1, s2.heap.get? b = some o1 := by
      cases hq : s2.heap.get? b with
      | some o1 => exact ⟨o1, rfl⟩
      | none => exact absurd hq (objOk_there (I2.hok b u e))
    exact ⟨o1, hBget b o1 e1 hb⟩
  have F2 : s2.heap.FunFrames (PySem.W.hideAll s2.heap (frs X.stack)) X.outer := by obtain ⟨_, _, k⟩ := F1; exact k
  have up2 : s2.heap.UpToSlots h'' := (Heap.UpToSlots.of_keeps hx.keeps).trans up
  exact ⟨a, C, .ref t, _, H2, rfl, ⟨I2.os, I2.bare, un_later (Bd.base I2) F2 hB0 fly.1 up2 cov, hok_later I2.hok hB0 fly.1 trk, fly, cov, trk⟩, q2⟩
where
  objOk_there {P : Program} {w : World} {H : Hp} {h : Heap} {a : Addr} {o : HO} (x : ObjOk P w H h a o) : h.get? a ≠ none := by
    cases o with
    | lst xs => obtain ⟨_, _, _, _, e⟩ := x; rw [e]; simp
    | tup xs => obtain ⟨_, _, _, ob, e, _⟩ := x; rw [e]; simp
    | dK kvs => obtain ⟨_, _, _, _, o, _, _, e, _⟩ := x; rw [e]; simp
    | dT kvs => obtain ⟨_, _, _, _, o, _, _, e, _⟩ := x; rw [e]; simp
    | set S n => obtain ⟨o, _, _, _, e, _⟩ := x; rw [e]; simp
    | ins C dx fs => obtain ⟨_, _, _, e, _⟩ := x; rw [e]; simp
    | own y => obtain ⟨_, e⟩ := x; rw [e]; simp
    | xd fs => obtain ⟨_, ⟨_, _, _, e, _⟩, _⟩ := x; rw [e]; simp
    | rng lo hi => obtain ⟨_, _, _, e⟩ := x; rw [e]; simp
    | frz ob u => obtain ⟨e, _⟩ := x; rw [e]; simp
    | tbl ps => have e : h.get? a = some _ := x; rw [e]; simp
    | met f y => have e : h.get? a = some _ := x; rw [e]; simp
    | ext φ => obtain ⟨_, ⟨_, e⟩, _⟩ := x; rw [e]; simp
end
end L2
namespace L2
open PySem PySem.Spec PyProof.Rows

def ExcAt (a C : Addr) (h : Heap) : Prop := ∃ oe vs, h.get? a = some oe ∧ oe.cls = .ref C ∧ oe.data = .fields vs
theorem ExcAt.mono {a C : Addr} {h1 h2 : Heap} (x : ExcAt a C h1) (k : ∀ o, h1.get? a = some o → h2.get? a = some o) : ExcAt a C h2 := let ⟨oe, vs, e, c, d⟩ := x; ⟨oe, vs, k _ e, c, d⟩

/-- an own class that may be named in an except -/
structure Catch (K : PySem.W.Frag) (C : Addr) : Prop where
  ty : PySem.W.typeIn K (.ref C) = some (.type "type")
  cls : (PySem.W.clsIn K C).isSome = true
  base : PySem.W.subIn K (.ref C) (.type "BaseException") = some true
theorem looks_isType {K : PySem.W.Frag} {M : Model} {h : Heap} {C : Addr} (KX : K.In h) (z0 : (PySem.W.clsIn K C).isSome = true) : PySem.W.Looks M h (isType (.ref C)) true := by
  unfold PySem.W.clsIn at z0
  split at z0
  · rename_i c' d' cd' sl' ho
    intro A' Q' E' s' k q
    unfold isType loadHead
    exact wpAny_bind (wpAny_loadPart (k _ _ (KX _ _ ho)) (wpAny_pure q))
  · cases z0
theorem excMatches_K {M : Model} {A : Around} {E : Value → Shared → Prop} {s : Shared} {K : PySem.W.Frag} {a C C2 : Addr} {b : Bool} {Q : Bool → Shared → Prop} (KX : K.In s.heap) (x : ExcAt a C s.heap) (c : Catch K C2)
    (hs : PySem.W.subIn K (.ref C) (.ref C2) = some b) (q : Q b s) : wpAny M A (excMatches (.ref a) (.ref C2)) Q E s := by
  obtain ⟨h, g, d, t, os⟩ := s
  obtain ⟨oe, vs, he, hc, hd⟩ := x
  have L1 : PySem.W.Looks M h (typeOf (.ref C2)) (.type "type") := PySem.W.looks_typeIn KX c.ty
  have L2 : PySem.W.Looks M h (isType (.ref C2)) true := looks_isType KX c.cls
  have L3 : PySem.W.Looks M h (isSubtype (.ref C2) (.type "BaseException")) true := PySem.W.looks_subIn KX c.base
  have L4 : PySem.W.Looks M h (isSubtype (.ref C) (.ref C2)) b := PySem.W.looks_subIn KX hs
  have L5 : PySem.W.Looks M h (typeOf (.ref a)) (.ref C) := hc ▸ (PySem.W.Looks.ld he).andThen .now
  have f := tc_notTuple
  have L6 : PySem.W.Looks M h (isSubtype (.type "type") (.type "tuple")) false := PySem.W.Looks.of_pure f
  have L7 : PySem.W.Looks M h (isInstance (.ref C2) (.type "tuple")) false := L1.andThen L6
  unfold excMatches
  refine wpAny_bind (L7.at ?_)
  simp only [Bool.false_eq_true, if_false]
  refine wpAny_bind (wpAny_pure ?_)
  rw [List.forIn_cons]
  unfold isExcClass
  refine wpAny_bind (wpAny_bind (wpAny_bind (wpAny_bind (L2.at ?_))))
  simp only [if_true]
  refine L3.at ?_
  simp only [Bool.not_true, Bool.false_eq_true, if_false]
  refine wpAny_pure ?_
  simp only [List.forIn_nil]
  refine wpAny_pure (wpAny_bind (L5.at ?_))
  rw [List.forIn_cons]
  refine wpAny_bind (wpAny_bind (wpAny_bind (L4.at ?_)))
  cases b with
  | true => simp only [if_true]; exact wpAny_pure (wpAny_pure (wpAny_pure q))
  | false => simp only [Bool.false_eq_true, if_false]; exact wpAny_pure (wpAny_pure (wpAny_pure q))

/-- the context of a try's body: what is raised there is caught here -/
def tryCx (X : Cx) (pins : List (Addr × Obj)) (E : XK) : Cx := { X with
  pn := X.pn ++ pins
  xe := fun e s' => ∃ (a C : Addr) (a0 : Value) (B : Heap) (σ : St) (H H' : Hp) (s : Shared), e = .ref a ∧ Inv X pins σ H s ∧ Thrown X.prog X.w X.stack H s a C a0 B H' s' ∧ E (.ref C) none H' }
/-- the context of an except's suite -/
def hndCx (X : Cx) (a : Addr) : Cx := { X with A := X.A.mark (some (.ref a)), calm := false, xe := fun _ _ => False }
section
variable {X : Cx} {E : XK} {pins : List (Addr × Obj)} {σ : St} {H : Hp} {s : Shared} {a : Addr}
theorem Inv.toTry (I : Inv X pins σ H s) : Inv (tryCx X pins E) [] σ H s :=
  ⟨⟨I.ok.mod, I.ok.kind, I.ok.glob, I.ok.blt, I.ok.above, I.ok.inj, I.ok.has, I.ok.cab, I.ok.hd, I.ok.frames, I.ok.stk, I.ok.exf, I.ok.bs, I.ok.bsz, I.ok.noex, I.ok.exfs, I.ok.funs, I.ok.frf⟩,
    I.os, I.bare, I.base, I.loc, I.cell, I.free, I.freeC, fun p hp => I.pin p (by rw [List.append_nil] at hp; exact hp), I.hok, I.len⟩
theorem Inv.ofTry {pins2 : List (Addr × Obj)} (I : Inv (tryCx X pins E) pins2 σ H s) : Inv X pins σ H s :=
  ⟨⟨I.ok.mod, I.ok.kind, I.ok.glob, I.ok.blt, I.ok.above, I.ok.inj, I.ok.has, I.ok.cab, I.ok.hd, I.ok.frames, I.ok.stk, I.ok.exf, I.ok.bs, I.ok.bsz, I.ok.noex, I.ok.exfs, I.ok.funs, I.ok.frf⟩,
    I.os, I.bare, I.base, I.loc, I.cell, I.free, I.freeC, fun p hp => I.pin p (List.mem_append_left _ hp), I.hok, I.len⟩
theorem Inv.toHnd (I : Inv X pins σ H s) : Inv (hndCx X a) pins σ H s :=
  ⟨⟨I.ok.mod, I.ok.kind, I.ok.glob, I.ok.blt, I.ok.above, I.ok.inj, I.ok.has, I.ok.cab, (fun z => by cases z), I.ok.frames, I.ok.stk, I.ok.exf, I.ok.bs, I.ok.bsz, I.ok.noex, I.ok.exfs, I.ok.funs, I.ok.frf⟩,
    I.os, I.bare, I.base, I.loc, I.cell, I.free, I.freeC, I.pin, I.hok, I.len⟩
theorem Inv.ofHnd (hd : X.calm = true → X.A.handled = none) (I : Inv (hndCx X a) pins σ H s) : Inv X pins σ H s :=
  ⟨⟨I.ok.mod, I.ok.kind, I.ok.glob, I.ok.blt, I.ok.above, I.ok.inj, I.ok.has, I.ok.cab, hd, I.ok.frames, I.ok.stk, I.ok.exf, I.ok.bs, I.ok.bsz, I.ok.noex, I.ok.exfs, I.ok.funs, I.ok.frf⟩,
    I.os, I.bare, I.base, I.loc, I.cell, I.free, I.freeC, I.pin, I.hok, I.len⟩
/-- what a call in the try's body wants -/
theorem passTry : Passes (CX1 X.prog X.w) (tryCx X pins E) E := by
  intro pins2 σ H s e s' I h
  obtain ⟨a, C, a0, B, H', rfl, T, q⟩ := h
  exact ⟨a, C, a0, B, σ, H, H', s, rfl, I.ofTry, T, q⟩

theorem Un.ext {fs : List Addr} {H H' : Hp} {h h' : Heap} {a : Addr} {o : HO} (u : Un fs [] H H' h h') (ha : h.get? a = none) (hn : H' a = none) : Un fs [] H (upd H' a o) h h' where
  keep := u.keep
  slot := u.slot
  free := fun b ob e n hx => by rw [upd_ne (fun z => by rw [z, ha] at e; cases e)]; exact u.free b ob e n hx
  there := u.there
  tups := fun b xs e => by have q := u.tups b xs e; rw [upd_ne (ne_of_none q hn)]; exact q
  frzs := fun b ob xs e => by have q := u.frzs b ob xs e; rw [upd_ne (ne_of_none q hn)]; exact q
  tbls := fun b ps e => by obtain ⟨m, q⟩ := u.tbls b ps e; exact ⟨m, by rw [upd_ne (ne_of_none q hn)]; exact q⟩

/-- behind the landing: the frame again, with the exception tracked -/
theorem caught_inv {C : Addr} {a0 : Value} {B : Heap} {H' : Hp} {s' : Shared} {h2 : Heap} (I : Inv X pins σ H s) (T : Thrown X.prog X.w X.stack H s a C a0 B H' s') (fl : Heap.FlyingW B X.stack a (.ref C) a0 h2) (up : s'.heap.UpToSlots h2) :
    Inv X pins σ (upd H' a (.ext (ExcAt a C))) { s' with heap := h2 } ∧ H' a = none := by
  obtain ⟨oe, vs, he, hcl, hd, _⟩ := fl.first
  obtain ⟨oe1, vs1, he1, _, hd1, _⟩ := T.fly.first
  have hBa : B.get? a = none := T.fly.2.1
  have hn : H' a = none := by
    cases q : H' a with
    | none => rfl
    | some u => obtain ⟨o', z⟩ := T.trk a u q; rw [hBa] at z; cases z
  have ha : s.heap.get? a = none := by
    cases q : s.heap.get? a with
    | none => rfl
    | some o =>
      by_cases hf : a ∈ frs X.stack
      · obtain ⟨_, o1, q1, q2⟩ := frs_mem T.fly.2.2.1 hf
        rw [he1] at q1; cases q1
        exact absurd hd1 (q2 vs1)
      · obtain ⟨o', z⟩ := T.cov a o q hf
        rw [hBa] at z; cases z
  have u1 := un_later T.un T.fly.2.2.1 T.fly.1 fl.1 up T.cov
  have hk1 := hok_later T.hok T.fly.1 fl.1 T.trk
  have ex : ExcAt a C h2 := ⟨oe, vs, he, hcl, hd⟩
  have hk2 : HOk X.prog X.w (upd H' a (.ext (ExcAt a C))) h2 := fun b o e => by
    by_cases hb : b = a
    · subst hb
      rw [upd_same] at e; cases e
      exact ⟨ex, ⟨oe, he⟩, fun h1 h2 p k => p.mono k⟩
    · rw [upd_ne hb] at e
      exact (hk1 b o e).stay (fun _ _ _ q => q) (fun c q => by rw [upd_ne (ne_of_none q hn)]; exact q) fun c xs q => by rw [upd_ne (ne_of_none q hn)]; exact q
  exact ⟨I.call' (s' := { s' with heap := h2 }) (ch := []) T.os (u1.ext ha hn) hk2 T.bare (fun b z => absurd z (by simp)), hn⟩

def tTry (K : PySem.W.Frag) (C2 : Addr) (i : Nat) (E : XK) (tb th : TS) : TS := fun D σ H => tb D σ H ∧ ∀ (σ' : St) (a C : Addr) (H' : Hp), σ'.length = σ.length → E (.ref C) none H' → H' a = none →
  PySem.W.subIn K (.ref C) (.ref C2) = some true ∧
    th { nx := fun σ2 H2 => D.nx (σ2.set i none) H2, rt := D.rt, bk := fun σ2 H2 => D.bk (σ2.set i none) H2, ct := fun σ2 H2 => D.ct (σ2.set i none) H2 } (σ'.set i (some (.ref a))) (upd H' a (.ext (ExcAt a C)))

theorem ps_try {n cn : Str} {np hpos pos : Pos} {body suite : List Stmt} {b₀ : Stmt} {tb th : TS} {C2 : Addr} {i : Nat} (hstk : X.stack = X.env :: X.outer) (hfr : X.env.frame = some X.env.locals) (hN : X.N.Nodup) (hi : X.N[i]? = some n)
    (hl : X.env.kindOf n = some .local) (hg : Gl X cn) (hm : X.mg cn = some (.ref C2)) (hC : Catch X.K C2)
    (hb : ∀ pins, PSs (tryCx X pins E) body tb) (hh : ∀ a, PSs (hndCx X a) (b₀ :: suite) th) (hdb : (cn == ("__debug__" : Str)) = false := by decide) :
    PS X (.Try body [.ExceptHandler (some (.Name cn np)) (some n) (b₀ :: suite) hpos] [] [] pos) (tTry X.K C2 i E tb th) := by
  intro pins s σ H D I h
  obtain ⟨h1, h2⟩ := h
  refine wpAny_Try_except (wpAny_mono (hb pins [] s σ H D I.toTry h1) (fun f s1 q => ?_) fun e s1 q => ?_)
  · cases f with
    | next => obtain ⟨σ', H', I', n'⟩ := q; exact wpAny_execs_nil ⟨σ', H', I'.ofTry, n'⟩
    | brk => obtain ⟨σ', H', I', n'⟩ := q; exact ⟨σ', H', I'.ofTry, n'⟩
    | cont => obtain ⟨σ', H', I', n'⟩ := q; exact ⟨σ', H', I'.ofTry, n'⟩
    | ret u => obtain ⟨v, σ', H', I', r', n'⟩ := q; exact ⟨v, σ', H', I'.ofTry, r', n'⟩
  · obtain ⟨a, C, a0, B, σ0, H0, H', s0, rfl, I0, T, qE⟩ := q
    have hframes : X.A.frames = some (X.env :: X.outer) := by rw [← hstk]; exact I.ok.frames
    have fly := T.fly
    rw [hstk] at fly
    refine wpAny_looks_onW hframes hfr fly fun h4 held up4 => ?_
    refine wpAny_landsW held fun h5 fly5 up5 => ?_
    have up45 := up4.trans up5
    rw [← hstk] at fly5
    obtain ⟨J5, hna⟩ := caught_inv I0 T fly5 up45
    have I5 := J5.toHnd (a := a)
    obtain ⟨hsub, q7⟩ := h2 σ0 a C H' (by rw [I0.len, I.len]) qE hna
    have x5 : ExcAt a C h5 := (I5.hok a _ upd_same).1
    refine wpAny_handleBy_cons (codeAny_handlers_test (ld_glob (X := hndCx X a) I5 hg hm ?_ hdb)) (by intro q; cases q)
    refine excMatches_K (K := X.K) I5.kIn x5 hC hsub ?_
    refine codeAny_handlers_suite_as ?_
    refine lands_againW fly5 fun h6 fly6 up6 => ?_
    obtain ⟨J6, _⟩ := caught_inv I0 T fly6 (up45.trans up6)
    have I6 := J6.toHnd (a := a)
    refine store_ok (X := hndCx X a) (v := .ref a) I6 hN hi (.inl hl) rfl (fun s7 I7 => ?_) (.inr hl)
    refine wpAny_mono (hh a pins s7 _ _ _ I7 q7) (fun f s8 q8 => ?_) fun _ _ z => z.elim
    have hp : (X.env.scope.kind == .class || (X.env.scope.kind == .module && X.env.locals != X.env.globals)) = false := by rw [I.ok.kind]; rfl
    have goes : ∀ {σ8 : St} {H8 : Hp} {P : Prop} {f : Flow}, Inv (hndCx X a) pins σ8 H8 s8 → (∀ s9, Inv X pins (σ8.set i none) H8 s9 → SP X pins D f s9) →
        wpAny (model X.prog X.w) X.A (do bindName X.env n .none; unbindBehindTheSuite X.env n hpos) (fun _ s₃ => SP X pins D f s₃) X.xe s8 := fun {σ8 H8 P f} I8 k => by
      have J8 := I8.ofHnd I.ok.hd
      obtain ⟨m, hn, hlk⟩ := id J8.loc
      refine wpAny_nameGoes_keeps hl hn hp fun h9 v hn9 hs9 => k _ ?_
      have cne := J8.cne
      obtain ⟨oL, _, _, hoL, _⟩ := id hn
      refine ⟨J8.ok, J8.os, J8.bare, ⟨fun b o e nn hb hx => ?_, fun b o e nn hb hx => ?_, J8.base.free, fun b o e hx => ?_, J8.base.tups, J8.base.frzs, J8.base.tbls⟩, ⟨_, hn9, fun j y v' e1 e2 e3 => ?_⟩, fun y c e => ?_, J8.free, J8.freeC, fun p hp => ?_, fun b ob e => ?_, by simpa using J8.len⟩
      · exact (hs9.2 b (J8.old e)).trans (J8.base.keep b o e nn hb hx)
      · obtain ⟨sl, e1⟩ := J8.base.slot b o e nn hb hx
        exact ⟨sl, (hs9.2 b (J8.old e)).trans e1⟩
      · obtain ⟨o', e1⟩ := J8.base.there b o e hx
        exact ⟨o', (hs9.2 b (J8.old e)).trans e1⟩
      · by_cases hj : j = i
        · subst hj
          have hlt : j < σ8.length := by rw [J8.len]; exact (List.getElem?_eq_some_iff.mp hi).1
          rw [List.getElem?_set_self hlt] at e2
          cases e2
        · rw [List.getElem?_set_ne (Ne.symm hj)] at e2
          obtain ⟨u', r', q⟩ := hlk j y v' e1 e2 e3
          refine ⟨u', r', ?_⟩
          rcases q with ⟨k', e⟩ | ⟨k', c, e, z⟩
          · refine .inl ⟨k', ?_⟩
            have hne : y ≠ n := fun e => hj (nodup_ix hN e1 (e ▸ hi))
            simp [hne, e]
          · exact .inr ⟨k', c, e, z.sameBut hs9 (cne y c e)⟩
      · obtain ⟨w', z⟩ := J8.cell y c e
        exact ⟨w', z.sameBut hs9 (cne y c e)⟩
      · obtain ⟨e, nn, ne, nf, d⟩ := J8.pin p hp
        exact ⟨(hs9.2 p.1 ne).trans e, nn, ne, nf, d⟩
      · refine (J8.hok b ob e).stay (fun c w' hc q => (hs9.2 c ?_).trans q) (fun _ q => q) fun _ _ q => q
        rintro rfl
        rcases hc with z | z
        · rw [← z, J8.free] at e; cases e
        · rw [J8.free] at z; cases z
    cases f with
    | next => obtain ⟨σ8, H8, I8, n8⟩ := q8; exact goes (P := True) I8 fun s9 I9 => ⟨_, H8, I9, n8⟩
    | brk => obtain ⟨σ8, H8, I8, n8⟩ := q8; exact goes (P := True) I8 fun s9 I9 => ⟨_, H8, I9, n8⟩
    | cont => obtain ⟨σ8, H8, I8, n8⟩ := q8; exact goes (P := True) I8 fun s9 I9 => ⟨_, H8, I9, n8⟩
    | ret u => obtain ⟨v, σ8, H8, I8, r8, n8⟩ := q8; exact goes (P := True) I8 fun s9 I9 => ⟨v, _, H8, I9, r8, n8⟩
end
end L2
namespace L2
open PySem PySem.Spec PyProof.Rows
/-! ### isinstance of an exception of one's own -/
structure ExcCls (K : PySem.W.Frag) (C : Addr) : Prop where
  ga : PySem.W.findIn K (.ref C) "__getattribute__" = some (some (.builtin "BaseException.__getattribute__"))
  nga : PySem.W.findIn K (.ref C) "__getattr__" = some none
  at_ : PySem.W.findIn K (.ref C) "__class__" = some (some (.builtin "object.__class__"))
  cls : (PySem.W.clsIn K C).isSome = true
  obj : PySem.W.mroIn K C (.type "object") = some true
  base : PySem.W.subIn K (.ref C) (.type "BaseException") = some true
section
variable {prog : Program} {w : World} {A : Around} {E : Value → Shared → Prop} {h : Heap} {g : Array GenState} {d : Drawn} {t : Nat} {os : OsState} {K : PySem.W.Frag} {a C : Addr}
theorem ExcAt.type {M : Model} (x : ExcAt a C h) : PySem.W.Looks M h (typeOf (.ref a)) (.ref C) := by
  obtain ⟨oe, vs, he, hc, hd⟩ := x
  exact hc ▸ (PySem.W.Looks.ld he).andThen .now
open PySem.W Builtin Builtin.ObjectAttr Builtin.Getset_descriptor in
theorem exc_class_get {R : Result → Shared → Prop} {tp : Value} (KX : K.In h) (x : ExcAt a C h) (c : ExcCls K C) (hq : R (.ok (.ret (.ref C))) ⟨h, g, d, t, os⟩) :
    codeAny (model prog w) A (.call (.builtin "getset_descriptor.__get__") ⟨[.builtin "object.__class__", .ref a, tp], []⟩) R ⟨h, g, d, t, os⟩ := by
  have L0 := x.type (M := model prog w)
  have L1 := looks_mroIn (M := model prog w) KX c.obj
  refine codeAny_call_builtin KF.slot_gs.plain KF.entry_gs (KF.slot_gs.check _ _ _ _ _ _ _ _ KF.type_class (KF.args_gs _ _ _) ?_)
  unfold Builtin.«getset_descriptor.__get__» descrGet
  rw [dga_obj]
  refine wpAny_bind (wpAny_pure ?_)
  unfold descrGetter descrCheckInstance descrNameAndClass isInstance
  simp only [KF.owner_class]
  repeat lk
  refine ⟨Code.quiet_builtin _ (by decide +kernel), codeAny_builtin KF.entry_class ?_⟩
  unfold Builtin.«object.__class__» shownTypeOf
  repeat lk
  exact hq
open PySem.W in
theorem exc_check {M : Model} {nameV : Value} {Q : Unit → Shared → Prop} (KX : K.In h) (x : ExcAt a C h) (c : ExcCls K C) (hq : Q () ⟨h, g, d, t, os⟩) :
    wpAny M A (checkBuiltinCall "BaseException.__getattribute__" ⟨[.ref a, nameV], []⟩) Q E ⟨h, g, d, t, os⟩ := by
  have hk : builtinKind "BaseException.__getattribute__" = some .slot := by decide +kernel
  have hsplit : splitId "BaseException.__getattribute__" = some ("BaseException", "__getattribute__") := by decide +kernel
  have ha := PySem.F.args_bexc_ga (.ref a) nameV
  have L0 := x.type (M := M)
  have L1 := looks_subIn (M := M) KX c.base
  simp only [checkBuiltinCall, hk, hsplit]
  refine wpAny_bind ?_
  unfold isInstance
  refine wpAny_bind (L0.at ?_)
  refine L1.at ?_
  repeat (first | assumption | wp_step)
open PySem.W in
theorem exc_entry {tk : Tok} {Q : Fin → Shared → Prop} (KX : K.In h) (x : ExcAt a C h) (c : ExcCls K C) (hq : Q (.done (.ret (.ref C))) ⟨h, g, d, t, os⟩) :
    wpAny (model prog w) A (Builtin.«object.__getattribute__» ⟨[.ref a, .str "__class__" tk], []⟩) Q E ⟨h, g, d, t, os⟩ := by
  have hT5 : (⟨h, g, d, t, os⟩ : Shared).TypeIs (.builtin "object.__class__") "getset_descriptor" := PySem.F.typeOf_object_class
  have f5 := PySem.F.typeOf_object_class
  have f6 := PySem.F.slot_gs_get.lookup
  have f7 := PySem.F.slot_gs_set.lookup
  have L0 := x.type (M := model prog w)
  have L1 := looks_findIn (M := model prog w) KX c.at_
  repeat (any_goals (first | assumption | with_reducible refine L0.at ?_ | with_reducible refine L1.at ?_ | wp_step))
  refine exc_class_get KX x c ?_
  repeat (any_goals (first | assumption | wp_step))
open PySem.W in
theorem exc_attr {Q : Option Value → Shared → Prop} (KX : K.In h) (x : ExcAt a C h) (c : ExcCls K C) (hq : Q (some (.ref C)) ⟨h, g, d, t + 1, os⟩) :
    wpAny (model prog w) A (getAttr? (.ref a) "__class__") Q E ⟨h, g, d, t, os⟩ := by
  have f3 := PySem.F.excAttr_ValueError.ga.bind (.ref a)
  have L0 := x.type (M := model prog w)
  have L1 := looks_findIn (M := model prog w) KX c.ga
  have L2 := looks_findIn (M := model prog w) KX c.nga
  have hx2 : (Value.builtin "BaseException.__getattribute__" == Value.builtin "object.__getattribute__") = false := by decide +kernel
  have hx1 : (onTheHeap (Value.ref C) && Value.builtin "BaseException.__getattribute__" == Value.builtin "object.__getattribute__") = false := by rw [hx2]; rfl
  unfold getAttr? getAttrBy? getAttrBy
  repeat (any_goals (first | assumption | with_reducible refine L0.at ?_ | with_reducible refine L1.at ?_ | with_reducible refine L2.at ?_ | wp_step))
  refine codeAny_call_builtin PySem.F.excAttr_ValueError.ga.plain PySem.F.entry_bexc_ga (exc_check KX x c (exc_entry KX x c ?_))
  repeat (any_goals (first | assumption | wp_step))
open PySem.W in
theorem kitx_exc (c : ExcCls K C) : KitX K (.ref a) (.ref C) (ExcAt a C) where
  ty := fun _ _ _ x => x.type
  it := fun _ _ KX _ => looks_isType KX c.cls
  ne := fun h tp dd its n sl KX htp => by
    refine Bool.eq_false_iff.mpr fun q => ?_
    have e : C = tp := Value.ref.inj (beq_iff_eq.mp q)
    subst e
    have z := c.cls
    unfold PySem.W.clsIn at z
    split at z
    · rename_i c' d' cd' sl' ho
      have z := (KX _ _ ho).symm.trans htp
      cases z
    · cases z
  ca := fun {prog w A E Q s} KX x k => by obtain ⟨h, g, d, t, os⟩ := s; exact exc_attr KX x c k
end
end L2
namespace L2
open PySem PySem.Spec PyProof.Rows
/-! ### f-strings -/
abbrev TJ := Str → St → Hp → VK → Prop
/-- the parts of an f-string behind what stands already -/
def PJ (X : Cx) (es : List Expr) (t : TJ) : Prop :=
  ∀ (out : Str) (pins : List (Addr × Obj)) (s : Shared) (σ : St) (H : Hp) (Q : VK), Inv X pins σ H s → t out σ H Q → wpAny (model X.prog X.w) X.A (joinParts out (evalEach es X.env)) (EP X pins σ Q) X.xe s
section
variable {X : Cx} {e : Expr} {es : List Expr} {te : TE} {t : TJ} {pos : Pos}
def jNil : TJ := fun out _ H Q => out.length ≤ sizeLine ∧ Q (.str out) H
theorem pj_nil : PJ X [] jNil := fun out pins s σ H Q I h => joinParts_nil (show EP X pins σ Q (.str out s.toks) { s with toks := s.toks + 1 } from ⟨.str out, H, I.tok _, ⟨_, rfl⟩, h.2⟩) h.1
/-- a part whose value is a text -/
def jCons (te : TE) (t : TJ) : TJ := fun out σ H Q => te σ H fun v H1 => ∃ y, v = .str y ∧ (out ++ y).length ≤ sizeLine ∧ t (out ++ y) σ H1 Q
theorem pj_cons (he : PE X e te) (hr : PJ X es t) : PJ X (e :: es) (jCons te t) := by
  intro out pins s σ H Q I h
  refine joinParts_consE (joinParts_cons (thn (he pins s σ H _ I h) fun v s1 ⟨x, H1, I1, r1, y, ex, hz, q⟩ => ?_))
  subst ex
  obtain ⟨tk, rfl⟩ := r1
  exact ⟨hz, hr _ pins s1 σ H1 Q I1 q⟩
theorem pe_fstr {e1 e2 : Expr} {rest : List Expr} (h : PJ X (e1 :: e2 :: rest) t) : PE X (.JoinedStr (e1 :: e2 :: rest) pos) (fun σ H Q => t Str.empty σ H Q) := fun pins s σ H Q I hw => JoinedStr_many (h Str.empty pins s σ H Q I hw)
/-- {e}, an int -/
def tFmtI (te : TE) : TE := fun σ H Q => te σ H fun v H1 => ∃ i, v = .int i ∧ i.natAbs.log2 < 1920 ∧ Q (.str (toString i)) H1
theorem pe_fmtI (he : PE X e te) : PE X (.FormattedValue e (-1) none pos) (tFmtI te) := by
  intro pins s σ H Q I h
  refine FormattedValue_plain (thn (he pins s σ H _ I h) fun v s1 ⟨x, H1, I1, r1, i, ex, hi, q⟩ => ?_)
  subst ex
  obtain ⟨tk, rfl⟩ := r1
  exact formatField_int_small hi ⟨.str _, H1, I1.tok _, ⟨_, rfl⟩, q⟩
theorem log_lt {i : Int} {n : Nat} (h : i.natAbs < 2 ^ n) (hn : n ≤ 1920) (h0 : 0 < n) : i.natAbs.log2 < 1920 := by
  by_cases z : i.natAbs = 0
  · rw [z]; decide
  · have := (Nat.log2_lt z).mpr h
    omega
end
end L2
namespace L2
open PySem PySem.Spec PyProof.Rows
theorem PS.nox {X : Cx} {st : Stmt} {t : TS} (h : PS X.nox st t) : PS X st t := fun pins s σ H D I hw =>
  wpAny_mono (h pins s σ H D (I.wish _) hw) (fun _ _ q => q.unwish) fun _ _ z => False.elim z
/-- no exception is wanted of a callee -/
theorem passN {X : Cx} : Passes (CX1 X.prog X.w) X E0 := fun _ _ _ _ _ _ _ h => by obtain ⟨_, _, _, _, _, _, _, q⟩ := h; exact q.elim
/-- a def of the text, with its promise -/
structure Def (P : Program) (w : World) (K : PySem.W.Frag) (mg : Str → Option Value) (base : Heap) (k : Nat) (x : Str) (ps : List Str) (sp : Sp) : Prop where
  ex : ∃ (f : Addr) (fd : FuncData), FnOk P w K mg base (CX1 P w) k f fd ps sp ∧ mg x = some (.ref f) ∧ PySem.W.keepIn K (.ref f) = true ∧ Binds K fd ps []
section
variable {P : Program} {w : World} {K : PySem.W.Frag} {mg : Str → Option Value} {base : Heap}
theorem Def.mono {j k : Nat} {x : Str} {ps : List Str} {sp : Sp} (D : Def P w K mg base j x ps sp) (h : j ≤ k) : Def P w K mg base k x ps sp := let ⟨f, fd, a, r⟩ := D.ex; ⟨f, fd, a.mono h, r⟩
/-- where a def stands behind the top -/
structure Site (K : PySem.W.Frag) (mg : Str → Option Value) (x : Str) (st : Stmt) : Prop where
  ex : ∃ (f : Addr) (fd : FuncData), Fun K x x st f fd ∧ mg x = some (.ref f)
theorem Site.mk' {h : Heap} {x : Str} {st : Stmt} {f : Addr} {oc : Value} {od an : Option Addr} {osl : Array (Option Value)} {kV doc pm cdv ct : Value} (KX : K.In h) (G : h.Ns mainGlobals mg)
    (a : PySem.W.nsIn K mainGlobals x = some (some (.ref f))) (l : K.lookup f = some ⟨oc, od, .func (PySem.W.fnOf x x (defArgs st) (defBody st) (defScope st) .none kV doc pm an cdv ct), osl⟩)
    (c : PySem.W.codeIn K cdv x = true) (k : PySem.W.keepIn K (.ref f) = true) : Site K mg x st := ⟨f, _, fun_mk l c k, PySem.W.mg_of KX G a⟩
abbrev cx1 (P : Program) (w : World) (K : PySem.W.Frag) (mg : Str → Option Value) (base : Heap) (N : List Str) (x : Str) (st : Stmt) (f : Addr) (cdv : Value) (A : Around) (outer : List Env) (s : Shared) (H : Hp) (E : XK) : Cx :=
  cxOf (CX1 P w) P w K mg base N x (defScope st) f cdv A outer s H E
theorem cx1_body {N : List Str} {x : Str} {st : Stmt} {f : Addr} {cdv : Value} {A : Around} {outer : List Env} {s : Shared} {H : Hp} {E : XK} : Body (cx1 P w K mg base N x st f cdv A outer s H E) E := ⟨rfl, rfl, rfl, rfl⟩
/-- THE RULE for a def -/
theorem Site.def {x : Str} {st : Stmt} {N ps : List Str} {k : Nat} {sp : Sp} (F : Site K mg x st) (S : FnScope N ps (defScope st))
    (hb : ∀ (kV doc pm : Value) (an : Option Addr) (cdv ct : Value) (us : List Value), us.length = ps.length → bindArgs (PySem.W.fnOf x x (defArgs st) (defBody st) (defScope st) .none kV doc pm an cdv ct) ⟨us, []⟩ = pure (ps.zip us))
    (len : ∀ vs H Q E, sp vs H Q E → vs.length = ps.length)
    (hbody : ∀ (f : Addr) (cdv : Value) (A : Around) (outer : List Env) (s : Shared) (H : Hp) (vs : List V) (Q : VK) (E : XK), Room k (A.deeper (envOfC x (defScope st) s.heap.objs.size f cdv)) → sp vs H Q E →
      ∃ t, PSs (cx1 P w K mg base N x st f cdv A outer s H E) (defBody st) t ∧ t { nx := fun _ H' => Q .non H', rt := Q } (start N vs) H) : Def P w K mg base (k + 1) x ps sp := by
  obtain ⟨f, fd, F1, hm⟩ := F.ex
  have b := F1.binds hb
  have kp := F1.kp
  obtain ⟨oc, od, kV, doc, pm, an, cdv, ct, osl, rfl, lk, hcd⟩ := F1.ex
  exact ⟨f, _, fn_of lk hcd S len fun A outer s H vs Q E hr hsp => hbody f cdv A outer s H vs Q E hr hsp, hm, kp, b⟩
end
section
variable {X : Cx} {k : Nat} {ps : List Str} {sp : Sp} {E : XK} {x : Str} {p pos : Pos} {e : Expr} {es : List Expr} {t : TA}
/-- f(e, ..) of a def of the text -/
theorem pe_def (D : Def X.prog X.w X.K X.mg X.base k x ps sp) (hr : Room k X.A) (hx : Passes (CX1 X.prog X.w) X E) (ha : PA X (e :: es) t) (hg : Gl X x := by rfl) (hdb : (x == ("__debug__" : Str)) = false := by decide)
    (he : starEach (e :: es) X.env = (false, eval e X.env) :: starEach es X.env := by rfl) (hpl : (backTo pos (starEach es X.env)).any (·.1) = false := by rfl) :
    PE X (.Call (.Name x p) (e :: es) [] pos) (tCall sp [] E t) := by
  obtain ⟨f, fd, F, hm, hk, hb⟩ := D.ex
  exact pe_call F hr hg hm hk hb .nil hx ha hdb he hpl
end
end L2
namespace L2
open PySem PySem.Spec PyProof.Rows
section
variable {X : Cx}
/-! ### xs + ys of lists that are read -/
def rCatS (K : PySem.W.Frag) : R2 := fun x y H Q => ∃ l b xs zs, x = .ref l ∧ y = .ref b ∧ SqL K H l xs ∧ SqL K H b zs ∧ xs.length + zs.length ≤ sizeLine ∧ ∀ p, H p = none → Q (.ref p) (upd H p (.lst (xs ++ zs)))
theorem op_catS : OpR X (binaryOp .Add) (rCatS X.K) := by
  intro pins s σ H x y v u Q I rx ry h
  obtain ⟨l, b, xs, zs, rfl, rfl, hH, hB, hz, q⟩ := h
  cases rx
  cases ry
  obtain ⟨its, r, pl, _⟩ := I.list hH
  obtain ⟨its2, r2, pl2, _⟩ := I.list hB
  obtain ⟨⟨cls, dd, data, sl⟩, ho, hc, n, hd⟩ := id pl.isList
  obtain ⟨⟨cls2, dd2, data2, sl2⟩, ho2, hc2, n2, hd2⟩ := id pl2.isList
  simp only at hc hd hc2 hd2
  subst hc hd hc2 hd2
  have e : its.toArray ++ its2.toArray = (its ++ its2).toArray := by simp
  have hsz : its.toArray.size + its2.toArray.size ≤ sizeLine := by
    rw [List.size_toArray, List.size_toArray, ← r.length, ← r2.length]; exact hz
  refine concat_meets ⟨_, ho, rfl⟩ ⟨_, ho2, rfl⟩ noFill_list_add seq_list_add PySem.F.slot_list_add PySem.F.entry_list_add (PySem.F.args_list_add_2 _ _) (list_addW l b its.toArray its2.toArray n n2 dd dd2 sl sl2 hsz) ⟨ho, ho2, ?_⟩
  rw [e]
  exact ⟨.ref _, _, I.lnew (t' := s.toks) (r.append r2) (by rw [List.length_append]; exact hz), rfl, q _ I.fresh⟩
/-! ### isinstance -/
/-- isinstance(x, C): C a built-in class or one's own -/
def clsV : V → Value → Prop
  | .ty n, c => c = .type n
  | .ref a, c => c = .ref a
  | _, _ => False
theorem clsV_rel {v : V} {c u : Value} (h : clsV v c) (r : RelV v u) : u = c := by
  cases v with
  | ty n => exact (show u = Value.type n from r).trans (show c = Value.type n from h).symm
  | ref a => exact (show u = Value.ref a from r).trans (show c = Value.ref a from h).symm
  | _ => exact h.elim
/-- what isinstance may be asked of: TyOf's, or an exception of one's own -/
inductive TyX (K : PySem.W.Frag) (H : Hp) : V → Value → Prop where
  | of {x : V} {t : Value} : TyOf K H x t → TyX K H x t
  | exc {a C : Addr} : H a = some (.ext (ExcAt a C)) → ExcCls K C → TyX K H (.ref a) (.ref C)
def rIsi (K : PySem.W.Frag) : List V → Hp → VK → Prop := fun xs H Q => ∃ x y t c b, xs = [x, y] ∧ clsV y c ∧ TyX K H x t ∧ PySem.W.kitOne K t c = some b ∧ Q (.bl b) H
theorem call_isi : CallR X (.builtin "isinstance") (rIsi X.K) := by
  intro pins s σ H vs us Q I rv h
  obtain ⟨x, y, t, c, b, rfl, hc, ty, e, q⟩ := h
  obtain ⟨u, v, rfl, ru, rw'⟩ := rv.two
  obtain rfl := clsV_rel hc rw'
  cases ty with
  | of ty => exact isinst_ok I ru ty e fun tk => ⟨.bl b, H, I.tok _, rfl, q⟩
  | exc ex ec =>
    cases ru
    exact PySem.W.kia_one (kitx_exc ec) I.kIn (I.hok _ _ ex).1 e (fun z => nomatch z) fun tk => ⟨.bl b, H, I.tok _, rfl, q⟩
end
end L2
namespace L2
open PySem PySem.Spec PyProof.Rows
/-- isinstance(..), the written part named: for a suite whose reading may not name its exception -/
theorem pe_isi {X : Cx} (K : PySem.W.Frag) {e1 e2 : Expr} {t : TA} {p pos : Pos} (hm : X.mg "isinstance" = none) (ha : PA X [e1, e2] t) (hK : X.K = K := by rfl) (hg : Gl X "isinstance" := by rfl)
    (he : starEach [e1, e2] X.env = (false, eval e1 X.env) :: starEach [e2] X.env := by rfl) (hpl : (backTo pos (starEach [e2] X.env)).any (·.1) = false := by rfl) :
    PE X (.Call (.Name "isinstance" p) [e1, e2] [] pos) (tCB (rIsi K) t) := by
  subst hK
  exact pe_callB call_isi hg hm boot_isinstance ha (by decide) (by decide) he hpl
theorem boot_ValueError : bootBuiltins "ValueError" = some (.type "ValueError") := by decide +kernel
end L2
namespace L2
open PySem PySem.Spec PyProof.Rows
/-- law's promise: a list of at most 63 ints is handed in, True comes out -/
def spLaw (K : PySem.W.Frag) : Sp := fun vs H Q _ => ∃ (a : Addr) (ns : List Int), vs = [.ref a] ∧ SqL K H a (ns.map V.int) ∧ ns.length ≤ 63 ∧ ∀ H', Q (.bl true) H'
section
variable {P : Program} {w : World} {K : PySem.W.Frag} {mg : Str → Option Value} {base : Heap}
theorem Fun.ok1 {x : Str} {st : Stmt} {f : Addr} {fd : FuncData} {N ps : List Str} {k : Nat} {sp : Sp} (F : Fun K x x st f fd) (S : FnScope N ps (defScope st)) (len : ∀ vs H Q E, sp vs H Q E → vs.length = ps.length)
    (hbody : ∀ (f : Addr) (cdv : Value) (A : Around) (outer : List Env) (s : Shared) (H : Hp) (vs : List V) (Q : VK) (E : XK), Room k (A.deeper (envOfC x (defScope st) s.heap.objs.size f cdv)) → sp vs H Q E →
      ∃ t, PSs (cx1 P w K mg base N x st f cdv A outer s H E) (defBody st) t ∧ t { nx := fun _ H' => Q .non H', rt := Q } (start N vs) H) : FnOk P w K mg base (CX1 P w) (k + 1) f fd ps sp := by
  obtain ⟨oc, od, kV, doc, pm, an, cdv, ct, osl, rfl, lk, hcd⟩ := F.ex
  exact fn_of lk hcd S len fun A outer s H vs Q E hr hsp => hbody f cdv A outer s H vs Q E hr hsp
theorem law_site {st : Stmt} {fa : Addr} {k : Nat} (S : Site K mg "law" st)
    (hb : ∀ (kV doc pm : Value) (an : Option Addr) (cdv ct : Value) (us : List Value), us.length = 1 → bindArgs (PySem.W.fnOf "law" "law" (defArgs st) (defBody st) (defScope st) .none kV doc pm an cdv ct) ⟨us, []⟩ = pure ((["script"] : List Str).zip us))
    (hmg : mg "law" = some (.ref fa)) (hF : ∀ (f : Addr) (fd : FuncData) (base : Heap), Fun K "law" "law" st f fd → FnOk P w K mg base (CX1 P w) k f fd ["script"] (spLaw K)) :
    ∃ fd : FuncData, (∀ (s : Shared) (u : Value), BindsTo s fd ⟨[u], []⟩ [("script", u)]) ∧ ∀ base : Heap, K.In base → base.Ns mainGlobals mg → FnOk P w K mg base (CX1 P w) k fa fd ["script"] (spLaw K) := by
  obtain ⟨f, fd, F, hm⟩ := S.ex
  rw [hmg] at hm
  cases hm
  refine ⟨fd, ?_, fun base _ _ => hF fa fd base F⟩
  obtain ⟨oc, od, kV, doc, pm, an, cdv, ct, osl, rfl, lk, hcd⟩ := F.ex
  exact fun s u => .of_eq (hb kV doc pm an cdv ct [u] rfl)
end
theorem walk_ofS {l : PySem.W.OpenLaw} {k : Nat} {q : Program} {loose : List Str} {XP : (Str → Option Value) → Heap → Prop} {YP : World → Heap → Prop} {d : DefRec} {K : Params → PySem.W.Frag}
    (hr : Room k callerA) (hn : l.most = some 63) (hdf : d.params.defaults = [])
    (hY : ∀ (w : World) (h : Heap), YP w h → (K w.params).In h)
    (F : ∀ (w : World) (mg : Str → Option Value) (fa : Addr) (h : Heap), (K w.params).In h → h.Ns mainGlobals mg → mg d.name = some (.ref fa) →
      ∃ fd : FuncData, (∀ (s : Shared) (u : Value), BindsTo s fd ⟨[u], []⟩ [("script", u)]) ∧
        ∀ base : Heap, (K w.params).In base → base.Ns mainGlobals mg → FnOk l.prog w (K w.params) mg base (CX1 l.prog w) k fa fd ["script"] (spLaw (K w.params))) :
    PySem.W.WalkO q loose XP YP l.row.toRowW d [] (fun f vs => PySem.call f vs) :=
  walk_of (n := 63) (k := k) (x := "script") (CX := fun w => CX1 l.prog w) (sp := fun w => spLaw (K w.params)) hn (by decide) hdf hr hY F (fun _ _ a ns hl _ hS => ⟨a, ns, rfl, hS, hl, fun _ => rfl⟩)
    fun _ _ _ _ _ h => by obtain ⟨_, _, _, _, _, _, _, q⟩ := h; exact q.elim
/-! ### globals -/
theorem pe_gint {X : Cx} {x : Str} {n : Int} {pos : Pos} (h : ∃ tk, X.mg x = some (.int n tk)) (hg : Gl X x := by rfl) (hd : (x == ("__debug__" : Str)) = false := by decide) : PE X (.Name x pos) (tC (.int n)) := by
  obtain ⟨tk, e⟩ := h
  exact pe_glob hg e ⟨tk, rfl⟩ hd
end L2
namespace L2
open PySem
theorem iteN {p A B : Prop} [Decidable p] (hp : ¬ p) (h : B) : if decide p = true then A else B := by rw [decide_eq_false hp]; exact iteF h
theorem iteY {p A B : Prop} [Decidable p] (hp : p) (h : A) : if decide p = true then A else B := by rw [decide_eq_true hp]; exact iteT h
theorem iteNN {p A B : Prop} [Decidable p] (hp : p) (h : B) : if (!decide p) = true then A else B := by rw [decide_eq_true hp]; exact iteF h
theorem iteNY {p A B : Prop} [Decidable p] (hp : ¬ p) (h : A) : if (!decide p) = true then A else B := by rw [decide_eq_false hp]; exact iteT h
theorem small_abs {n : Int} (h : -1000 ≤ n) (h2 : n ≤ 1000) : n.natAbs < 2 ^ 1000 := by
  have : n.natAbs ≤ 1000 := by omega
  exact Nat.lt_of_le_of_lt this (by decide)
theorem cell_of {ns : List Int} {i : Nat} {y : V} (h : ((0 :: ns).map V.int)[i]? = some y) : ∃ z, y = V.int z := by
  rw [List.getElem?_map] at h
  cases e : (0 :: ns)[i]? with
  | none => rw [e] at h; cases h
  | some z => rw [e] at h; exact ⟨z, (Option.some.inj h).symm⟩
/-- one more object -/
theorem Same.put {H H' : Hp} {p : Addr} {o : HO} (s : Same H H') (hp : H p = none) : Same H (upd H' p o) := fun b u e => by rw [upd_ne (ne_of_none e hp)]; exact s b u e
theorem Same.new {H H' : Hp} {p : Addr} {o : HO} (s : Same H H') (hp : H' p = none) : Same H (upd H' p o) := s.put (s.free hp)
end L2
namespace L2
open PySem
end L2
namespace L2
open PySem PySem.Spec PyProof.Rows
/-! ### a loop whose body may raise -/
theorem own1 {X : Cx} {E : XK} (Bd : Body X E) : PassesOwn (model X.prog X.w) X.A X.env X.xe := by
  rw [Bd.xe]
  exact PassesOwn.leaving
/-! ### lists compared -/
/-- alike, lists within lists to the depth n -/
inductive Alike (K : PySem.W.Frag) (H : Hp) : Nat → V → V → Prop where
  | int {n : Nat} (i : Int) : Alike K H n (.int i) (.int i)
  | bl {n : Nat} (i : Bool) : Alike K H n (.bl i) (.bl i)
  | str {n : Nat} (i : Str) : Alike K H n (.str i) (.str i)
  | non {n : Nat} : Alike K H n .non .non
  | lst {n : Nat} {a b : Addr} {xs ys : List V} (ha : SqL K H a xs) (hb : SqL K H b ys) (hl : xs.length = ys.length) (h : ∀ (j : Nat) (x y : V), xs[j]? = some x → ys[j]? = some y → Alike K H n x y) : Alike K H (n + 1) (.ref a) (.ref b)
theorem all_true (n : Nat) : (List.range n).all (fun _ => true) = true := by simp
section
variable {X : Cx} {pins : List (Addr × Obj)} {σ : St} {H : Hp} {s : Shared}
theorem rel_at {xs : List V} {its : List Value} (r : Vals xs its) (j : Nat) (h : j < its.toArray.size) : ∃ x, xs[j]? = some x ∧ RelV x its.toArray[j] := by
  have hj : j < its.length := by simpa using h
  have hl := r.length
  have hx : xs[j]? = some xs[j] := by simp [show j < xs.length by omega]
  obtain ⟨u, hu, ru⟩ := r.get hx
  refine ⟨_, hx, ?_⟩
  have e : its.toArray[j] = u := by
    have := hu
    rw [List.getElem?_eq_getElem hj] at this
    simpa using Option.some.inj this
  rw [e]
  exact ru
theorem alike_at (I : Inv X pins σ H s) {n : Nat} {x y : V} (h : Alike X.K H n x y) : ∀ {A : Around} {u v : Value}, A.units + n < cLine → RelV x u → RelV y v → SeqAt.EqAt A s u v true := by
  induction h with
  | int i => intro A u v _ ru rv; have := eqAt_V (A := A) (s := s) ru rv rfl rfl; simpa [eqV] using this
  | bl i => intro A u v _ ru rv; have := eqAt_V (A := A) (s := s) ru rv rfl rfl; simpa [eqV] using this
  | str i => intro A u v _ ru rv; have := eqAt_V (A := A) (s := s) ru rv rfl rfl; simpa [eqV] using this
  | non => intro A u v _ ru rv; have := eqAt_V (A := A) (s := s) ru rv rfl rfl; simpa [eqV] using this
  | @lst n a b xs ys ha hb hl h ih =>
    intro A u v hu ru rv
    cases ru
    cases rv
    by_cases hab : a = b
    · subst hab
      exact SeqAt.EqAt.same _
    · obtain ⟨its, r1, p1, _⟩ := I.list ha
      obtain ⟨its2, r2, p2, _⟩ := I.list hb
      have l1 := r1.length
      have l2 := r2.length
      refine SeqAt.EqAt.of_refs hab ?_
      have q := SeqAt.RcAt.lists (A := A) (s := s) (e := fun _ => true) p1.isList p2.isList (by simp; omega) (by omega) fun j h1 h2 => ?_
      · rw [all_true] at q
        exact q
      · obtain ⟨x, hx, rx⟩ := rel_at r1 j h1
        obtain ⟨y, hy, ry⟩ := rel_at r2 j h2
        exact ih j x y hx hy (A := A.in1) (by show A.units + 1 + n < cLine; omega) rx ry
end
section
variable {X : Cx}
/-- two lists: alike, or of unlike lengths -/
def rEqL (K : PySem.W.Frag) (neg : Bool) : R2 := fun x y H Q => ∃ a b xs ys, x = .ref a ∧ y = .ref b ∧ SqL K H a xs ∧ SqL K H b ys ∧
  ((xs.length = ys.length ∧ (∀ (j : Nat) (u v : V), xs[j]? = some u → ys[j]? = some v → Alike K H 8 u v) ∧ Q (.bl (!neg)) H) ∨ (xs.length ≠ ys.length ∧ Q (.bl neg) H))
theorem op_eqL (hu : X.A.units + 16 < cLine) : OpR X (compareOp .Eq) (rEqL X.K false) := by
  intro pins s σ H x y v u Q I rx ry h
  obtain ⟨a, b, xs, ys, rfl, rfl, ha, hb, h⟩ := h
  cases rx
  cases ry
  obtain ⟨its, r1, p1, _⟩ := I.list ha
  obtain ⟨its2, r2, p2, _⟩ := I.list hb
  have l1 := r1.length
  have l2 := r2.length
  rcases h with ⟨hl, he, q⟩ | ⟨hl, q⟩
  · refine SeqAt.eq_listAt (e := fun _ => true) p1.isList p2.isList (by simp; omega) (by omega) (fun j h1 h2 => ?_) ?_
    · obtain ⟨x, hx, rx⟩ := rel_at r1 j h1
      obtain ⟨y, hy, ry⟩ := rel_at r2 j h2
      exact alike_at I (he j x y hx hy) (A := X.A.in1) (by show X.A.units + 1 + 8 < cLine; omega) rx ry
    · rw [all_true]
      exact ⟨.bl true, H, I, rfl, q⟩
  · refine SeqAt.eq_list_lengthsAt p1.isList p2.isList (by simp; omega) (by omega) ?_
    exact ⟨.bl false, H, I, rfl, q⟩
theorem op_neL (hu : X.A.units + 16 < cLine) : OpR X (compareOp .NotEq) (rEqL X.K true) := by
  intro pins s σ H x y v u Q I rx ry h
  obtain ⟨a, b, xs, ys, rfl, rfl, ha, hb, h⟩ := h
  cases rx
  cases ry
  obtain ⟨its, r1, p1, _⟩ := I.list ha
  obtain ⟨its2, r2, p2, _⟩ := I.list hb
  have l1 := r1.length
  have l2 := r2.length
  rcases h with ⟨hl, he, q⟩ | ⟨hl, q⟩
  · refine PySem.EqBoolInt.of_rcne (SeqAt.RcNeAt.lists (e := fun _ => true) p1.isList p2.isList (by simp; omega) (by omega) fun j h1 h2 => ?_) ?_
    · obtain ⟨x, hx, rx⟩ := rel_at r1 j h1
      obtain ⟨y, hy, ry⟩ := rel_at r2 j h2
      exact alike_at I (he j x y hx hy) (A := X.A.in1) (by show X.A.units + 1 + 8 < cLine; omega) rx ry
    · rw [all_true]
      exact ⟨.bl false, H, I, rfl, q⟩
  · refine PySem.EqBoolInt.of_rcne (SeqAt.RcNeAt.lists_lengths p1.isList p2.isList (by simp; omega) (by omega)) ?_
    exact ⟨.bl true, H, I, rfl, q⟩
theorem hu16 {A : Around} {k : Nat} (hr : Room k A) : A.units + 16 < cLine := by have := hr.un; omega
/-! ### all([..]) of bools -/
theorem call_all : CallR X (.builtin "all") (fun xs H Q => ∃ (p : Addr) (bs : List Bool), X.calm = true ∧ xs = [.ref p] ∧ SqL X.K H p (bs.map V.bl) ∧ Q (.bl (bs.all id)) H) := by
  intro pins s σ H xs us Q I r h
  obtain ⟨p, bs, hc, rfl, hq, q⟩ := h
  obtain ⟨u, rfl, rx⟩ := vals1 r
  cases rx
  obtain ⟨its, r1, p1, _⟩ := I.list hq
  have l1 := r1.length
  rw [List.length_map] at l1
  refine call_all_walk (wpAny_pyIter_list p1.isList ?_)
  have hne : p ≠ s.heap.objs.size := by
    obtain ⟨o, n, ho, _⟩ := p1
    exact Nat.ne_of_lt (Heap.lt_size ho)
  refine ⟨_, _, _, its.toArray.size, _, _, fun i => bs.getD i true, rfl, Walks.list (A := X.A.in1) (I.ok.hd hc) s.heap.objs.size p hne its.toArray, ?_, ?_, fun h' tk kp => ?_⟩
  · exact ⟨⟨_, Heap.get?_push_size _ rfl, rfl, rfl⟩, p1.isList.at fun o e => Heap.get?_push_of_some _ e⟩
  · intro i v s' Q' E' hv hQ
    have hi : i < its.length := by
      have := hv
      simp only [List.getElem?_toArray] at this
      exact (List.getElem?_eq_some_iff.mp this).1
    have hb : (bs.map V.bl)[i]? = some (V.bl bs[i]) := by simp [show i < bs.length by omega]
    obtain ⟨u, hu, ru⟩ := r1.get hb
    have e : u = v := by
      simp only [List.getElem?_toArray] at hv
      rw [hu] at hv
      exact Option.some.inj hv
    subst e
    cases ru
    refine wpAny_truthy_bool ?_
    have e2 : bs.getD i true = bs[i] := by simp [List.getD, show i < bs.length by omega]
    rw [← e2]
    exact hQ
  · have e : (List.range its.toArray.size).all (fun i => bs.getD i true) = bs.all id := by
      have hz : its.toArray.size = bs.length := by simp; omega
      rw [hz, Bool.eq_iff_iff]
      simp only [List.all_eq_true, List.mem_range, id]
      constructor
      · intro h b hb
        obtain ⟨n, hn, rfl⟩ := List.getElem_of_mem hb
        have := h n hn
        simpa [List.getD, hn] using this
      · intro h i hi
        have := h bs[i] (List.getElem_mem hi)
        simpa [List.getD, hi] using this
    rw [e]
    exact ⟨.bl (bs.all id), H, I.kept (t' := tk) fun b o eb => kp b o (by
      intro z
      have hb : b = s.heap.objs.size := by simpa using z
      exact absurd (Heap.lt_size eb) (by rw [hb]; exact Nat.lt_irrefl _)) (Heap.get?_push_of_some _ eb), rfl, q⟩
end
end L2
namespace L2
open PySem PySem.Spec PyProof.Rows
/-! ### the scope of a comprehension, looked at -/
def scopeOk (Nc : List Str) (ix : List (Option Nat)) (scope sc : Scope) (N : List Str) : Bool :=
  decide (scope.kind = .function) && decide Nc.Nodup && decide (ix.length = Nc.length) &&
  (scope.names.all fun x => decide (x.2 = .local → scope.names.lookup x.1 = some .local)) &&
  (scope.names.all fun x => decide (x.2 = .free → sc.names.lookup x.1 = some .cell ∨ sc.names.lookup x.1 = some .free)) &&
  (scope.names.all fun x => decide (x.2 = .free → (x.1, NameKind.cell) ∉ scope.names)) &&
  ((ix.zip Nc).all fun p => match p.1 with | none => true | some j => decide (N[j]? = some p.2 ∧ scope.names.lookup p.2 = some .free))
theorem cscope {X : Cx} {Nc : List Str} {ix : List (Option Nat)} {scope : Scope} (sc : Scope) (N : List Str) (hsc : X.env.scope = sc) (hN : X.N = N) (h : scopeOk Nc ix scope sc N = true) : CompScope X Nc ix scope := by
  subst hsc hN
  simp only [scopeOk, Bool.and_eq_true, decide_eq_true_eq, List.all_eq_true] at h
  obtain ⟨⟨⟨⟨⟨⟨h1, h2⟩, h3⟩, h4⟩, h5⟩, h6⟩, h7⟩ := h
  refine ⟨h1, h2, h3, h4, h5, fun x hx => h6 _ hx rfl, fun i j x e1 e2 => ?_⟩
  have hm : (some j, x) ∈ ix.zip Nc := by
    refine List.mem_iff_getElem?.mpr ⟨i, ?_⟩
    rw [List.getElem?_zip_eq_some]
    exact ⟨e1, e2⟩
  have := h7 _ hm
  simpa using this
end L2
namespace L2
open PySem PySem.Spec PyProof.Rows
/-! ### the forms of a comprehension that one uses -/
section
variable {K : PySem.W.Frag} {g : TG} {tt : TT} {te : TE} {D : Addr} {σ : St} {H : Hp} {Q : VK}
theorem lc_list {a : Addr} {xs : List V} (Pv : Nat → St → Hp → Prop) (h0 : Pv 0 σ H) (hl : ∀ i σ H, i ≤ xs.length → Pv i σ H → SqL K H a xs)
    (hs : ∀ (i : Nat) (x : V) (σ : St) (H : Hp) (N : St → Hp → Prop), (∀ σ H, Pv (i + 1) σ H → N σ H) → xs[i]? = some x → Pv i σ H → g x σ H fun σ3 H3 => tt σ3 H3 fun b H4 =>
      if b = true then te σ3 H4 fun v H5 => ∃ ys, H5 D = some (.lst ys) ∧ ys.length < sizeLine ∧ N σ3 (upd H5 D (.lst (ys ++ [v]))) else N σ3 H4)
    (hd : ∀ σ H, Pv xs.length σ H → Q (.ref D) H) :
    lcRun (Itl K a) g tt te D σ H Q := by
  refine ⟨fun i m σ H => m = xs.length - i ∧ i ≤ xs.length ∧ Pv i σ H, ⟨xs.length, by simp, Nat.zero_le _, h0⟩, ?_⟩
  rintro i m σ' H' ⟨rfl, hi, p⟩
  have q := hl i σ' H' hi p
  by_cases hlt : i < xs.length
  · refine .inr ⟨⟨xs, xs[i], q, by simp [hlt]⟩, fun x H2 y => ?_⟩
    obtain ⟨e, y⟩ := y
    subst e
    exact hs i x σ' _ (fun σ3 H3 => ∃ m', m' < xs.length - i ∧ m' = xs.length - (i + 1) ∧ i + 1 ≤ xs.length ∧ Pv (i + 1) σ3 H3) (fun σ3 H3 z => ⟨xs.length - (i + 1), by omega, rfl, hlt, z⟩) (y xs q) p
  · have e : i = xs.length := by omega
    subst e
    exact .inl ⟨⟨xs, q, Nat.le_refl _⟩, hd σ' H' p⟩
theorem lc_range {lo : Int} {n : Nat} (Pv : Nat → St → Hp → Prop) (h0 : Pv 0 σ H)
    (hs : ∀ (i : Nat) (σ : St) (H : Hp) (N : St → Hp → Prop), (∀ σ H, Pv (i + 1) σ H → N σ H) → i < n → Pv i σ H → g (.int (lo + i)) σ H fun σ3 H3 => tt σ3 H3 fun b H4 =>
      if b = true then te σ3 H4 fun v H5 => ∃ ys, H5 D = some (.lst ys) ∧ ys.length < sizeLine ∧ N σ3 (upd H5 D (.lst (ys ++ [v]))) else N σ3 H4)
    (hd : ∀ σ H, Pv n σ H → Q (.ref D) H) :
    lcRun (Itr lo n) g tt te D σ H Q := by
  refine ⟨fun i m σ H => m = n - i ∧ i ≤ n ∧ Pv i σ H, ⟨n, by simp, Nat.zero_le _, h0⟩, ?_⟩
  rintro i m σ' H' ⟨rfl, hi, p⟩
  by_cases hlt : i < n
  · refine .inr ⟨hlt, fun x H2 y => ?_⟩
    obtain ⟨e, y⟩ := y
    subst e y
    exact hs i σ' _ (fun σ3 H3 => ∃ m', m' < n - i ∧ m' = n - (i + 1) ∧ i + 1 ≤ n ∧ Pv (i + 1) σ3 H3) (fun σ3 H3 z => ⟨n - (i + 1), by omega, rfl, hlt, z⟩) hlt p
  · have e : i = n := by omega
    subst e
    exact .inl ⟨Nat.le_refl _, hd σ' H' p⟩
end
theorem item_of {ns : List Int} {i : Nat} {y : V} (h : (ns.map V.int)[i]? = some y) : ∃ z, ns[i]? = some z ∧ y = V.int z := by
  rw [List.getElem?_map] at h
  cases e : ns[i]? with
  | none => rw [e] at h; cases h
  | some z => rw [e] at h; exact ⟨z, rfl, (Option.some.inj h).symm⟩
theorem take_succ {α : Type} {l : List α} {i : Nat} {x : α} (h : l[i]? = some x) : l.take (i + 1) = l.take i ++ [x] := by
  rw [List.take_succ, h]; rfl
end L2
namespace L2
open PySem
end L2
namespace L2
open PySem
/-- the turn of a comprehension without a test, its target a name -/
theorem turn_do {i : Nat} {x : V} {σ : St} {H : Hp} {A B : St → Hp → Prop} (h : A (σ.set i (some x)) H) : gName i x σ H fun σ3 H3 => tYes σ3 H3 fun b H4 => if b = true then A σ3 H4 else B σ3 H4 := by
  show if true = true then A (σ.set i (some x)) H else B (σ.set i (some x)) H
  exact iteT h
end L2
namespace L2
open PySem PySem.Spec PyProof.Rows
/-! ### zip(xs, ys) walked with two names -/
section
variable {X : Cx} {pins : List (Addr × Obj)} {σ : St} {H : Hp} {s : Shared} {h' : Heap}
theorem Inv.turnedNew {ch : List Addr} {T : Addr} {o : HO} {t' : Nat} (I : Inv X pins σ H s) (k : ∀ b o, b ∉ ch → s.heap.get? b = some o → h'.get? b = some o) (hf : ∀ b ∈ ch, FpOk X pins H b) (hT : s.heap.objs.size ≤ T)
    (new : ObjOk X.prog X.w (upd H T o) h' T o) : Inv X pins σ (upd H T o) { s with heap := h', toks := t' } := by
  have nin : ∀ b u, H b = some u → b ∉ ch := fun b u e z => by rw [(hf b z).1] at e; cases e
  have hn := I.hok.fresh hT
  have old : ∀ b u, s.heap.get? b = some u → b ≠ T := fun b u e => Nat.ne_of_lt (Nat.lt_of_lt_of_le (Heap.lt_size e) hT)
  refine I.call' (s' := { s with heap := h', toks := t' }) (ch := ch) rfl ⟨fun b o e _ _ hx => k b o hx e, fun b o e _ _ hx => ⟨o.slots, k b o hx e⟩, fun b u e n _ => by rw [upd_ne (old b u e)]; exact n, fun b o e hx => ⟨o, k b o hx e⟩,
    fun b xs e => by rw [upd_ne (ne_of_none e hn)]; exact e, fun b o u e => by rw [upd_ne (ne_of_none e hn)]; exact e, fun b ps e => ⟨#[], by rw [upd_ne (ne_of_none e hn), e]; simp⟩⟩ ?_ I.bare fun b hb => ?_
  · intro b u e
    by_cases hb : b = T
    · subst hb
      rw [upd_same] at e
      cases e
      exact new
    · rw [upd_ne hb] at e
      refine (I.hok b u e).stay (fun c v hc q => k c v ?_ q) (fun c q => by rw [upd_ne (ne_of_none q hn)]; exact q) fun c xs q => by rw [upd_ne (ne_of_none q hn)]; exact q
      rcases hc with z | z
      · rw [z]; exact nin b u e
      · exact nin c _ z
  · obtain ⟨_, q1, _, q3, q4, q5⟩ := hf b hb
    exact ⟨q3, q1, q4, q5⟩
end
section
variable {X : Cx}
/-- a, b = .. -/
theorem pg_two {i j : Nat} {x y : Str} {px py pos : Pos} {k : Nat} (hc : X.calm = true) (hN : X.N.Nodup) (hi : X.N[i]? = some x) (hj : X.N[j]? = some y) (lx : Loc X.env.scope x) (ly : Loc X.env.scope y)
    (fx : X.fn x = true ∨ X.env.scope.names.lookup x = some .local := by first | exact .inl rfl | exact .inr rfl) (fy : X.fn y = true ∨ X.env.scope.names.lookup y = some .local := by first | exact .inl rfl | exact .inr rfl)
    (hs : (assignEach [.Name x px, .Name y py] X.env).map (·.2) = [assign (.Name x px) X.env, assign (.Name y py) X.env] := by rfl) (hs2 : (assignEach [.Name y py] X.env).map (·.2) = [assign (.Name y py) X.env] := by rfl) (hs0 : (assignEach [] X.env).map (·.2) = [] := by rfl)
    (hn : (assignEach [.Name x px, .Name y py] X.env).length = 2 := by rfl) (hst : (assignEach [.Name x px, .Name y py] X.env).findIdx? (·.1) = none := by rfl) :
    PG X (.Tuple [.Name x px, .Name y py] k pos) (gTup X.K 2 (gCons (gName i) (gCons (gName j) gNil))) :=
  pg_tup hc (pgs_cons (pg_name hN hi lx fx) (pgs_cons (pg_name hN hj ly fy) pgs_nil (by rw [hs2, hs0])) (by rw [hs, hs2])) hn hst
end
end L2
namespace L2
open PySem PySem.Spec PyProof.Rows
section
variable {K : PySem.W.Frag} {g : TG} {tt : TT} {te : TE} {D : Addr} {σ : St} {H : Hp} {Q : VK}
end
/-! ### sum of a list of ints -/
section
variable {X : Cx}
theorem preSum_eq : ∀ (ns : List Int), preSum (fun i => ns.getD i 0) ns.length = ns.sum := by
  have step : ∀ (ns : List Int) (k : Nat), k ≤ ns.length → preSum (fun i => ns.getD i 0) k = (ns.take k).sum := by
    intro ns k
    induction k with
    | zero => intro _; rfl
    | succ k ih =>
      intro hk
      have hk' : k < ns.length := by omega
      have e : ns.take (k + 1) = ns.take k ++ [ns[k]] := take_succ (by simp [hk'])
      rw [e, List.sum_append]
      show preSum (fun i => ns.getD i 0) k + ns.getD k 0 = _
      rw [ih (by omega)]
      simp [List.getD, hk']
  intro ns
  have := step ns ns.length (Nat.le_refl _)
  rw [List.take_length] at this
  exact this
theorem call_sum : CallR X (.builtin "sum") (fun xs H Q => ∃ (p : Addr) (ns : List Int), X.calm = true ∧ xs = [.ref p] ∧ SqL X.K H p (ns.map V.int) ∧ Q (.int ns.sum) H) := by
  intro pins s σ H xs us Q I r h
  obtain ⟨p, ns, hc, rfl, hq, q⟩ := h
  obtain ⟨u, rfl, rx⟩ := vals1 r
  cases rx
  obtain ⟨its, r1, p1, _⟩ := I.list hq
  have l1 := r1.length
  rw [List.length_map] at l1
  refine call_sum_walkG (wpAny_pyIter_list p1.isList ?_)
  have hlt : p < s.heap.objs.size := by
    obtain ⟨o, n, ho, _⟩ := p1
    exact Heap.lt_size ho
  refine ⟨_, _, _, its.toArray.size, _, _, fun i => ns.getD i 0, rfl, Walks.list (A := X.A.in1) (I.ok.hd hc) s.heap.objs.size p (Nat.ne_of_lt hlt) its.toArray, ?_, ?_, ?_, fun h' tk t' kp => ?_⟩
  · exact ⟨⟨_, Heap.get?_push_size _ rfl, rfl, rfl⟩, p1.isList.at fun o e => Heap.get?_push_of_some _ e⟩
  · intro b hb
    have hb' : b = s.heap.objs.size ∨ b = p := by simpa using hb
    show b < (s.heap.push _).objs.size
    rw [Heap.size_push]
    rcases hb' with rfl | rfl
    · exact Nat.lt_succ_self _
    · exact Nat.lt_succ_of_lt hlt
  · intro i v hv
    have hi : i < its.length := by
      have := hv
      simp only [List.getElem?_toArray] at this
      exact (List.getElem?_eq_some_iff.mp this).1
    have hb : (ns.map V.int)[i]? = some (V.int ns[i]) := by simp [show i < ns.length by omega]
    obtain ⟨u, hu, ru⟩ := r1.get hb
    have e : u = v := by
      simp only [List.getElem?_toArray] at hv
      rw [hu] at hv
      exact Option.some.inj hv
    subst e
    obtain ⟨t, rfl⟩ := ru
    exact ⟨t, by simp [List.getD, show i < ns.length by omega]⟩
  · have e : preSum (fun i => ns.getD i 0) its.toArray.size = ns.sum := by
      have hz : its.toArray.size = ns.length := by simp; omega
      rw [hz]
      exact preSum_eq ns
    rw [e]
    exact ⟨.int ns.sum, H, I.kept (t' := tk) fun b o eb => kp b o (by
      intro z
      have hb : b = s.heap.objs.size := by simpa using z
      exact absurd (Heap.lt_size eb) (by rw [hb]; exact Nat.lt_irrefl _)) (Heap.get?_push_of_some _ eb), ⟨t', rfl⟩, q⟩
/-! ### xs.remove(x): the item at k is x itself, those ahead are lists of ints unlike it -/
end
end L2
namespace L2
open PySem PySem.Spec PyProof.Rows
/-! ### lists by places -/
def tabV (n : Nat) (f : Nat → V) : List V := (List.range n).map f
abbrev tabI (n : Nat) (f : Nat → Int) : List V := tabV n fun j => V.int (f j)
abbrev tabR (n : Nat) (f : Nat → Addr) : List V := tabV n fun j => V.ref (f j)
theorem tab_len (n : Nat) (f : Nat → V) : (tabV n f).length = n := by simp [tabV]
theorem tab_get {n i : Nat} {f : Nat → V} (h : i < n) : (tabV n f)[i]? = some (f i) := by simp [tabV, h]
theorem tab_of {n i : Nat} {f : Nat → V} {x : V} (h : (tabV n f)[i]? = some x) : i < n ∧ x = f i := by
  have hi : i < n := by
    have := (List.getElem?_eq_some_iff.mp h).1
    rwa [tab_len] at this
  rw [tab_get hi] at h
  exact ⟨hi, (Option.some.inj h).symm⟩
theorem tab_succ (n : Nat) (f : Nat → V) : tabV (n + 1) f = tabV n f ++ [f n] := by simp [tabV, List.range_succ]
theorem tab_congr {n : Nat} {f g : Nat → V} (h : ∀ i, i < n → f i = g i) : tabV n f = tabV n g := by
  unfold tabV
  apply List.map_congr_left
  intro i hi
  exact h i (List.mem_range.mp hi)
/-- a grid of ints: m rows of n -/
def Grid (K : PySem.W.Frag) (H : Hp) (l : Addr) (m n : Nat) (a : Nat → Nat → Int) : Prop := ∃ as : Nat → Addr, SqL K H l (tabR m as) ∧ ∀ i, i < m → SqL K H (as i) (tabI n (a i))
theorem Same.grid {K : PySem.W.Frag} {H H' : Hp} {l : Addr} {m n : Nat} {a : Nat → Nat → Int} (s : Same H H') (g : Grid K H l m n a) : Grid K H' l m n a := let ⟨as, h1, h2⟩ := g; ⟨as, s.seq h1, fun i hi => s.seq (h2 i hi)⟩
theorem Grid.congr {K : PySem.W.Frag} {H : Hp} {l : Addr} {m n : Nat} {a b : Nat → Nat → Int} (g : Grid K H l m n a) (h : ∀ i j, i < m → j < n → a i j = b i j) : Grid K H l m n b := by
  obtain ⟨as, h1, h2⟩ := g
  refine ⟨as, h1, fun i hi => ?_⟩
  have e : tabI n (a i) = tabI n (b i) := tab_congr fun j hj => by rw [h i j hi hj]
  rw [← e]
  exact h2 i hi
end L2
namespace L2
open PySem PySem.Spec PyProof.Rows
section
variable {K : PySem.W.Frag} {g : TG} {tt : TT} {te : TE} {D : Addr} {σ : St} {H : Hp} {Q : VK}
end
end L2
namespace L2
open PySem
theorem tab_snoc (i : Nat) (F : Nat → V) (x : V) : tabV i F ++ [x] = tabV (i + 1) fun k => if k = i then x else F k := by
  refine ((tab_succ i _).trans ?_).symm
  rw [show tabV i (fun k => if k = i then x else F k) = tabV i F from tab_congr fun k hk => by rw [if_neg (by omega)], if_pos rfl]
theorem tabR_snoc (i : Nat) (ps : Nat → Addr) (p : Addr) : tabR i ps ++ [V.ref p] = tabR (i + 1) fun k => if k = i then p else ps k := by
  rw [tab_snoc]
  refine tab_congr fun k hk => ?_
  by_cases e : k = i <;> simp [e]
end L2
namespace L2
open PySem
theorem cut_ints (ns : List Int) (lo hi : Option Int) : ∃ as : List Int, cutV (ns.map V.int) lo hi = as.map V.int ∧ (∀ a ∈ as, a ∈ ns) ∧ as.length ≤ ns.length := by
  refine ⟨(ns.drop (HT.sIx (ns.map V.int).length 0 lo)).take (HT.sIx (ns.map V.int).length (ns.map V.int).length hi - HT.sIx (ns.map V.int).length 0 lo), ?_, fun a ha => List.mem_of_mem_drop (List.mem_of_mem_take ha), ?_⟩
  · unfold cutV
    rw [List.map_take, List.map_drop]
  · rw [List.length_take, List.length_drop]
    omega
/-- a shadow of the heap, one object more -/
theorem Same.both {B H : Hp} {p : Addr} {o : HO} (s : Same B H) (h : H p = some o) : Same (upd B p o) H := fun b u e => by
  by_cases z : b = p
  · subst z
    rw [upd_same] at e
    cases e
    exact h
  · rw [upd_ne z] at e
    exact s b u e
theorem Same.grow {B : Hp} {p : Addr} {o : HO} (h : B p = none) : Same B (upd B p o) := (Same.refl B).new h
end L2
namespace L2
end L2
namespace L2
open PySem PySem.Spec PyProof.Rows
end L2
namespace L2
open PySem PySem.Spec PyProof.Rows
/-! ### the rules with the written part named, for blocks within which the context is bound -/
section
variable {X : Cx} (K : PySem.W.Frag)
theorem ix_listK (hK : X.K = K := by rfl) : IxR X (rIxL K) := by subst hK; exact ix_list
theorem sl_listK (hK : X.K = K := by rfl) : SlR X (rSlL K) := by subst hK; exact sl_list
theorem call_lenK (hK : X.K = K := by rfl) : CallR X (.builtin "len") (fun xs H Q => ∃ p ys, xs = [.ref p] ∧ (SqL K H p ys ∨ SqT K H p ys) ∧ Q (.int ys.length) H) := by subst hK; exact call_len_seq
theorem call_listK (hK : X.K = K := by rfl) : CallR X (.type "list") (fun xs H Q => ∃ p ys, xs = [.ref p] ∧ (SqL K H p ys ∨ SqT K H p ys) ∧ ∀ l, H l = none → Q (.ref l) (upd H l (.lst ys))) := by subst hK; exact call_list_of
theorem call_sumK (hc : X.calm = true) (hK : X.K = K := by rfl) : CallR X (.builtin "sum") (fun xs H Q => ∃ (p : Addr) (ns : List Int), xs = [.ref p] ∧ SqL K H p (ns.map V.int) ∧ Q (.int ns.sum) H) := by
  subst hK
  intro pins s σ H xs us Q I r ⟨p, ns, h1, h2, h3⟩
  exact call_sum pins s σ H xs us Q I r ⟨p, ns, hc, h1, h2, h3⟩
theorem call_allK (hc : X.calm = true) (hK : X.K = K := by rfl) : CallR X (.builtin "all") (fun xs H Q => ∃ (p : Addr) (bs : List Bool), xs = [.ref p] ∧ SqL K H p (bs.map V.bl) ∧ Q (.bl (bs.all id)) H) := by
  subst hK
  intro pins s σ H xs us Q I r ⟨p, ns, h1, h2, h3⟩
  exact call_all pins s σ H xs us Q I r ⟨p, ns, hc, h1, h2, h3⟩
theorem op_eqLK (hu : X.A.units + 16 < cLine) (hK : X.K = K := by rfl) : OpR X (compareOp .Eq) (rEqL K false) := by subst hK; exact op_eqL hu
theorem op_neLK (hu : X.A.units + 16 < cLine) (hK : X.K = K := by rfl) : OpR X (compareOp .NotEq) (rEqL K true) := by subst hK; exact op_neL hu
theorem op_catK (hK : X.K = K := by rfl) : OpR X (binaryOp .Add) (rCatS K) := by subst hK; exact op_catS
theorem pi_listK {tg l : Expr} {tl : TE} (hl : PE X l tl) (hK : X.K = K := by rfl) : PI X tg l (iList K tl) := by subst hK; exact pi_list hl
theorem pg_twoK {i j : Nat} {x y : Str} {px py pos : Pos} {k : Nat} (hc : X.calm = true) (hN : X.N.Nodup) (hi : X.N[i]? = some x) (hj : X.N[j]? = some y) (lx : Loc X.env.scope x) (ly : Loc X.env.scope y) (hK : X.K = K := by rfl)
    (fx : X.fn x = true ∨ X.env.scope.names.lookup x = some .local := by first | exact .inl rfl | exact .inr rfl) (fy : X.fn y = true ∨ X.env.scope.names.lookup y = some .local := by first | exact .inl rfl | exact .inr rfl)
    (hs : (assignEach [.Name x px, .Name y py] X.env).map (·.2) = [assign (.Name x px) X.env, assign (.Name y py) X.env] := by rfl) (hs2 : (assignEach [.Name y py] X.env).map (·.2) = [assign (.Name y py) X.env] := by rfl) (hs0 : (assignEach [] X.env).map (·.2) = [] := by rfl)
    (hn : (assignEach [.Name x px, .Name y py] X.env).length = 2 := by rfl) (hst : (assignEach [.Name x px, .Name y py] X.env).findIdx? (·.1) = none := by rfl) :
    PG X (.Tuple [.Name x px, .Name y py] k pos) (gTup K 2 (gCons (gName i) (gCons (gName j) gNil))) := by
  subst hK
  exact pg_two hc hN hi hj lx ly fx fy hs hs2 hs0 hn hst
theorem pe_bmK {o e : Expr} {es : List Expr} {to : TE} {t : TA} {name : Str} {apos cpos : Pos} {T id : String} {r : V → List V → Hp → VK → Prop} (pa : PlainAttrs T) (slot : Slot T name id) (hty : typeOf (.builtin id) = pure (.type "method_descriptor")) (hm : MtR X id r) (ho : PE X o to) (ha : PA X (e :: es) t) (hK : X.K = K := by rfl)
    (hbase : attributeBase o name X.env (eval o X.env) = eval o X.env := by rfl)
    (hfew : ((backTo cpos (starEach (e :: es) X.env)).all (fun x => !x.1) && (backToKw cpos (keywordEach [] X.env)).all (fun x => x.1.isSome)
      && decide ((e :: es).length + ([] : List Keyword).length + (if ([] : List Keyword).isEmpty then 0 else 1) < 30)) = true := by rfl)
    (hline : (apos.endLine == cpos.line) = true := by rfl) (hs : starEach (e :: es) X.env = (false, eval e X.env) :: starEach es X.env := by rfl) (hplain : (backTo cpos (starEach es X.env)).any (·.1) = false := by rfl) :
    PE X (.Call (.Attribute o name apos) (e :: es) [] cpos) (tBM K T r to t) := by subst hK; exact pe_bm pa slot hty hm ho ha hbase hfew hline hs hplain
end
end L2
namespace L2
open PySem PySem.Spec PyProof.Rows
/-! ### two lists of ints compared, whatever they hold -/
section
variable {X : Cx}
end
theorem rep_tab (k : Nat) (x : V) : (List.replicate k [x]).flatten = tabV k fun _ => x := by
  induction k with
  | zero => rfl
  | succ k ih => rw [List.replicate_succ', List.flatten_append, ih, tab_succ]; rfl
end L2
namespace L2
open PySem PySem.Spec PyProof.Rows
/-! ### zip of a list and a tuple, the list no longer than the tuple -/
section
variable {prog : Program} {w : World} {A : Around} {E : Value → Shared → Prop} {s : Shared}
end
abbrev zA (h : Heap) (l : Addr) : Heap := h.push { cls := .type "list_iterator", data := .fields #[.ref l, .int 0 0] }
abbrev zB (h : Heap) (l t : Addr) : Heap := (zA h l).push { cls := .type "tuple_iterator", data := .fields #[.ref t, .int 0 0] }
section
variable {prog : Program} {w : World} {A : Around} {E : Value → Shared → Prop} {s : Shared}
end
section
variable {X : Cx}
end
section
variable {K : PySem.W.Frag} {g : TG} {tt : TT} {te : TE} {D : Addr} {σ : St} {H : Hp} {Q : VK}
end
end L2
namespace L2
open PySem
/-- a tuple that stands in the module -/
structure TupK (K : PySem.W.Frag) (a : Addr) (xs : List V) : Prop where
  ex : ∃ (o : Obj) (its : Array Value) (n : Nat), K.lookup a = some o ∧ o.cls = .type "tuple" ∧ o.data = .seq its n ∧ its.size ≤ sizeLine ∧ Vals xs its.toList
theorem TupK.sq {K : PySem.W.Frag} {a : Addr} {xs : List V} (h : TupK K a xs) (H : Hp) : SqT K H a xs := .inr h.ex
end L2
namespace L2
open PySem PySem.Spec PyProof.Rows
/-! ### enumerate(xs) walked with two names -/
section
variable {X : Cx}
end
section
variable {K : PySem.W.Frag} {g : TG} {tt : TT} {te : TE} {D : Addr} {σ : St} {H : Hp} {Q : VK}
/-- a, b taken of a pair -/
theorem take_two {i j : Nat} {x y : V} {p : Addr} {A : St → Hp → Prop} (hp : SqT K H p [x, y]) (h : A ((σ.set i (some x)).set j (some y)) H) : gTup K 2 (gCons (gName i) (gCons (gName j) gNil)) (.ref p) σ H A :=
  ⟨p, [x, y], rfl, hp, rfl, x, _, rfl, y, _, rfl, rfl, h⟩
end
end L2
namespace L2
open PySem PySem.Spec PyProof.Rows
section
variable {K : PySem.W.Frag} {g : TG} {tt : TT} {te : TE} {D : Addr} {σ : St} {H : Hp} {Q : VK}
end
/-! a def that is never called with what is at hand -/
section
variable {P : Program} {w : World} {K : PySem.W.Frag} {mg : Str → Option Value} {base : Heap}
def spNo : Sp := fun _ _ _ _ => False
theorem Site.no {x : Str} {st : Stmt} {N ps : List Str} (F : Site K mg x st) (S : FnScope N ps (defScope st))
    (hb : ∀ (kV doc pm : Value) (an : Option Addr) (cdv ct : Value) (us : List Value), us.length = ps.length → bindArgs (PySem.W.fnOf x x (defArgs st) (defBody st) (defScope st) .none kV doc pm an cdv ct) ⟨us, []⟩ = pure (ps.zip us)) : Def P w K mg base 1 x ps spNo :=
  F.def S hb (fun _ _ _ _ h => h.elim) fun _ _ _ _ _ _ _ _ _ _ h => h.elim
end
end L2
namespace L2
open PySem PySem.Spec PyProof.Rows
theorem Same.tup {K : PySem.W.Frag} {H H' : Hp} {a : Addr} {xs : List V} (e : Same H H') (h : SqT K H a xs) : SqT K H' a xs := by
  rcases h with (h | ⟨o, h⟩) | h
  · exact .inl (.inl (e _ _ h))
  · exact .inl (.inr ⟨o, e _ _ h⟩)
  · exact .inr h
/-! ### what is never reached -/
/-! ### t[a:b], t + u: whichever object it is -/
section
variable {prog : Program} {w : World} {A : Around} {E : Value → Shared → Prop} {s : Shared}
theorem item_whole {t sl : Addr} {items : Array Value} {vl vu : Value} {lo hi : Option Int} {Q : Value → Shared → Prop} (ht : IsTup s.heap t items) (hs : s.heap.IsSliceOf sl vl vu .none) (pl : IsPart vl lo) (pu : IsPart vu hi)
    (h1 : HT.sIx items.size 0 lo = 0) (h2 : HT.sIx items.size items.size hi = items.size) (h : Q (.ref t) s) : wpAny (model prog w) A (getItem (.ref t) (.ref sl)) Q E s := by
  obtain ⟨os, hos, hcs, hds⟩ := id hs
  have hTs : s.TypeIs (.ref sl) "slice" := ⟨os, hos, hcs⟩
  unfold getItem
  try with_reducible refine wpAny_holding ?_
  first | refine wpAny_bind (wpAny_pure ?_) | skip
  refine wpAny_bind (wpAny_sequenceKey ht.typeIs (by decide) (wpAny_bind (wpAny_callSpecial?_slot (name := Str.ofString "__getitem__") ht.typeIs PyProof.Rows.slot_tuple_getitem (wpAny_call_entry PyProof.Rows.slot_tuple_getitem ht.typeIs PyProof.Rows.entry_tuple_getitem ?_ (PyProof.Rows.args_tuple_getitem _ _)))))
  refine (show wpAny _ _ (Builtin.Tuple.tupleItemsOf (.ref t) >>= _) _ _ s from wpAny_bind (PyProof.Rows.tupleItemsOf_ ht (wpAny_bind (wpAny_typeOf hTs ?_))))
  rw [if_pos (by decide)]
  refine wpAny_bind (HT.sliceApplied_gen hs pl pu ?_)
  rw [h1, h2, Nat.sub_zero]
  refine (show wpAny _ _ (if ((((0 : Nat) : Int) == 0) && (1 : Int) == 1 && items.size == items.size) = true then _ else _) _ _ s from ?_)
  rw [if_pos (by simp)]
  refine wpAny_bind ?_
  unfold Builtin.Tuple.tupleIsExact
  refine wpAny_bind (wpAny_typeOf ht.typeIs (wpAny_pure ?_))
  rw [if_pos (by decide)]
  first
    | exact wpAny_bind (wpAny_rule (wpAny_pure ⟨_, rfl, wpAny_pure h⟩))
    | exact wpAny_bind (wpAny_rule (wpAny_bind (wpAny_pure (wpAny_pure ⟨_, rfl, wpAny_pure h⟩))))
    | exact wpAny_bind (wpAny_bind (wpAny_rule (wpAny_pure (wpAny_pure ⟨_, rfl, wpAny_pure h⟩))))
end
section
variable {X : Cx}
def rSlA (K : PySem.W.Frag) : V → Option Int → Option Int → Hp → VK → Prop := fun x lo hi H Q => ∃ a xs, x = .ref a ∧ SqT K H a xs ∧ ∀ r H', Same H H' → SqT K H' r (cutV xs lo hi) → Q (.ref r) H'
theorem sl_tupA (K : PySem.W.Frag) (hK : X.K = K := by rfl) : SlR X (rSlA K) := by
  subst hK
  intro pins s σ H x v vl vu lo hi sl Q I rx hs pl pu h
  obtain ⟨a, xs, rfl, hx, q⟩ := h
  by_cases hw : HT.sIx xs.length 0 lo = 0 ∧ HT.sIx xs.length xs.length hi = xs.length
  · cases rx
    obtain ⟨its, r, ht, hz⟩ := I.tuple hx
    have hlen : its.toArray.size = xs.length := by rw [List.size_toArray]; exact r.length.symm
    refine ⟨"tuple", _, PyProof.Rows.slot_tuple_getitem.lookup, ht.typeIs, ?_⟩
    refine item_whole ht hs pl pu (by rw [hlen]; exact hw.1) (by rw [hlen]; exact hw.2) ?_
    refine ⟨.ref a, H, I, rfl, q a H (Same.refl _) ?_⟩
    have e : cutV xs lo hi = xs := by
      unfold cutV
      rw [hw.1, hw.2, List.drop_zero, Nat.sub_zero, List.take_length]
    rw [e]
    exact hx
  · exact sl_tup pins s σ H (.ref a) v vl vu lo hi sl Q I rx hs pl pu ⟨a, xs, rfl, hx, hw, fun p hp => q p _ ((Same.refl _).new hp) (SqT.of upd_same)⟩
def rCatA (K : PySem.W.Frag) : R2 := fun x y H Q => ∃ a b xs ys, x = .ref a ∧ y = .ref b ∧ SqT K H a xs ∧ SqT K H b ys ∧ xs.length + ys.length ≤ sizeLine ∧ ∀ r H', Same H H' → SqT K H' r (xs ++ ys) → Q (.ref r) H'
theorem op_catA (K : PySem.W.Frag) (hK : X.K = K := by rfl) : OpR X (binaryOp .Add) (rCatA K) := by
  subst hK
  intro pins s σ H x y v u Q I rx ry h
  obtain ⟨a, b, xs, ys, rfl, rfl, hx, hy, hz, q⟩ := h
  by_cases he : xs = []
  · subst he
    cases rx
    cases ry
    obtain ⟨its, r, ht, _⟩ := I.tuple hx
    obtain ⟨its2, r2, ht2, _⟩ := I.tuple hy
    cases r
    obtain ⟨⟨cls, dd, data, sl⟩, ho, hc, n, hd⟩ := id ht
    obtain ⟨⟨cls2, dd2, data2, sl2⟩, ho2, hc2, n2, hd2⟩ := id ht2
    simp only at hc hd hc2 hd2
    subst hc hd hc2 hd2
    refine concat_meets ⟨_, ho, rfl⟩ ⟨_, ho2, rfl⟩ PySem.noFill_tuple_add PySem.seq_tuple_add PySem.F.slot_tuple_add PySem.F.entry_tuple_add (PySem.F.args_tuple_add_2 _ _) (tuple_addW0 a b _ its2.toArray n n2 dd dd2 sl sl2 (by simp)) ⟨ho, ho2, ?_⟩
    exact ⟨.ref b, H, I, rfl, q b H (Same.refl _) hy⟩
  · refine op_catT pins s σ H (.ref a) (.ref b) v u Q I rx ry ⟨a, b, xs, ys, rfl, rfl, hx, hy, he, hz, ?_⟩
    by_cases hw : ys = []
    · subst hw
      first
        | exact ⟨fun _ => q a H (Same.refl _) (by rw [List.append_nil]; exact hx), fun z => absurd rfl z⟩
        | exact .inl ⟨rfl, q a H (Same.refl _) (by rw [List.append_nil]; exact hx)⟩
    · first
        | exact ⟨fun z => absurd z hw, fun _ p hp => q p _ ((Same.refl _).new hp) (SqT.of upd_same)⟩
        | exact .inr ⟨hw, fun p hp => q p _ ((Same.refl _).new hp) (SqT.of upd_same)⟩
/-! ### any([..]) of bools -/
end
/-! ### values alike, lists and tuples within -/
inductive Like (K : PySem.W.Frag) (H : Hp) : Nat → V → V → Prop where
  | flat {n : Nat} (x : V) : flatV x = true → Like K H n x x
  | same {n : Nat} (a : Addr) : Like K H n (.ref a) (.ref a)
  | lst {n : Nat} {a b : Addr} {xs ys : List V} (ha : SqL K H a xs) (hb : SqL K H b ys) (hl : xs.length = ys.length) (h : ∀ (j : Nat) (x y : V), xs[j]? = some x → ys[j]? = some y → Like K H n x y) : Like K H (n + 1) (.ref a) (.ref b)
  | tup {n : Nat} {a b : Addr} {xs ys : List V} (ha : SqT K H a xs) (hb : SqT K H b ys) (hl : xs.length = ys.length) (h : ∀ (j : Nat) (x y : V), xs[j]? = some x → ys[j]? = some y → Like K H n x y) : Like K H (n + 1) (.ref a) (.ref b)
theorem eqV_same : ∀ (x : V), flatV x = true → eqV x x = true
  | .non, _ => rfl
  | .bl b, _ => by simp [eqV]
  | .int i, _ => by simp [eqV]
  | .str z, _ => by simp [eqV]
  | .ref _, h => absurd h (by intro z; cases z)
  | .ty _, h => absurd h (by intro z; cases z)
section
variable {X : Cx} {pins : List (Addr × Obj)} {σ : St} {H : Hp} {s : Shared}
theorem like_at (I : Inv X pins σ H s) {n : Nat} {x y : V} (h : Like X.K H n x y) : ∀ {A : Around} {u v : Value}, A.units + n < cLine → RelV x u → RelV y v → SeqAt.EqAt A s u v true := by
  induction h with
  | flat x fx => intro A u v _ ru rv; have := eqAt_V (A := A) (s := s) ru rv fx fx; rwa [eqV_same x fx] at this
  | same a => intro A u v _ ru rv; cases ru; cases rv; exact SeqAt.EqAt.same _
  | @lst n a b xs ys ha hb hl h ih =>
    intro A u v hu ru rv
    cases ru
    cases rv
    by_cases hab : a = b
    · subst hab
      exact SeqAt.EqAt.same _
    · obtain ⟨its, r1, p1, _⟩ := I.list ha
      obtain ⟨its2, r2, p2, _⟩ := I.list hb
      have l1 := r1.length
      have l2 := r2.length
      refine SeqAt.EqAt.of_refs hab ?_
      have q := SeqAt.RcAt.lists (A := A) (s := s) (e := fun _ => true) p1.isList p2.isList (by simp; omega) (by omega) fun j h1 h2 => ?_
      · rw [all_true] at q
        exact q
      · obtain ⟨x, hx, rx⟩ := rel_at r1 j h1
        obtain ⟨y, hy, ry⟩ := rel_at r2 j h2
        exact ih j x y hx hy (A := A.in1) (by show A.units + 1 + n < cLine; omega) rx ry
  | @tup n a b xs ys ha hb hl h ih =>
    intro A u v hu ru rv
    cases ru
    cases rv
    by_cases hab : a = b
    · subst hab
      exact SeqAt.EqAt.same _
    · obtain ⟨its, r1, p1, _⟩ := I.tuple ha
      obtain ⟨its2, r2, p2, _⟩ := I.tuple hb
      have l1 := r1.length
      have l2 := r2.length
      refine SeqAt.EqAt.of_refs hab ?_
      have q := SeqAt.RcAt.tuples (A := A) (s := s) (e := fun _ => true) (show s.heap.IsTuple a its.toArray from p1) (show s.heap.IsTuple b its2.toArray from p2) (by omega) fun j h1 h2 => ?_
      · rw [all_true, Bool.true_and, show (its.toArray.size == its2.toArray.size) = true by simp; omega] at q
        exact q
      · obtain ⟨x, hx, rx⟩ := rel_at r1 j h1
        obtain ⟨y, hy, ry⟩ := rel_at r2 j h2
        exact ih j x y hx hy (A := A.in1) (by show A.units + 1 + n < cLine; omega) rx ry
end
section
variable {X : Cx}
/-- two lists: alike within, or of unlike lengths -/
def rEqG (K : PySem.W.Frag) (neg : Bool) : R2 := fun x y H Q => ∃ a b xs ys, x = .ref a ∧ y = .ref b ∧ SqL K H a xs ∧ SqL K H b ys ∧
  ((xs.length = ys.length ∧ (∀ (j : Nat) (u v : V), xs[j]? = some u → ys[j]? = some v → Like K H 8 u v) ∧ Q (.bl (!neg)) H) ∨ (xs.length ≠ ys.length ∧ Q (.bl neg) H))
theorem op_neGK (K : PySem.W.Frag) (hu : X.A.units + 16 < cLine) (hK : X.K = K := by rfl) : OpR X (compareOp .NotEq) (rEqG K true) := by
  subst hK
  intro pins s σ H x y v u Q I rx ry h
  obtain ⟨a, b, xs, ys, rfl, rfl, ha, hb, h⟩ := h
  cases rx
  cases ry
  obtain ⟨its, r1, p1, _⟩ := I.list ha
  obtain ⟨its2, r2, p2, _⟩ := I.list hb
  have l1 := r1.length
  have l2 := r2.length
  rcases h with ⟨hl, he, q⟩ | ⟨hl, q⟩
  · refine PySem.EqBoolInt.of_rcne (SeqAt.RcNeAt.lists (e := fun _ => true) p1.isList p2.isList (by simp; omega) (by omega) fun j h1 h2 => ?_) ?_
    · obtain ⟨x, hx, rx⟩ := rel_at r1 j h1
      obtain ⟨y, hy, ry⟩ := rel_at r2 j h2
      exact like_at I (he j x y hx hy) (A := X.A.in1) (by show X.A.units + 1 + 8 < cLine; omega) rx ry
    · rw [all_true]
      exact ⟨.bl false, H, I, rfl, q⟩
  · refine PySem.EqBoolInt.of_rcne (SeqAt.RcNeAt.lists_lengths p1.isList p2.isList (by simp; omega) (by omega)) ?_
    exact ⟨.bl true, H, I, rfl, q⟩
/-! ### the tuple's rules, the written part named -/
theorem pi_tupK (K : PySem.W.Frag) {tg l : Expr} {tl : TE} (hl : PE X l tl) (hK : X.K = K := by rfl) : PI X tg l (iTup K tl) := by subst hK; exact pi_tup hl
theorem call_tupleK (K : PySem.W.Frag) (hK : X.K = K := by rfl) : CallR X (.type "tuple") (fun xs H Q => ∃ p ys, xs = [.ref p] ∧ ((SqL K H p ys ∧ ∀ l, H l = none → Q (.ref l) (upd H l (.tup ys))) ∨ (SqT K H p ys ∧ Q (.ref p) H))) := by subst hK; exact call_tuple_of
end
section
variable {K : PySem.W.Frag} {g : TG} {tt : TT} {te : TE} {D : Addr} {σ : St} {H : Hp} {Q : VK}
end
end L2
/-! THE HAND LAYER, for ints, bools, texts, own classes, DICTS (int and text keys), calls, loops. Paste it whole ahead of your own text; what your proof does not reach may be deleted. -/
namespace L2
open PySem PySem.Spec PyProof.Rows

end L2

namespace L2
open PySem PySem.Spec PyProof.Rows

section
variable (P : Program) (w : World)
end

section
variable {P : Program} {w : World} {H H' : Hp} {h h' : Heap} {a : Addr} {o : HO}
end

section
variable {P : Program} {w : World} {H : Hp} {h h' : Heap} {x e : Addr} {o' : HO}
end

/-! ### kept unless tracked; of the frames at fs (the callers') the slots may change (an exception that passes writes there); of the records at ex (iterators) nothing is said -/
section
variable {fs fs' ex ex' : List Addr} {H H1 H2 : Hp} {h h1 h2 h' : Heap} {a x e : Addr} {o : HO}
end

/-! ### the heap without what is tracked -/
/-! ### OpenK's ledger, filled with every new object but one -/
end L2

namespace L2
open PySem PySem.Spec PyProof.Rows

section
variable {X : Cx} {pins : List (Addr × Obj)} {σ : List (Option V)} {H H' : Hp} {s : Shared} {h' : Heap}

end

/-! ### the judgements -/
end L2

namespace L2
open PySem PySem.Spec PyProof.Rows
section
variable {X : Cx}

/-! ### names and constants -/
/-! ### arithmetic -/
variable {a b : Expr} {ta tb : TE} {pos : Pos}
/-! ### comparisons -/
/-! ### and, or, not -/
variable {tA tB' : TT} {rest : List Expr}
end
end L2

namespace L2
open PySem PySem.Spec PyProof.Rows

/-! ### a list, a tuple that is read: tracked, frozen, or an object of the module -/
section
variable {X : Cx} {pins : List (Addr × Obj)} {σ : St} {H : Hp} {s : Shared} {a : Addr} {xs ys : List V}
end

/-! ### another wish about exceptions -/
section
variable {X : Cx} {pins : List (Addr × Obj)} {σ : St} {H : Hp} {s : Shared} {E : Value → Shared → Prop}
end

/-! ### blocks and small statements -/
section
variable {X : Cx} {st : Stmt} {rest : List Stmt} {t u : TS} {e : Expr} {te : TE} {pos : Pos}
end

/-! ### targets -/
section
variable {X : Cx} {pos : Pos}
end

/-! ### while -/
section
variable {X : Cx} {pos : Pos}
end

/-! ### what a loop or a comprehension walks -/
end L2

namespace L2
open PySem PySem.Spec PyProof.Rows
section
variable {X : Cx} {tg : Expr}
/-! ### for -/
end

/-! ### the forms one uses -/
end L2

namespace L2
open PySem PySem.Spec PyProof.Rows

section
variable {X : Cx} {a b c : Expr} {ta tb tc : TE} {pos : Pos}

/-! ### ints -/
/-! ### bools among ints: n += (a < b) -/
end

/-! ### comparisons -/
section
variable {X : Cx} {a b c : Expr} {ta tb tc : TE} {pos : Pos}
/-! ### truth -/
/-! ### strs and bytes -/
/-! ### scalar builtins, by CallR -/
end
end L2

namespace L2
open PySem PySem.Spec PyProof.Rows

/-! ### an instance, its attributes a map -/
section
variable {prog : Program} {w : World} {A : Around} {E : Value → Shared → Prop} {s : Shared} {K : PySem.W.Frag} {x dx C f : Addr} {mA : Str → Option Value} {name : Str} {v : Value}

end

/-! ### the attributes as a list of pairs -/
section
variable {P : Program} {w : World} {H H' : Hp} {h h' : Heap} {a C dx : Addr} {fs fs' : List (Str × V)}
end

/-! ### what of the text a class must have -/
section
variable {X : Cx} {pins : List (Addr × Obj)} {σ : St} {H : Hp} {s : Shared} {a C dx : Addr} {fs : List (Str × V)} {f : Str} {v : V} {A : Around} {E : Value → Shared → Prop}

end

/-! ### readings and rules -/
section
variable {X : Cx} {o e value : Expr} {f : Str} {pos pos' tpos : Pos} {ta tv : TE}
end

/-! ### isinstance -/
section
variable {X : Cx} {pins : List (Addr × Obj)} {σ : St} {H : Hp} {s : Shared} {A : Around} {E : Value → Shared → Prop} {Q : Value → Shared → Prop} {c : Value} {b : Bool}
end
end L2

namespace L2
open PySem PySem.Spec PyProof.Rows

/-! ### room -/
/-! ### argument lists and displays -/
section
variable {X : Cx} {e : Expr} {es : List Expr} {te : TE} {t : TA} {pos : Pos}
end

/-! ### what a def promises -/
section
variable {X : Cx} {pins : List (Addr × Obj)} {σ : St} {H : Hp} {s s' : Shared}
end

/-! ### calls -/
section
variable {X : Cx} {CX : CXT} {k : Nat} {f C : Addr} {fd : FuncData} {ps : List Str} {sp : Sp} {dvs : List V} {ds : List Value} {E : XK} {x m : Str} {p pos apos : Pos} {e o : Expr} {es : List Expr} {ta : TE} {t : TA}

end

/-! ### keywords -/
section
variable {X : Cx} {CX : CXT} {k : Nat} {f C : Addr} {fd : FuncData} {ps ks : List Str} {sp : Sp} {E : XK} {x m : Str} {p pos apos kpos : Pos} {e o : Expr} {es : List Expr} {kws : List Keyword} {te ta : TE} {t tk : TA} {nm : Option Str}
variable {g : List Value → List Value → List Value} {gV : List V → List V → List V}
end

/-! ### a def's body keeps its promise -/
end L2

namespace L2
open PySem PySem.Spec PyProof.Rows
section
variable {X : Cx} {x : Str} {p pos : Pos} {e : Expr} {es : List Expr} {t : TA} {id T : String} {r : List V → Hp → VK → Prop}

end
end L2

namespace L2
open PySem PySem.Spec PyProof.Rows

/-! ### lists of pairs as tables -/
section
variable {κ : Type} [DecidableEq κ]
def valV (kvs : List (κ × V)) (k : κ) : Option V := (kvs.find? fun kv => decide (kv.1 = k)).map (·.2)
/-- in its place, or at the end -/
def putK (kvs : List (κ × V)) (k : κ) (v : V) : List (κ × V) :=
  if (kvs.any fun kv => decide (kv.1 = k)) = true then kvs.map (fun kv => if kv.1 = k then (kv.1, v) else kv) else kvs ++ [(k, v)]
def dropK (kvs : List (κ × V)) (k : κ) : List (κ × V) := kvs.filter fun kv => decide (kv.1 ≠ k)

theorem valV_pos {p : κ × V} {r : List (κ × V)} {k : κ} (e : p.1 = k) : valV (p :: r) k = some p.2 := by simp [valV, List.find?_cons, e]
theorem valV_neg {p : κ × V} {r : List (κ × V)} {k : κ} (e : ¬ p.1 = k) : valV (p :: r) k = valV r k := by simp [valV, List.find?_cons, e]
theorem valV_any (k : κ) : ∀ kvs : List (κ × V), (kvs.any fun kv => decide (kv.1 = k)) = (valV kvs k).isSome
  | [] => rfl
  | p :: r => by
    rw [List.any_cons]
    by_cases e : p.1 = k
    · simp only [valV_pos e, decide_eq_true e, Bool.true_or, Option.isSome_some]
    · rw [valV_neg e, decide_eq_false e, Bool.false_or]; exact valV_any k r
theorem length_putK (kvs : List (κ × V)) (k : κ) (v : V) : (putK kvs k v).length ≤ kvs.length + 1 := by
  unfold putK
  split
  · rw [List.length_map]; omega
  · rw [List.length_append, List.length_cons, List.length_nil]; omega
theorem putK_new {kvs : List (κ × V)} {k : κ} (v : V) (h : valV kvs k = none) : putK kvs k v = kvs ++ [(k, v)] := by
  unfold putK
  rw [valV_any, h]
  exact if_neg (by decide)

theorem RelO.isSome_eq {o : Option V} {u : Option Value} (r : RelO o u) : o.isSome = u.isSome := by
  cases o with
  | none => cases u with
    | none => rfl
    | some _ => exact (show False from r).elim
  | some _ => cases u with
    | none => exact (show False from r).elim
    | some _ => rfl
theorem RelO.getD {o : Option V} {u : Option Value} {d : V} {d' : Value} (r : RelO o u) (rd : RelV d d') : RelV (o.getD d) (u.getD d') := by
  cases o with
  | none => cases u with
    | none => exact rd
    | some _ => exact (show False from r).elim
  | some _ => cases u with
    | none => exact (show False from r).elim
    | some _ => exact r

/-- raw tables of the same keys -/
theorem KV.val {kvs : List (κ × V)} {vs : List (κ × Value)} (r : KV kvs vs) (k : κ) : RelO (valV kvs k) (valueAt vs k) := by
  unfold KV at r
  induction r with
  | nil => exact True.intro
  | @cons p q ps qs h t ih =>
    obtain ⟨h1, h2⟩ := h
    by_cases e : p.1 = k
    · have e' : q.1 = k := h1.symm.trans e
      have b : valueAt (q :: qs) k = some q.2 := by simp [valueAt, List.find?_cons, e']
      rw [valV_pos e, b]; exact h2
    · have e' : ¬ q.1 = k := fun z => e (h1.trans z)
      have b : valueAt (q :: qs) k = valueAt qs k := by simp [valueAt, List.find?_cons, e']
      rw [valV_neg e, b]; exact ih
theorem KV.any {kvs : List (κ × V)} {vs : List (κ × Value)} (r : KV kvs vs) (k : κ) : (kvs.any fun kv => decide (kv.1 = k)) = vs.any fun kv => decide (kv.1 = k) := by
  unfold KV at r
  induction r with
  | nil => rfl
  | cons h t ih => rw [List.any_cons, List.any_cons, ih, h.1]
theorem KV.repl {kvs : List (κ × V)} {vs : List (κ × Value)} (r : KV kvs vs) (k : κ) {y : V} {u : Value} (ry : RelV y u) :
    KV (kvs.map fun kv => if kv.1 = k then (kv.1, y) else kv) (vs.map fun kv => if kv.1 = k then (kv.1, u) else kv) := by
  unfold KV at r ⊢
  induction r with
  | nil => exact .nil
  | @cons p q ps qs h t ih =>
    rw [List.map_cons, List.map_cons]
    refine .cons ?_ ih
    obtain ⟨h1, h2⟩ := h
    by_cases e : p.1 = k
    · rw [if_pos e, if_pos (h1.symm.trans e)]; exact ⟨h1, ry⟩
    · rw [if_neg e, if_neg (fun z => e (h1.trans z))]; exact ⟨h1, h2⟩
theorem KV.put {kvs : List (κ × V)} {vs : List (κ × Value)} (r : KV kvs vs) (k : κ) {y : V} {u : Value} (ry : RelV y u) : KV (putK kvs k y) (stored vs k u) := by
  unfold putK stored
  rw [r.any k]
  by_cases e : (vs.any fun kv => decide (kv.1 = k)) = true
  · rw [if_pos e, if_pos e]; exact r.repl k ry
  · rw [if_neg e, if_neg e]; exact Paired.snoc r ⟨rfl, ry⟩
theorem KV.drop {kvs : List (κ × V)} {vs : List (κ × Value)} (r : KV kvs vs) (k : κ) : KV (dropK kvs k) (without vs k) := by
  unfold KV at r ⊢
  unfold dropK without
  induction r with
  | nil => exact .nil
  | @cons p q ps qs h t ih =>
    obtain ⟨h1, h2⟩ := h
    rw [List.filter_cons, List.filter_cons]
    by_cases e : p.1 = k
    · have a : ¬ decide (p.1 ≠ k) = true := by simp [e]
      have b : ¬ decide (q.1 ≠ k) = true := by simp [h1.symm.trans e]
      rw [if_neg a, if_neg b]; exact ih
    · have e' : ¬ q.1 = k := fun z => e (h1.trans z)
      have a : decide (p.1 ≠ k) = true := by simp [e]
      have b : decide (q.1 ≠ k) = true := by simp [e']
      rw [if_pos a, if_pos b]; exact .cons ⟨h1, h2⟩ ih
theorem KV.keys {kvs : List (κ × V)} {vs : List (κ × Value)} (r : KV kvs vs) : kvs.map (·.1) = vs.map (·.1) := by
  unfold KV at r
  induction r with
  | nil => rfl
  | cons h t ih => rw [List.map_cons, List.map_cons, ih, h.1]
theorem KV.length {kvs : List (κ × V)} {vs : List (κ × Value)} (r : KV kvs vs) : kvs.length = vs.length := Paired.length r
theorem dropK_le (kvs : List (κ × V)) (k : κ) : (dropK kvs k).length ≤ kvs.length := List.length_filter_le _ _
end


/-! ### a tracked dict, its keys ints and texts or tuples of these -/
theorem kV_is {P : Program} {w : World} {k : Key} {u : Value} (r : RelV (kV k) u) : (mixKind P w).is k u = true := by
  cases k with
  | inl i => obtain ⟨t, e⟩ := (show ∃ t, u = Value.int i t from r); subst e; exact mixKind_int P w i t
  | inr x => obtain ⟨t, e⟩ := (show ∃ t, u = Value.str x t from r); subst e; exact mixKind_str P w x t
theorem items_are {P : Program} {w : World} : ∀ {ks : List Key} {us : List Value}, Vals (ks.map kV) us → ItemsAre (mixKind P w) ks us
  | [], _, r => by rw [List.map_nil] at r; cases r; exact .nil
  | k :: ks, _, r => by
    rw [List.map_cons] at r
    cases r with
    | cons h t => exact .cons (kV_is h) (items_are t)

/-- raw entries of a dict with tuple keys -/
abbrev KT (H : Hp) : List (List Key × V) → List (List Key × Addr × Value) → Prop := Paired fun p q => p.1 = q.1 ∧ H q.2.1 = some (.tup (p.1.map kV)) ∧ RelV p.2 q.2.2
theorem KT.val {H : Hp} {kvs : List (List Key × V)} {xs : List (List Key × Addr × Value)} (r : KT H kvs xs) (k : List Key) : RelO (valV kvs k) ((atKey xs k).map (·.2)) := by
  induction r with
  | nil => exact True.intro
  | @cons p q ps qs h t ih =>
    obtain ⟨h1, _, h2⟩ := h
    by_cases e : p.1 = k
    · have e' : q.1 = k := h1.symm.trans e
      have b : atKey (q :: qs) k = some q.2 := by simp [atKey, List.find?_cons, e']
      rw [valV_pos e, b]; exact h2
    · have e' : ¬ q.1 = k := fun z => e (h1.trans z)
      have b : atKey (q :: qs) k = atKey qs k := by simp [atKey, List.find?_cons, e']
      rw [valV_neg e, b]; exact ih
theorem KT.repl {H : Hp} {kvs : List (List Key × V)} {xs : List (List Key × Addr × Value)} (r : KT H kvs xs) (k : List Key) {y : V} {u : Value} (ry : RelV y u) :
    KT H (kvs.map fun kv => if kv.1 = k then (kv.1, y) else kv) (xs.map (putAt k u)) := by
  induction r with
  | nil => exact .nil
  | @cons p q ps qs h t ih =>
    rw [List.map_cons, List.map_cons]
    refine .cons ?_ ih
    obtain ⟨h1, h2, h3⟩ := h
    unfold putAt
    by_cases e : p.1 = k
    · rw [if_pos e, if_pos (h1.symm.trans e)]; exact ⟨h1, h2, ry⟩
    · rw [if_neg e, if_neg (fun z => e (h1.trans z))]; exact ⟨h1, h2, h3⟩
theorem KT.put {H : Hp} {kvs : List (List Key × V)} {xs : List (List Key × Addr × Value)} (r : KT H kvs xs) (k : List Key) {b : Addr} {y : V} {u : Value} (hb : H b = some (.tup (k.map kV))) (ry : RelV y u) :
    KT H (putK kvs k y) (storedH xs k b u) := by
  have e : (kvs.any fun kv => decide (kv.1 = k)) = (atKey xs k).isSome := by
    rw [valV_any, (r.val k).isSome_eq, Option.isSome_map]
  unfold putK storedH
  rw [e]
  by_cases q : (atKey xs k).isSome = true
  · rw [if_pos q, if_pos q]; exact r.repl k ry
  · rw [if_neg q, if_neg q]; exact Paired.snoc r ⟨rfl, hb, ry⟩
theorem KT.keeps {H H' : Hp} {kvs : List (List Key × V)} {xs : List (List Key × Addr × Value)} (r : KT H kvs xs) (ht : ∀ b ys, H b = some (.tup ys) → H' b = some (.tup ys)) : KT H' kvs xs :=
  Paired.mapP r fun _ _ z => ⟨z.1, ht _ _ z.2.1, z.2.2⟩

section
variable {P : Program} {w : World} {H : Hp} {h : Heap} {a : Addr}
theorem rd_of {u : HO} (ok : HOk P w H h) (e : Rd H a u) : ObjOk P w H h a u := e.ok ok
theorem dk_rd {kvs : List (Key × V)} (ok : HOk P w H h) (e : Rd H a (.dK kvs)) : kvs.length ≤ sizeLine ∧ (a == sysModules) = false ∧ ∃ vs, KV kvs vs ∧ h.DictOf (mixKind P w) a vs :=
  show ObjOk P w H h a (.dK kvs) from rd_of ok e
theorem dk_of {kvs : List (Key × V)} (ok : HOk P w H h) (e : H a = some (.dK kvs)) : kvs.length ≤ sizeLine ∧ (a == sysModules) = false ∧ ∃ vs, KV kvs vs ∧ h.DictOf (mixKind P w) a vs := dk_rd ok (.inl e)
/-- a tracked tuple of ints and texts is a key -/
theorem key_of {ks : List Key} (ok : HOk P w H h) (e : H a = some (.tup (ks.map kV))) : (tupleKind (mixKind P w)).is h ks a := by
  obtain ⟨_, its, r, o, h1, h2, n, h3⟩ := (show ObjOk P w H h a (.tup (ks.map kV)) from ok a _ e)
  exact ⟨o, its.toArray, n, h1, h2, h3, by simpa using items_are r⟩
theorem dt_rd {kvs : List (List Key × V)} (ok : HOk P w H h) (e : Rd H a (.dT kvs)) : kvs.length ≤ sizeLine ∧ (a == sysModules) = false ∧
    ∃ xs, KT H kvs xs ∧ h.DictOfH (tupleKind (mixKind P w)) a xs := by
  obtain ⟨z, y, xs, r, o, es, ep, h1, h2, h3, h4, h5⟩ := (show ObjOk P w H h a (.dT kvs) from rd_of ok e)
  refine ⟨z, y, xs, r, o, es, ep, h1, h2, h3, h4, fun x hx => ?_, h5⟩
  have all : ∀ {l : List (List Key × V)} {m : List (List Key × Addr × Value)}, KT H l m → ∀ x ∈ m, (tupleKind (mixKind P w)).is h x.1 x.2.1 := by
    intro l m q
    induction q with
    | nil => intro x hx; exact nomatch hx
    | @cons p q ps qs hq t ih =>
      intro x hx
      rcases List.mem_cons.mp hx with e | hx
      · subst e
        exact key_of ok (by rw [← hq.1]; exact hq.2.1)
      · exact ih x hx
  exact all r x hx
end

/-- what the dict at a holds at the key y -/
def DGet (H : Hp) (a : Addr) (y : V) (r : Option V) : Prop :=
  (∃ kvs k, Rd H a (.dK kvs) ∧ y = kV k ∧ r = valV kvs k) ∨ ∃ kvs k b, Rd H a (.dT kvs) ∧ y = .ref b ∧ H b = some (.tup (k.map kV)) ∧ r = valV kvs k
/-- the heap behind a[y] = v -/
def DPut (H : Hp) (a : Addr) (y v : V) (H' : Hp) : Prop :=
  (∃ kvs k, H a = some (.dK kvs) ∧ y = kV k ∧ kvs.length < sizeLine ∧ H' = upd H a (.dK (putK kvs k v))) ∨
  ∃ kvs k b, H a = some (.dT kvs) ∧ y = .ref b ∧ H b = some (.tup (k.map kV)) ∧ kvs.length < sizeLine ∧ H' = upd H a (.dT (putK kvs k v))
theorem DGet.k {H : Hp} {a : Addr} {kvs : List (Key × V)} {k : Key} (e : H a = some (.dK kvs)) : DGet H a (kV k) (valV kvs k) := .inl ⟨kvs, k, .inl e, rfl, rfl⟩
theorem DGet.t {H : Hp} {a b : Addr} {kvs : List (List Key × V)} {k : List Key} (e : H a = some (.dT kvs)) (eb : H b = some (.tup (k.map kV))) : DGet H a (.ref b) (valV kvs k) := .inr ⟨kvs, k, b, .inl e, rfl, eb, rfl⟩
theorem DPut.k {H : Hp} {a : Addr} {kvs : List (Key × V)} {k : Key} {v : V} (e : H a = some (.dK kvs)) (hl : kvs.length < sizeLine) : DPut H a (kV k) v (upd H a (.dK (putK kvs k v))) := .inl ⟨kvs, k, e, rfl, hl, rfl⟩
theorem DPut.t {H : Hp} {a b : Addr} {kvs : List (List Key × V)} {k : List Key} {v : V} (e : H a = some (.dT kvs)) (eb : H b = some (.tup (k.map kV))) (hl : kvs.length < sizeLine) :
    DPut H a (.ref b) v (upd H a (.dT (putK kvs k v))) := .inr ⟨kvs, k, b, e, rfl, eb, hl, rfl⟩


section
variable {X : Cx} {pins : List (Addr × Obj)} {σ : St} {H : Hp} {s : Shared} {a : Addr} {y v : V} {u r : Value} {o : Option V} {A : Around} {E : Value → Shared → Prop}

theorem Inv.big (I : Inv X pins σ H s) : sysModules < s.heap.objs.size := by
  have h : mainGlobals < s.heap.objs.size := (I.mod.glob.keeps I.bk).lt
  exact Nat.lt_trans (by decide) h

/-- d[y], there -/
theorem d_getItem {Q : Value → Shared → Prop} (hu : A.units + 1 < cLine) (I : Inv X pins σ H s) (g : DGet H a y (some v)) (ry : RelV y u) (h : ∀ w' s', Inv X pins σ H s' → RelV v w' → Q w' s') :
    wpAny (model X.prog X.w) A (getItem (.ref a) u) Q E s := by
  rcases g with ⟨kvs, k, e, ey, l⟩ | ⟨kvs, k, b, e, ey, eb, l⟩
  · subst ey
    obtain ⟨z, hd, vs, rel, dd⟩ := dk_rd I.hok e
    obtain ⟨w', hw, rw'⟩ := RelO.some_of (v := v) (o := valueAt vs k) (by rw [l]; exact rel.val k)
    exact wpAny_getItem_of (kV_is ry) dd.mapOf hw (h w' _ (I.tok _) rw')
  · subst ey
    cases (show u = Value.ref b from ry)
    obtain ⟨z, hd, xs, rel, dd⟩ := dt_rd I.hok e
    obtain ⟨w', hw, rw'⟩ := RelO.some_of (v := v) (o := (atKey xs k).map (·.2)) (by rw [l]; exact rel.val k)
    obtain ⟨p, hp, hp2⟩ := Option.map_eq_some_iff.mp hw
    refine wpAny_getItem_heap (tupleKind_room_in1 hu) (key_of I.hok eb) dd hp ?_
    rw [hp2]
    exact h w' _ (I.tok _) rw'
/-- a dict's object is replaced -/
theorem d_write {h' : Heap} {t' : Nat} {ob : HO} (I : Inv X pins σ H s) (mu : Mut (H a)) (hs : Heap.SameBut a s.heap h') (he : ∃ q, h'.get? a = some q) (new : ObjOk X.prog X.w (upd H a ob) h' a ob) :
    Inv X pins σ (upd H a ob) { s with heap := h', toks := t' } :=
  I.write (x := a) (e := a) mu (.inl rfl) (fun b q hb z => (hs.2 b hb).trans z) he new
theorem dk_new {P : Program} {w : World} {H' : Hp} {h' : Heap} {kvs : List (Key × V)} {vs : List (Key × Value)} (z : kvs.length ≤ sizeLine) (hd : (a == sysModules) = false) (rel : KV kvs vs) (dd : h'.DictOf (mixKind P w) a vs) :
    ObjOk P w H' h' a (.dK kvs) := ⟨z, hd, vs, rel, dd⟩
end

section
variable {X : Cx} {pins : List (Addr × Obj)} {σ : St} {H : Hp} {s : Shared} {a : Addr} {kvs : List (Key × V)} {k : Key} {u : Value} {A : Around} {E : Value → Shared → Prop}
/-- d.pop(k[, x]), there -/
theorem d_pop {v : V} {more : List Value} {Q : Value → Shared → Prop} (I : Inv X pins σ H s) (e : H a = some (.dK kvs)) (ry : RelV (kV k) u) (l : valV kvs k = some v) (hm : more = [] ∨ ∃ x, more = [x])
    (h : ∀ w' s', Inv X pins σ (upd H a (.dK (dropK kvs k))) s' → RelV v w' → Q w' s') : wpAny (model X.prog X.w) A (call (.builtin "dict.pop") (.ref a :: u :: more)) Q E s := by
  obtain ⟨z, hd, vs, rel, dd⟩ := dk_of I.hok e
  obtain ⟨w', hw, rw'⟩ := RelO.some_of (v := v) (o := valueAt vs k) (by rw [← l]; exact rel.val k)
  have hp : (keyPart u).isSome = true := by
    cases k with
    | inl i => obtain ⟨t, q⟩ := (show ∃ t, u = Value.int i t from ry); subst q; rfl
    | inr x => obtain ⟨t, q⟩ := (show ∃ t, u = Value.str x t from ry); subst q; rfl
  have ha : argsOk "dict.pop" ⟨.ref a :: u :: more, []⟩ := by
    rcases hm with q | ⟨x, q⟩
    · subst q; exact PySem.F.args_dict_pop_2 _ _
    · subst q; exact PySem.F.args_dict_pop_3 _ _ _
  refine call_meetsIn PySem.F.slot_dict_pop dd.typeIs PySem.F.entry_dict_pop ha (meets_dict_pop_there (mixKind X.prog X.w) a (kV_is ry) more hm hp)
    ⟨vs, w', dd, by rw [← rel.length]; exact z, hw, fun h' dd' hs => h w' _ ?_ rw'⟩
  have he : ∃ q, h'.get? a = some q := let ⟨q, _, _, hq, _⟩ := dd'; ⟨q, hq⟩
  exact d_write I (by rw [e]; exact True.intro) hs he (dk_new (Nat.le_trans (dropK_le kvs k) z) hd (rel.drop k) dd')
/-- d.pop(k, x), not there -/
theorem d_popD {r : Value} {Q : Value → Shared → Prop} (I : Inv X pins σ H s) (e : H a = some (.dK kvs)) (ry : RelV (kV k) u) (l : valV kvs k = none) (h : ∀ s', Inv X pins σ H s' → Q r s') :
    wpAny (model X.prog X.w) A (call (.builtin "dict.pop") [.ref a, u, r]) Q E s := by
  obtain ⟨z, hd, vs, rel, dd⟩ := dk_of I.hok e
  have hn : valueAt vs k = none := RelO.none_of (by rw [← l]; exact rel.val k)
  have hp : (keyPart u).isSome = true := by
    cases k with
    | inl i => obtain ⟨t, q⟩ := (show ∃ t, u = Value.int i t from ry); subst q; rfl
    | inr x => obtain ⟨t, q⟩ := (show ∃ t, u = Value.str x t from ry); subst q; rfl
  exact call_meetsIn PySem.F.slot_dict_pop dd.typeIs PySem.F.entry_dict_pop (PySem.F.args_dict_pop_3 _ _ _) (meets_dict_pop_default (mixKind X.prog X.w) a (kV_is ry) hd hp r) ⟨vs, dd, hn, h _ (I.tok _)⟩
end


/-! ### readings and rules -/
/-- the element of a subscription, not a slice -/
def NoSl (i : Expr) : Prop := ∀ ov iv, subscripted i false ov iv = operate [ov, iv] (getItem ov iv)
theorem subD_of {prog : Program} {w : World} {A : Around} {E : Value → Shared → Prop} {s : Shared} {env : Env} {value slice : Expr} {pos : Pos} {T id : String} {Q : Value → Shared → Prop}
    (hl : typeLookup (.type T) "__getitem__" = pure (some (.builtin id))) (hs : NoSl slice)
    (h : wpAny (model prog w) A (eval value env) (fun o s₁ => wpAny (model prog w) A (eval slice env) (fun i s₂ => s₂.TypeIs o T ∧ wpAny (model prog w) A (getItem o i) Q E s₂) E s₁) E s) :
    wpAny (model prog w) A (eval (.Subscript value slice pos) env) Q E s := by
  refine Subscript_ (wpAny_mono h (fun o s₁ h₁ => wpAny_mono h₁ (fun i s₂ h₂ => ?_) fun _ _ x => x) fun _ _ x => x)
  obtain ⟨hT, h₂⟩ := h₂
  unfold subscriptTail
  refine wpAny_bind ?_
  rw [getitemInPython_of_ne hT.not_modules]
  refine wpAny_bind (wpAny_specialOf hT hl ?_)
  have fin : wpAny (model prog w) A (subscripted slice false o i) (fun r s₃ => wpAny (model prog w) A (letTemporaryGo value o r >>= fun _ => pure r) Q E s₃) E s₂ := by
    rw [hs o i]
    exact wpAny_operating (wpAny_mono h₂ (fun r s₃ h₃ => wpAny_bind (wpAny_letTemporaryGo (wpAny_pure h₃))) fun _ _ x => x)
  first
    | exact wpAny_pure (wpAny_bind fin)
    | exact wpAny_bind (wpAny_pure (wpAny_bind fin))
    | exact wpAny_bind fin

theorem dict_typeIs {X : Cx} {pins : List (Addr × Obj)} {σ : St} {H : Hp} {s : Shared} {a : Addr} {y : V} {o : Option V} (I : Inv X pins σ H s) (g : DGet H a y o) : s.TypeIs (.ref a) "dict" := by
  rcases g with ⟨kvs, k, e, _, _⟩ | ⟨kvs, k, b, e, _, _, _⟩
  · obtain ⟨_, _, vs, _, dd⟩ := dk_rd I.hok e
    exact dd.typeIs
  · obtain ⟨_, _, xs, _, dd⟩ := dt_rd I.hok e
    exact dd.typeIs
/-- d[y] -/
def tDGet (td ty : TE) : TE := fun σ H Q => td σ H fun x H1 => ty σ H1 fun y H2 => ∃ a v, x = .ref a ∧ DGet H2 a y (some v) ∧ Q v H2
section
variable {X : Cx} {o i e value : Expr} {pos pos' tpos : Pos} {td ty tv : TE}
theorem pe_dget (hu : X.A.units + 1 < cLine) (ho : PE X o td) (hi : PE X i ty) (hs : NoSl i) : PE X (.Subscript o i pos) (tDGet td ty) := by
  intro pins s σ H Q I h
  refine subD_of PySem.F.slot_dict_getitem.lookup hs (thn (ho pins s σ H _ I h) fun u s1 ⟨x, H1, I1, rx, q1⟩ => thn (hi pins s1 σ H1 _ I1 q1) fun iv s2 ⟨y, H2, I2, ry, a, v, ex, g, q2⟩ => ?_)
  subst ex
  obtain rfl : u = Value.ref a := rx
  exact ⟨dict_typeIs I2 g, d_getItem hu I2 g ry fun w' s3 I3 rw' => ⟨v, H2, I3, rw', q2⟩⟩
end


/-! ### displays -/
theorem dk_empty {P : Program} {w : World} {H : Hp} (h : Heap) (hb : sysModules < h.objs.size) : ObjOk P w H (h.push { cls := .type "dict", data := .dict #[] }) h.objs.size (.dK []) :=
  ⟨Nat.zero_le _, beq_eq_false_iff_ne.mpr (Ne.symm (Nat.ne_of_lt hb)), [], .nil, Heap.DictOf.new h⟩
/-- {}, to be a dict of the kind that is wanted -/
def tDNewK : TE := fun _ H Q => ∀ p, H p = none → Q (.ref p) (upd H p (.dK []))
section
variable {X : Cx} {pos : Pos}
theorem pe_dnewK : PE X (.Dict [] [] pos) tDNewK := fun pins s σ H Q I h =>
  wpAny_Dict_empty ⟨.ref s.heap.objs.size, _, I.laid (a := s.heap.objs.size) (o := .dK []) (t' := s.toks) (fun _ _ q => Heap.get?_push_of_some _ q) (Nat.le_refl _) (dk_empty s.heap I.big), rfl, h _ (I.hok.fresh (Nat.le_refl _))⟩
end

/-! ### methods -/
/-- a method call o.m(e) of a built-in, with one argument: what must be seen of the text -/
structure M1 (X : Cx) (o : Expr) (m : Str) (apos : Pos) (e : Expr) (cpos : Pos) : Prop where
  base : attributeBase o m X.env (eval o X.env) = eval o X.env
  few : ((backTo cpos (starEach [e] X.env)).all (fun x => !x.1) && (backToKw cpos (keywordEach [] X.env)).all (fun x => x.1.isSome)
    && decide (([e] : List Expr).length + ([] : List Keyword).length + (if ([] : List Keyword).isEmpty then 0 else 1) < 30)) = true
  line : (apos.endLine == cpos.line) = true
  trees : backTo cpos (starEach [e] X.env) = [(false, eval e X.env)]
structure M2 (X : Cx) (o : Expr) (m : Str) (apos : Pos) (e f : Expr) (cpos : Pos) : Prop where
  base : attributeBase o m X.env (eval o X.env) = eval o X.env
  few : ((backTo cpos (starEach [e, f] X.env)).all (fun x => !x.1) && (backToKw cpos (keywordEach [] X.env)).all (fun x => x.1.isSome)
    && decide (([e, f] : List Expr).length + ([] : List Keyword).length + (if ([] : List Keyword).isEmpty then 0 else 1) < 30)) = true
  line : (apos.endLine == cpos.line) = true
  trees : backTo cpos (starEach [e, f] X.env) = [(false, eval e X.env), (false, eval f X.env)]

/-- a is a dict, whatever its keys -/
def IsD (H : Hp) (a : Addr) : Prop := (∃ kvs, Rd H a (.dK kvs)) ∨ ∃ kvs, Rd H a (.dT kvs)
theorem isD_at {X : Cx} {pins : List (Addr × Obj)} {σ : St} {H : Hp} {s : Shared} {a : Addr} (I : Inv X pins σ H s) (d : IsD H a) :
    s.TypeIs (.ref a) "dict" ∧ (∀ b, Value.ref a = .ref b → ∃ ob, s.heap.get? b = some ob ∧ ob.dict = none) ∧ (a == sysModules) = false := by
  rcases d with ⟨kvs, e⟩ | ⟨kvs, e⟩
  · obtain ⟨_, hd, vs, _, dd⟩ := dk_rd I.hok e
    refine ⟨dd.typeIs, fun b q => ?_, hd⟩
    cases q
    obtain ⟨ob, _, _, h1, h2, _⟩ := dd
    exact ⟨ob, h1, h2.2.1⟩
  · obtain ⟨_, hd, xs, _, dd⟩ := dt_rd I.hok e
    refine ⟨dd.typeIs, fun b q => ?_, hd⟩
    cases q
    obtain ⟨ob, _, _, h1, h2, _⟩ := dd
    exact ⟨ob, h1, h2.2.1⟩

section
variable {X : Cx} {pins : List (Addr × Obj)} {σ : St} {H : Hp} {s : Shared} {a : Addr} {y d : V} {u r : Value} {o : Option V} {A : Around} {E : Value → Shared → Prop}
/-- d.get(y, x) -/
theorem d_get2 {Q : Value → Shared → Prop} (hu : A.units + 1 < cLine) (I : Inv X pins σ H s) (g : DGet H a y o) (ry : RelV y u) (rd : RelV d r) (h : ∀ w' s', Inv X pins σ H s' → RelV (o.getD d) w' → Q w' s') :
    wpAny (model X.prog X.w) A (call (.builtin "dict.get") [.ref a, u, r]) Q E s := by
  rcases g with ⟨kvs, k, e, ey, l⟩ | ⟨kvs, k, b, e, ey, eb, l⟩
  · subst ey
    obtain ⟨z, hd, vs, rel, dd⟩ := dk_rd I.hok e
    refine call_meetsIn PySem.F.slot_dict_get dd.typeIs PySem.F.entry_dict_get (PySem.F.args_dict_get_3 _ _ _) (meets_dict_get_default (mixKind X.prog X.w) a (kV_is ry) hd r) ⟨_, dd.mapOf, h _ _ (I.tok _) ?_⟩
    rw [l]
    exact (rel.val k).getD rd
  · subst ey
    cases (show u = Value.ref b from ry)
    obtain ⟨z, hd, xs, rel, dd⟩ := dt_rd I.hok e
    refine call_meetsIn PySem.F.slot_dict_get dd.typeIs PySem.F.entry_dict_get (PySem.F.args_dict_get_3 _ _ _) (meetsH_dict_get_default (tupleKind (mixKind X.prog X.w)) a b hd r) ⟨tupleKind_room_in1 hu, k, xs, key_of I.hok eb, dd, h _ _ (I.tok _) ?_⟩
    rw [l]
    exact (rel.val k).getD rd
end

def tDGet2 (td ty tx : TE) : TE := fun σ H Q => td σ H fun x H1 => ∃ a, x = .ref a ∧ IsD H1 a ∧ ty σ H1 fun y H2 => tx σ H2 fun z H3 => ∃ o, DGet H3 a y o ∧ Q (o.getD z) H3
/-- d.pop(k): there; d.pop(k, x): there or not -/
def tDPop1 (td ty : TE) : TE := fun σ H Q => td σ H fun x H1 => ∃ a, x = .ref a ∧ IsD H1 a ∧ ty σ H1 fun y H2 => ∃ kvs k v, H2 a = some (.dK kvs) ∧ y = kV k ∧ valV kvs k = some v ∧ Q v (upd H2 a (.dK (dropK kvs k)))
def tDPop2 (td ty tx : TE) : TE := fun σ H Q => td σ H fun x H1 => ∃ a, x = .ref a ∧ IsD H1 a ∧ ty σ H1 fun y H2 => tx σ H2 fun z H3 => ∃ kvs k, H3 a = some (.dK kvs) ∧ y = kV k ∧
  (∀ v, valV kvs k = some v → Q v (upd H3 a (.dK (dropK kvs k)))) ∧ (valV kvs k = none → Q z H3)
section
variable {X : Cx} {o e f : Expr} {apos cpos : Pos} {td ty tx : TE}
theorem pe_dget2 (hu : X.A.units + 1 < cLine) (ho : PE X o td) (he : PE X e ty) (hf : PE X f tx) (m : M2 X o "get" apos e f cpos) : PE X (.Call (.Attribute o "get" apos) [e, f] [] cpos) (tDGet2 td ty tx) := by
  intro pins s σ H Q I h
  refine wpAny_Call_method m.base m.few m.line PySem.F.plainAttrs_dict PySem.F.slot_dict_get PySem.F.type_dict_get (thn (ho pins s σ H _ I h) fun u s1 ⟨x, H1, I1, rx, a, ex, d, q1⟩ => ?_)
  subst ex
  obtain rfl : u = Value.ref a := rx
  obtain ⟨t1, t2, _⟩ := isD_at I1 d
  refine ⟨t1, t2, ?_⟩
  rw [m.trees]
  refine Calls.callWith_builtin rfl (Calls.evalArgs_plain (Calls.spliced_cons (thn (he pins s1 σ H1 _ I1 q1) fun iv s2 ⟨y, H2, I2, ry, q2⟩ =>
    Calls.spliced_cons (thn (hf pins s2 σ H2 _ I2 q2) fun fv s3 ⟨z, H3, I3, rz, ov, g, q3⟩ => Calls.spliced_nil ?_))))
  exact d_get2 hu I3 g ry rz fun w' s4 I4 rw' => ⟨_, H3, I4, rw', q3⟩
theorem pe_dpop1 (ho : PE X o td) (he : PE X e ty) (m : M1 X o "pop" apos e cpos) : PE X (.Call (.Attribute o "pop" apos) [e] [] cpos) (tDPop1 td ty) := by
  intro pins s σ H Q I h
  refine wpAny_Call_method m.base m.few m.line PySem.F.plainAttrs_dict PySem.F.slot_dict_pop PySem.F.type_dict_pop (thn (ho pins s σ H _ I h) fun u s1 ⟨x, H1, I1, rx, a, ex, d, q1⟩ => ?_)
  subst ex
  obtain rfl : u = Value.ref a := rx
  obtain ⟨t1, t2, _⟩ := isD_at I1 d
  refine ⟨t1, t2, ?_⟩
  rw [m.trees]
  refine Calls.callWith_builtin rfl (Calls.evalArgs_plain (Calls.spliced_cons (thn (he pins s1 σ H1 _ I1 q1) fun iv s2 ⟨y, H2, I2, ry, kvs, k, v, ea, ey, l, q2⟩ => Calls.spliced_nil ?_)))
  subst ey
  exact d_pop I2 ea ry l (.inl rfl) fun w' s3 I3 rw' => ⟨v, _, I3, rw', q2⟩
theorem pe_dpop2 (ho : PE X o td) (he : PE X e ty) (hf : PE X f tx) (m : M2 X o "pop" apos e f cpos) : PE X (.Call (.Attribute o "pop" apos) [e, f] [] cpos) (tDPop2 td ty tx) := by
  intro pins s σ H Q I h
  refine wpAny_Call_method m.base m.few m.line PySem.F.plainAttrs_dict PySem.F.slot_dict_pop PySem.F.type_dict_pop (thn (ho pins s σ H _ I h) fun u s1 ⟨x, H1, I1, rx, a, ex, d, q1⟩ => ?_)
  subst ex
  obtain rfl : u = Value.ref a := rx
  obtain ⟨t1, t2, _⟩ := isD_at I1 d
  refine ⟨t1, t2, ?_⟩
  rw [m.trees]
  refine Calls.callWith_builtin rfl (Calls.evalArgs_plain (Calls.spliced_cons (thn (he pins s1 σ H1 _ I1 q1) fun iv s2 ⟨y, H2, I2, ry, q2⟩ =>
    Calls.spliced_cons (thn (hf pins s2 σ H2 _ I2 q2) fun fv s3 ⟨z, H3, I3, rz, kvs, k, ea, ey, q3, q4⟩ => Calls.spliced_nil ?_))))
  subst ey
  cases l : valV kvs k with
  | some v => exact d_pop I3 ea ry l (.inr ⟨fv, rfl⟩) fun w' s4 I4 rw' => ⟨v, _, I4, rw', q3 v l⟩
  | none => exact d_popD I3 ea ry l fun s4 I4 => ⟨z, H3, I4, rz, q4 l⟩
end

/-! ### dict(d): a copy -/
section
variable {X : Cx} {pins : List (Addr × Obj)} {σ : St} {H : Hp} {s : Shared} {a : Addr} {kvs : List (Key × V)} {A : Around} {E : Value → Shared → Prop}
end


section
variable {X : Cx} {pins : List (Addr × Obj)} {σ : St} {H : Hp} {s : Shared} {a : Addr} {y : V} {u : Value} {A : Around} {E : Value → Shared → Prop}
end
end L2

namespace Att
open PySem PySem.W PySem.Calls PyProof.Rows

/-! ### the script -/
/-! ### the attachment: holds_open's last premise (the goal 'hc' behind k_head) from a wpAny of the law's body -/
/-! ### rules over ANY heap (no ledger) from facts about the written part K: the library's own take a ledger (News) for what they write -/
section
variable {prog : Program} {w : World} {A : Around} {E : Value → Shared → Prop} {s : Shared} {K : Frag}

/-! the whole heap as the ledger: makes every rule that writes through a ledger a rule over any heap -/
end
end Att

namespace L2
open PySem PySem.Spec PyProof.Rows

end L2

namespace L2
open PySem PySem.Spec PyProof.Rows

end L2


/-! SHORT WORDS over the layer: a def of the text, its body, what a loop and a test want. -/
namespace L2
open PySem PySem.Spec PyProof.Rows

/-! ### the text by places -/
/-! ### no exception leaves a def -/
/-! ### a def (or method) of the text as it stands behind the top -/
section
variable {P : Program} {w : World} {K : PySem.W.Frag} {mg : Str → Option Value} {base : Heap}
end
/-! ### expressions in short: the name that stands in the i-th slot -/
section
variable {X : Cx}
end

/-! ### tests -/
/-! ### heaps -/
/-! ### a dict's pairs: keys that differ -/
section
variable {κ : Type} [DecidableEq κ]
end
end L2
namespace L2
open PySem PySem.Spec PyProof.Rows
/-! ### for k in d: while it is walked the dict stands as the very one it is (its epoch too); thawed behind it -/
def dxO (P : Program) (w : World) (d : Addr) (vs : List (Key × Value)) (ep : Nat) : HO := .ext fun h => h.DictAt (mixKind P w) d vs ep
def DxOk (P : Program) (w : World) (d : Addr) (kvs : List (Key × V)) (u : HO) : Prop := kvs.length ≤ sizeLine ∧ (d == sysModules) = false ∧ ∃ vs ep, KV kvs vs ∧ u = dxO P w d vs ep
def Itd (d : Addr) (u : HO) (kvs : List (Key × V)) : It where
  go := fun i H => H d = some u ∧ i < kvs.length
  yld := fun i H x H' => H' = H ∧ ∃ k v, kvs[i]? = some (k, v) ∧ x = kV k
  stop := fun i H => H d = some u ∧ kvs.length ≤ i
theorem kV_rel {P : Program} {w : World} {k : Key} {u : Value} (h : (mixKind P w).is k u = true) : RelV (kV k) u := by
  rcases keyIs_shape (k := k) (v := u) h with ⟨i, t, rfl, rfl⟩ | ⟨x, t, rfl, rfl⟩
  · exact ⟨t, rfl⟩
  · exact ⟨t, rfl⟩
theorem kv_get {kvs : List (Key × V)} {vs : List (Key × Value)} (r : KV kvs vs) {i : Nat} {k : Key} {u : Value} (h : vs[i]? = some (k, u)) : ∃ v, kvs[i]? = some (k, v) := by
  induction r generalizing i with
  | nil => simp at h
  | @cons p q ps qs hp t ih =>
    cases i with
    | zero => simp at h; subst h; obtain ⟨a, b⟩ := p; exact ⟨b, by simp; exact hp.1⟩
    | succ i => simp at h; obtain ⟨v, e⟩ := ih h; exact ⟨v, by simpa using e⟩
theorem turn_dict {P : Program} {w : World} {K : PySem.W.Frag} {tg : Expr} {d it : Addr} {kvs : List (Key × V)} {vs : List (Key × Value)} {ep : Nat} (r : KV kvs vs) :
    Turn P w K tg (Itd d (dxO P w d vs ep) kvs) [it] it (fun i h => h.IsKeyIter it d i vs.length ep) where
  mem := by simp
  obj := fun i h st b hb => by
    have e : b = it := by simpa using hb
    subst e
    obtain ⟨o, e, c, dd⟩ := st
    exact ⟨o, e, fun v z => by rw [dd] at z; cases z⟩
  keep := fun i h h' st k => st.at fun o e => k it (by simp) o e
  item := by
    intro X hP hw hK hc i pins s σ H E I hf st hg
    subst hP hw hK
    obtain ⟨hd, hi⟩ := hg
    have hm : s.heap.DictAt (mixKind X.prog X.w) d vs ep := (show ObjOk X.prog X.w H s.heap d (dxO X.prog X.w d vs ep) from I.hok d _ hd).1
    have l := r.length
    obtain ⟨⟨k, v⟩, hx⟩ : ∃ p, vs[i]? = some p := ⟨vs[i]'(by omega), by simp [show i < vs.length by omega]⟩
    obtain ⟨v', hv'⟩ := kv_get r hx
    obtain ⟨f0, f1, f2, f3, f4, f5⟩ := hf it (by simp)
    refine wpAny_pyNext_dict_item st hm hx fun key h' hkey st' sb => ?_
    have I1 : Inv X pins σ H { s with heap := h' } := I.turned (t' := s.toks) (fun b o hb e => sb.extBut b o hb e) f0 f1 f3 f4 f5
    obtain ⟨o, e, c, dd⟩ := id st'
    exact ⟨key, rfl, go_of (s := { s with heap := h' }) e c dd (by decide) ⟨kV k, H, I1, kV_rel hkey, ⟨rfl, k, v', hv', rfl⟩, st', fun b hb => (hf b hb).1⟩⟩
  done := by
    intro X hP hw hK hc i pins s σ H E I hf st hg
    subst hP hw hK
    obtain ⟨hd, hi⟩ := hg
    have hm : s.heap.DictAt (mixKind X.prog X.w) d vs ep := (show ObjOk X.prog X.w H s.heap d (dxO X.prog X.w d vs ep) from I.hok d _ hd).1
    have l := r.length
    obtain ⟨f0, f1, f2, f3, f4, f5⟩ := hf it (by simp)
    exact wpAny_pyNext_dict_end (I.ok.hd hc) st hm (by simp; omega) fun h' eb => ⟨rfl, I.turned (t' := s.toks) (fun b o hb e => eb b o hb e) f0 f1 f3 f4 f5⟩
  self := fun _ _ _ _ _ st h => wpAny_pyIter_keyiter st h
section
variable {X : Cx}
/-- as the very one it is -/
theorem Inv.freeze {pins : List (Addr × Obj)} {σ : St} {H : Hp} {s : Shared} {d : Addr} {kvs : List (Key × V)} (I : Inv X pins σ H s) (hd : H d = some (.dK kvs)) :
    ∃ vs ep, KV kvs vs ∧ kvs.length ≤ sizeLine ∧ (d == sysModules) = false ∧ s.heap.DictAt (mixKind X.prog X.w) d vs ep ∧ Inv X pins σ (upd H d (dxO X.prog X.w d vs ep)) s := by
  obtain ⟨z, hs, vs, rel, o, es, ep, ho, r⟩ := (show ObjOk X.prog X.w H s.heap d (.dK kvs) from I.hok d _ hd)
  have hm : s.heap.DictAt (mixKind X.prog X.w) d vs ep := ⟨o, es, ho, r⟩
  refine ⟨vs, ep, rel, z, hs, hm, ?_⟩
  exact I.write (x := d) (e := d) (h' := s.heap) (t' := s.toks) (by rw [hd]; exact True.intro) (.inl rfl) (fun _ _ _ q => q) ⟨o, ho⟩ ⟨hm, ⟨o, ho⟩, fun h1 h2 x k => x.at' k⟩
theorem Inv.thaw {pins : List (Addr × Obj)} {σ : St} {H : Hp} {s : Shared} {d : Addr} {kvs : List (Key × V)} {u : HO} (I : Inv X pins σ H s) (ok : DxOk X.prog X.w d kvs u) (hd : H d = some u) : Inv X pins σ (upd H d (.dK kvs)) s := by
  obtain ⟨z, hs, vs, ep, rel, rfl⟩ := ok
  have hm : s.heap.DictAt (mixKind X.prog X.w) d vs ep := (show ObjOk X.prog X.w H s.heap d (dxO X.prog X.w d vs ep) from I.hok d _ hd).1
  obtain ⟨o, es, ho, r⟩ := id hm
  exact I.write (x := d) (e := d) (h' := s.heap) (t' := s.toks) (by rw [hd]; exact True.intro) (.inl rfl) (fun _ _ _ q => q) ⟨o, ho⟩ ⟨z, hs, vs, rel, hm.dictOf⟩
def iDict (P : Program) (w : World) (td : TE) : TI := fun σ H R => td σ H fun x H1 => ∃ d kvs, x = .ref d ∧ H1 d = some (.dK kvs) ∧ ∀ u, DxOk P w d kvs u → R (Itd d u kvs) (upd H1 d u)
theorem pi_dictK (P : Program) (w : World) {tg l : Expr} {td : TE} (hl : PE X l td) (hP : X.prog = P := by rfl) (hw : X.w = w := by rfl) : PI X tg l (iDict P w td) := by
  subst hP hw
  intro pins s σ H R I h
  refine thn (hl pins s σ H _ I h) fun v s1 ⟨x, H1, I1, r1, q1⟩ => ?_
  obtain ⟨d, kvs, rfl, hd, q⟩ := q1
  cases r1
  obtain ⟨vs, ep, rel, z, hs, hm, I2⟩ := I1.freeze hd
  refine wpAny_pyIter_dict hs hm ?_
  refine ⟨s1.heap.objs.size, [s1.heap.objs.size], _, _, _, rfl, I2.kept (t' := s1.toks) fun b o e => Heap.get?_push_of_some _ e, turn_dict rel, ⟨_, Heap.get?_push_size _ rfl, rfl, rfl⟩, fun b hb => ?_, q _ ⟨z, hs, vs, ep, rel, rfl⟩⟩
  have e : b = s1.heap.objs.size := by simpa using hb
  subst e
  exact I2.fpOk (Nat.le_refl _) (I2.hok.fresh (Nat.le_refl _))
end
section
variable {g : TG} {tt : TT} {te : TE} {D : Addr} {σ : St} {H : Hp} {Q : VK}
theorem lc_dict {d : Addr} {u : HO} {kvs : List (Key × V)} (Pv : Nat → St → Hp → Prop) (h0 : Pv 0 σ H) (hl : ∀ i σ H, i ≤ kvs.length → Pv i σ H → H d = some u)
    (hs : ∀ (i : Nat) (k : Key) (v : V) (σ : St) (H : Hp) (N : St → Hp → Prop), (∀ σ H, Pv (i + 1) σ H → N σ H) → kvs[i]? = some (k, v) → Pv i σ H → g (kV k) σ H fun σ3 H3 => tt σ3 H3 fun b H4 =>
      if b = true then te σ3 H4 fun v H5 => ∃ ys, H5 D = some (.lst ys) ∧ ys.length < sizeLine ∧ N σ3 (upd H5 D (.lst (ys ++ [v]))) else N σ3 H4)
    (hd : ∀ σ H, Pv kvs.length σ H → Q (.ref D) H) : lcRun (Itd d u kvs) g tt te D σ H Q := by
  refine ⟨fun i m σ H => m = kvs.length - i ∧ i ≤ kvs.length ∧ Pv i σ H, ⟨kvs.length, by simp, Nat.zero_le _, h0⟩, ?_⟩
  rintro i m σ' H' ⟨rfl, hi, p⟩
  have q1 := hl i σ' H' hi p
  by_cases hlt : i < kvs.length
  · refine .inr ⟨⟨q1, hlt⟩, fun x H2 y => ?_⟩
    obtain ⟨rfl, k, v, ex, rfl⟩ := y
    exact hs i k v σ' _ (fun σ3 H3 => ∃ m', m' < kvs.length - i ∧ m' = kvs.length - (i + 1) ∧ i + 1 ≤ kvs.length ∧ Pv (i + 1) σ3 H3) (fun σ3 H3 z => ⟨kvs.length - (i + 1), by omega, rfl, hlt, z⟩) ex p
  · have e : i = kvs.length := by omega
    subst e
    exact .inl ⟨⟨q1, Nat.le_refl _⟩, hd σ' H' p⟩
end
end L2
namespace L2
open PySem PySem.Spec PyProof.Rows
/-! ### d.setdefault(k, x); d.values(), d.items() walked; the dict thawed behind a walk -/
theorem kv_get2 {kvs : List (Key × V)} {vs : List (Key × Value)} (r : KV kvs vs) {i : Nat} {k : Key} {u : Value} (h : vs[i]? = some (k, u)) : ∃ v, kvs[i]? = some (k, v) ∧ RelV v u := by
  induction r generalizing i with
  | nil => simp at h
  | @cons p q ps qs hp t ih =>
    cases i with
    | zero => simp at h; subst h; obtain ⟨a, b⟩ := p; exact ⟨b, by simp; exact hp.1, hp.2⟩
    | succ i => simp at h; obtain ⟨v, e, rv⟩ := ih h; exact ⟨v, by simpa using e, rv⟩
def ItdV (d : Addr) (u : HO) (kvs : List (Key × V)) : It where
  go := fun i H => H d = some u ∧ i < kvs.length
  yld := fun i H x H' => H' = H ∧ ∃ k, kvs[i]? = some (k, x)
  stop := fun i H => H d = some u ∧ kvs.length ≤ i
def ItdI (d : Addr) (u : HO) (kvs : List (Key × V)) : It where
  go := fun i H => H d = some u ∧ i < kvs.length
  yld := fun i H x H' => ∃ p k v, H p = none ∧ x = .ref p ∧ kvs[i]? = some (k, v) ∧ H' = upd H p (.tup [kV k, v])
  stop := fun i H => H d = some u ∧ kvs.length ≤ i
theorem turn_vals {P : Program} {w : World} {K : PySem.W.Frag} {tg : Expr} {d it : Addr} {kvs : List (Key × V)} {vs : List (Key × Value)} {ep : Nat} (r : KV kvs vs) :
    Turn P w K tg (ItdV d (dxO P w d vs ep) kvs) [it] it (fun i h => h.IsValIter it d i vs.length ep) where
  mem := by simp
  obj := fun i h st b hb => by
    have e : b = it := by simpa using hb
    subst e
    obtain ⟨o, e, c, dd⟩ := st
    exact ⟨o, e, fun v z => by rw [dd] at z; cases z⟩
  keep := fun i h h' st k => st.at fun o e => k it (by simp) o e
  item := by
    intro X hP hw hK hc i pins s σ H E I hf st hg
    subst hP hw hK
    obtain ⟨hd, hi⟩ := hg
    have hm : s.heap.DictAt (mixKind X.prog X.w) d vs ep := (show ObjOk X.prog X.w H s.heap d (dxO X.prog X.w d vs ep) from I.hok d _ hd).1
    have l := r.length
    obtain ⟨⟨k, v⟩, hx⟩ : ∃ p, vs[i]? = some p := ⟨vs[i]'(by omega), by simp [show i < vs.length by omega]⟩
    obtain ⟨v', hv', rv⟩ := kv_get2 r hx
    obtain ⟨f0, f1, f2, f3, f4, f5⟩ := hf it (by simp)
    refine wpAny_pyNext_values_item st hm hx fun h' st' sb => ?_
    have I1 : Inv X pins σ H { s with heap := h' } := I.turned (t' := s.toks) (fun b o hb e => sb.extBut b o hb e) f0 f1 f3 f4 f5
    obtain ⟨o, e, c, dd⟩ := id st'
    exact ⟨v, rfl, go_of (s := { s with heap := h' }) e c dd (by decide) ⟨v', H, I1, rv, ⟨rfl, k, hv'⟩, st', fun b hb => (hf b hb).1⟩⟩
  done := by
    intro X hP hw hK hc i pins s σ H E I hf st hg
    subst hP hw hK
    obtain ⟨hd, hi⟩ := hg
    have hm : s.heap.DictAt (mixKind X.prog X.w) d vs ep := (show ObjOk X.prog X.w H s.heap d (dxO X.prog X.w d vs ep) from I.hok d _ hd).1
    have l := r.length
    obtain ⟨f0, f1, f2, f3, f4, f5⟩ := hf it (by simp)
    exact wpAny_pyNext_values_end (I.ok.hd hc) st hm (by simp; omega) fun h' eb => ⟨rfl, I.turned (t' := s.toks) (fun b o hb e => eb b o hb e) f0 f1 f3 f4 f5⟩
  self := fun _ _ _ _ _ st h => wpAny_pyIter_valiter st h
theorem entry_items_iter : entryFor table "dict_itemiterator.__iter__" = some Builtin.«dict_keyiterator.__iter__» :=
  entryFor_alias (id' := "dict_keyiterator.__iter__") (by kernel_rfl) rfl (by decide +kernel) (by kernel_rfl)
theorem iter_items_self {prog : Program} {w : World} {A : Around} {E : Value → Shared → Prop} {s : Shared} {it d : Addr} {i n ep : Nat} {ok ov : Value} {Q : Value → Shared → Prop} (hit : IsItemIter s.heap it d i n ep ok ov) (h : Q (.ref it) s) : wpAny (model prog w) A (pyIter (.ref it)) Q E s := by
  have hT : s.TypeIs (.ref it) "dict_itemiterator" := ⟨_, hit, rfl⟩
  refine wpAny_pyIter_slot hT F.slot_dict_itemiterator_iter (wpAny_call_entry F.slot_dict_itemiterator_iter hT entry_items_iter ?_ (F.args_dict_itemiterator_iter_1 _))
  show wpAny _ _ (ret (.ref it)) _ _ s
  exact wpAny_pure ⟨_, rfl, "dict_itemiterator", _, hT, F.slot_dict_itemiterator_next.lookup, h⟩
theorem turn_items {P : Program} {w : World} {K : PySem.W.Frag} {elts : List Expr} {x1 : Nat} {pos : Pos} {d it : Addr} {kvs : List (Key × V)} {vs : List (Key × Value)} {ep : Nat} (r : KV kvs vs) :
    Turn P w K (.Tuple elts x1 pos) (ItdI d (dxO P w d vs ep) kvs) [it] it (fun i h => ∃ ok ov, IsItemIter h it d i vs.length ep ok ov) where
  mem := by simp
  obj := fun i h st b hb => by
    have e : b = it := by simpa using hb
    subst e
    obtain ⟨ok, ov, e⟩ := st
    exact ⟨_, e, fun v z => by cases z⟩
  keep := fun i h h' ⟨ok, ov, st⟩ k => ⟨ok, ov, k it (by simp) _ st⟩
  item := by
    intro X hP hw hK hc i pins s σ H E I hf st hg
    subst hP hw hK
    obtain ⟨ok, ov, he⟩ := st
    obtain ⟨hd, hi⟩ := hg
    have hm : s.heap.DictAt (mixKind X.prog X.w) d vs ep := (show ObjOk X.prog X.w H s.heap d (dxO X.prog X.w d vs ep) from I.hok d _ hd).1
    have l := r.length
    obtain ⟨⟨k, v⟩, hx⟩ : ∃ p, vs[i]? = some p := ⟨vs[i]'(by omega), by simp [show i < vs.length by omega]⟩
    obtain ⟨v', hv', rv⟩ := kv_get2 r hx
    refine wpAny_pyNext_items_item he hm hx fun key h' hkey ho hT hsz hk => ⟨_, rfl, ?_⟩
    refine wpAny_letOwnedTupleGo_items ho fun h2' he' hs' => ?_
    have lt : ∀ {c o}, s.heap.get? c = some o → s.heap.objs.size ≠ c := fun q => Nat.ne_of_gt (Heap.lt_size q)
    have k2 : ∀ c o, c ∉ [it] → s.heap.get? c = some o → h2'.get? c = some o := fun c o hc q => by
      have hc' : c ≠ it := by simpa using hc
      exact hs'.extBut _ _ hc' (hk c o hc' q)
    have tup : ObjOk X.prog X.w (upd H s.heap.objs.size (.tup [kV k, v'])) h2' s.heap.objs.size (.tup [kV k, v']) :=
      ⟨by show 2 ≤ sizeLine; decide, [key, v], .cons (kV_rel hkey) (.cons rv .nil), ⟨_, hs'.extBut _ _ (lt he) hT, rfl, _, rfl⟩⟩
    have hn := I.hok.fresh (Nat.le_refl s.heap.objs.size)
    refine ⟨.ref s.heap.objs.size, _, I.turnedNew (t' := s.toks) k2 hf (Nat.le_refl _) tup, rfl, ⟨_, k, v', hn, rfl, hv', rfl⟩, ⟨_, _, he'⟩, fun c hc => ?_⟩
    have hcn : c ≠ s.heap.objs.size := by
      have hc' : c = it := by simpa using hc
      rw [hc']
      exact (lt he).symm
    rw [upd_ne hcn]
    exact (hf c hc).1
  done := by
    intro X hP hw hK hc i pins s σ H E I hf st hg
    subst hP hw hK
    obtain ⟨ok, ov, he⟩ := st
    obtain ⟨hd, hi⟩ := hg
    have hm : s.heap.DictAt (mixKind X.prog X.w) d vs ep := (show ObjOk X.prog X.w H s.heap d (dxO X.prog X.w d vs ep) from I.hok d _ hd).1
    have l := r.length
    obtain ⟨f0, f1, f2, f3, f4, f5⟩ := hf it (by simp)
    exact wpAny_pyNext_items_end (I.ok.hd hc) he hm (by simp; omega) fun h' eb => ⟨rfl, I.turned (t' := s.toks) (fun b o hb e => eb b o hb e) f0 f1 f3 f4 f5⟩
  self := fun _ _ _ _ _ ⟨_, _, st⟩ h => iter_items_self st h
section
variable {X : Cx}
def iVals (P : Program) (w : World) (td : TE) : TI := fun σ H R => td σ H fun x H1 => ∃ d kvs, x = .ref d ∧ H1 d = some (.dK kvs) ∧ ∀ u, DxOk P w d kvs u → R (ItdV d u kvs) (upd H1 d u)
theorem pi_valuesK (P : Program) (w : World) {tg o : Expr} {td : TE} {apos cpos : Pos} (ho : PE X o td) (hP : X.prog = P := by rfl) (hw : X.w = w := by rfl) (hbase : attributeBase o "values" X.env (eval o X.env) = eval o X.env := by rfl) (hline : (apos.endLine == cpos.line) = true := by rfl) :
    PI X tg (.Call (.Attribute o "values" apos) [] [] cpos) (iVals P w td) := by
  subst hP hw
  intro pins s σ H R I h
  refine wpAny_Call_method0_late hbase hline (thn (ho pins s σ H _ I h) fun v s1 ⟨x, H1, I1, r1, q1⟩ => ?_)
  obtain ⟨d, kvs, rfl, hd, q⟩ := q1
  cases r1
  obtain ⟨vs, ep, rel, z, hs, hm, I2⟩ := I1.freeze hd
  have dd := hm.dictOf
  obtain ⟨t1, t2, _⟩ := isD_at I1 (.inl ⟨kvs, .inl hd⟩)
  refine ⟨"dict", "dict.values", PySem.F.plainAttrs_dict, PySem.F.slot_dict_values, PySem.F.type_dict_values, t1, t2, Calls.callWith_builtin rfl (PySem.evalArgs_none ?_)⟩
  refine call_meetsIn PySem.F.slot_dict_values dd.typeIs PySem.F.entry_dict_values (PySem.F.args_dict_values_1 _) (meets_dict_values (mixKind X.prog X.w) d hs) ⟨⟨vs, dd⟩, ?_⟩
  have I3 := I2.kept (t' := s1.toks) (h' := s1.heap.push { cls := .type "dict_values", data := .fields #[.ref d] }) fun b o e => Heap.get?_push_of_some _ e
  refine wpAny_pyIter_values (d := d) (kvs := vs) (ep := ep) (knd := mixKind X.prog X.w) ⟨_, Heap.get?_push_size _ rfl, rfl, rfl⟩ (hm.at' fun o e => Heap.get?_push_of_some _ e) ?_
  refine ⟨_, [_], _, _, _, rfl, I3.kept (t' := s1.toks) fun b o e => Heap.get?_push_of_some _ e, turn_vals rel, ⟨_, Heap.get?_push_size _ rfl, rfl, rfl⟩, fun b hb => ?_, q _ ⟨z, hs, vs, ep, rel, rfl⟩⟩
  obtain rfl := List.mem_singleton.mp hb
  exact I3.fpOk (Nat.le_refl _) (I3.hok.fresh (Nat.le_refl _))
def iItems (P : Program) (w : World) (td : TE) : TI := fun σ H R => td σ H fun x H1 => ∃ d kvs, x = .ref d ∧ H1 d = some (.dK kvs) ∧ ∀ u, DxOk P w d kvs u → R (ItdI d u kvs) (upd H1 d u)
theorem pi_itemsK (P : Program) (w : World) {elts : List Expr} {x1 : Nat} {tpos : Pos} {o : Expr} {td : TE} {apos cpos : Pos} (ho : PE X o td) (hP : X.prog = P := by rfl) (hw : X.w = w := by rfl) (hbase : attributeBase o "items" X.env (eval o X.env) = eval o X.env := by rfl) (hline : (apos.endLine == cpos.line) = true := by rfl) :
    PI X (.Tuple elts x1 tpos) (.Call (.Attribute o "items" apos) [] [] cpos) (iItems P w td) := by
  subst hP hw
  intro pins s σ H R I h
  refine wpAny_Call_method0_late hbase hline (thn (ho pins s σ H _ I h) fun v s1 ⟨x, H1, I1, r1, q1⟩ => ?_)
  obtain ⟨d, kvs, rfl, hd, q⟩ := q1
  cases r1
  obtain ⟨vs, ep, rel, z, hs, hm, I2⟩ := I1.freeze hd
  have dd := hm.dictOf
  obtain ⟨t1, t2, _⟩ := isD_at I1 (.inl ⟨kvs, .inl hd⟩)
  refine ⟨"dict", "dict.items", PySem.F.plainAttrs_dict, PySem.F.slot_dict_items, PySem.F.type_dict_items, t1, t2, Calls.callWith_builtin rfl (PySem.evalArgs_none ?_)⟩
  refine call_meetsIn PySem.F.slot_dict_items dd.typeIs PySem.F.entry_dict_items (PySem.F.args_dict_items_1 _) (meets_dict_items (mixKind X.prog X.w) d hs) ⟨⟨vs, dd⟩, ?_⟩
  have I3 := I2.kept (t' := s1.toks) (h' := s1.heap.push { cls := .type "dict_items", data := .fields #[.ref d] }) fun b o e => Heap.get?_push_of_some _ e
  refine wpAny_pyIter_items (d := d) (kvs := vs) (ep := ep) (knd := mixKind X.prog X.w) ⟨_, Heap.get?_push_size _ rfl, rfl, rfl⟩ (hm.at' fun o e => Heap.get?_push_of_some _ e) ?_
  refine ⟨_, [_], _, _, _, rfl, I3.kept (t' := s1.toks) fun b o e => Heap.get?_push_of_some _ e, turn_items rel, ⟨_, _, Heap.get?_push_size _ rfl⟩, fun b hb => ?_, q _ ⟨z, hs, vs, ep, rel, rfl⟩⟩
  obtain rfl := List.mem_singleton.mp hb
  exact I3.fpOk (Nat.le_refl _) (I3.hok.fresh (Nat.le_refl _))
/-- a value, the dict that was walked thawed -/
def tThaw (P : Program) (w : World) (t : TE) : TE := fun σ H Q => t σ H fun x H1 => ∃ d kvs u, DxOk P w d kvs u ∧ H1 d = some u ∧ Q x (upd H1 d (.dK kvs))
theorem pe_thaw (P : Program) (w : World) {e : Expr} {t : TE} (h : PE X e t) (hP : X.prog = P := by rfl) (hw : X.w = w := by rfl) : PE X e (tThaw P w t) := by
  subst hP hw
  intro pins s σ H Q I q
  exact thn (h pins s σ H _ I q) fun v s1 ⟨x, H1, I1, r1, d, kvs, u, ok, hd, q1⟩ => ⟨x, _, I1.thaw ok hd, r1, q1⟩
/-- a statement, the dict that was walked thawed behind it -/
def sThaw (P : Program) (w : World) (t : TS) : TS := fun D σ H => t { D with nx := fun σ' H' => ∃ d kvs u, DxOk P w d kvs u ∧ H' d = some u ∧ D.nx σ' (upd H' d (.dK kvs)) } σ H
theorem ps_thaw (P : Program) (w : World) {st : Stmt} {t : TS} (h : PS X st t) (hP : X.prog = P := by rfl) (hw : X.w = w := by rfl) : PS X st (sThaw P w t) := by
  subst hP hw
  intro pins s σ H D I q
  refine wpAny_mono (h pins s σ H _ I q) (fun f s' q => ?_) fun _ _ z => z
  cases f with
  | next => obtain ⟨σ', H', I', d, kvs, u, ok, hd, q⟩ := q; exact ⟨σ', _, I'.thaw ok hd, q⟩
  | brk => exact q
  | cont => exact q
  | ret u => exact q
/-- d.setdefault(k, x) -/
def tDSet (td ty tx : TE) : TE := fun σ H Q => td σ H fun x H1 => ∃ a, x = .ref a ∧ IsD H1 a ∧ ty σ H1 fun y H2 => tx σ H2 fun z H3 => ∃ kvs k, H3 a = some (.dK kvs) ∧ y = kV k ∧ kvs.length < sizeLine ∧
  (∀ v, valV kvs k = some v → Q v H3) ∧ (valV kvs k = none → Q z (upd H3 a (.dK (putK kvs k z))))
theorem pe_dsetd {o e f : Expr} {apos cpos : Pos} {td ty tx : TE} (ho : PE X o td) (he : PE X e ty) (hf : PE X f tx) (m : M2 X o "setdefault" apos e f cpos) : PE X (.Call (.Attribute o "setdefault" apos) [e, f] [] cpos) (tDSet td ty tx) := by
  intro pins s σ H Q I h
  refine wpAny_Call_method m.base m.few m.line PySem.F.plainAttrs_dict PySem.F.slot_dict_setdefault PySem.F.type_dict_setdefault (thn (ho pins s σ H _ I h) fun u s1 ⟨x, H1, I1, rx, a, ex, d, q1⟩ => ?_)
  subst ex
  obtain rfl : u = Value.ref a := rx
  obtain ⟨t1, t2, _⟩ := isD_at I1 d
  refine ⟨t1, t2, ?_⟩
  rw [m.trees]
  refine Calls.callWith_builtin rfl (Calls.evalArgs_plain (Calls.spliced_cons (thn (he pins s1 σ H1 _ I1 q1) fun iv s2 ⟨y, H2, I2, ry, q2⟩ =>
    Calls.spliced_cons (thn (hf pins s2 σ H2 _ I2 q2) fun fv s3 ⟨z, H3, I3, rz, kvs, k, ea, ey, hl, q3, q4⟩ => Calls.spliced_nil ?_))))
  subst ey
  obtain ⟨z0, hd, vs, rel, dd⟩ := dk_of I3.hok ea
  refine call_meetsIn PySem.F.slot_dict_setdefault dd.typeIs PySem.F.entry_dict_setdefault (PySem.F.args_dict_setdefault_3 _ _ _) (kt_meets_setdefault (mixKind X.prog X.w) a (kV_is ry) hd fv) ⟨vs, dd, by rw [← rel.length]; exact z0, fun v hv => ?_, fun hn h' dd' hs => ?_⟩
  · have rv := rel.val k
    rw [hv] at rv
    cases e : valV kvs k with
    | none => rw [e] at rv; exact rv.elim
    | some v' => rw [e] at rv; exact ⟨v', H3, I3.tok _, rv, q3 v' e⟩
  · have rv := rel.val k
    rw [hn] at rv
    cases e : valV kvs k with
    | some v' => rw [e] at rv; exact rv.elim
    | none =>
      have he : ∃ q, h'.get? a = some q := let ⟨q, _, _, hq, _⟩ := dd'; ⟨q, hq⟩
      exact ⟨z, _, d_write (t' := s3.toks + 1) I3 (by rw [ea]; exact True.intro) hs he (dk_new (Nat.le_trans (length_putK _ _ _) (by omega)) hd (rel.put k rz) dd'), rz, q4 e⟩
end
section
variable {g : TG} {tt : TT} {te : TE} {D : Addr} {σ : St} {H : Hp} {Q : VK}
theorem lc_vals {d : Addr} {u : HO} {kvs : List (Key × V)} (Pv : Nat → St → Hp → Prop) (h0 : Pv 0 σ H) (hl : ∀ i σ H, i ≤ kvs.length → Pv i σ H → H d = some u)
    (hs : ∀ (i : Nat) (k : Key) (x : V) (σ : St) (H : Hp) (N : St → Hp → Prop), (∀ σ H, Pv (i + 1) σ H → N σ H) → kvs[i]? = some (k, x) → Pv i σ H → g x σ H fun σ3 H3 => tt σ3 H3 fun b H4 =>
      if b = true then te σ3 H4 fun v H5 => ∃ ys, H5 D = some (.lst ys) ∧ ys.length < sizeLine ∧ N σ3 (upd H5 D (.lst (ys ++ [v]))) else N σ3 H4)
    (hd : ∀ σ H, Pv kvs.length σ H → Q (.ref D) H) : lcRun (ItdV d u kvs) g tt te D σ H Q := by
  refine ⟨fun i m σ H => m = kvs.length - i ∧ i ≤ kvs.length ∧ Pv i σ H, ⟨kvs.length, by simp, Nat.zero_le _, h0⟩, ?_⟩
  rintro i m σ' H' ⟨rfl, hi, p⟩
  have q1 := hl i σ' H' hi p
  by_cases hlt : i < kvs.length
  · refine .inr ⟨⟨q1, hlt⟩, fun x H2 y => ?_⟩
    obtain ⟨rfl, k, ex⟩ := y
    exact hs i k x σ' _ (fun σ3 H3 => ∃ m', m' < kvs.length - i ∧ m' = kvs.length - (i + 1) ∧ i + 1 ≤ kvs.length ∧ Pv (i + 1) σ3 H3) (fun σ3 H3 z => ⟨kvs.length - (i + 1), by omega, rfl, hlt, z⟩) ex p
  · have e : i = kvs.length := by omega
    subst e
    exact .inl ⟨⟨q1, Nat.le_refl _⟩, hd σ' H' p⟩
theorem lc_items {d : Addr} {u : HO} {kvs : List (Key × V)} (Pv : Nat → St → Hp → Prop) (h0 : Pv 0 σ H) (hl : ∀ i σ H, i ≤ kvs.length → Pv i σ H → H d = some u)
    (hs : ∀ (i : Nat) (k : Key) (v : V) (p : Addr) (σ : St) (H : Hp) (N : St → Hp → Prop), (∀ σ H, Pv (i + 1) σ H → N σ H) → kvs[i]? = some (k, v) → Pv i σ H → H p = none → g (.ref p) σ (upd H p (.tup [kV k, v])) fun σ3 H3 => tt σ3 H3 fun b H4 =>
      if b = true then te σ3 H4 fun v H5 => ∃ ys, H5 D = some (.lst ys) ∧ ys.length < sizeLine ∧ N σ3 (upd H5 D (.lst (ys ++ [v]))) else N σ3 H4)
    (hd : ∀ σ H, Pv kvs.length σ H → Q (.ref D) H) : lcRun (ItdI d u kvs) g tt te D σ H Q := by
  refine ⟨fun i m σ H => m = kvs.length - i ∧ i ≤ kvs.length ∧ Pv i σ H, ⟨kvs.length, by simp, Nat.zero_le _, h0⟩, ?_⟩
  rintro i m σ' H' ⟨rfl, hi, p⟩
  have q1 := hl i σ' H' hi p
  by_cases hlt : i < kvs.length
  · refine .inr ⟨⟨q1, hlt⟩, fun x H2 y => ?_⟩
    obtain ⟨pp, k, v, hn, rfl, ex, rfl⟩ := y
    exact hs i k v pp σ' _ (fun σ3 H3 => ∃ m', m' < kvs.length - i ∧ m' = kvs.length - (i + 1) ∧ i + 1 ≤ kvs.length ∧ Pv (i + 1) σ3 H3) (fun σ3 H3 z => ⟨kvs.length - (i + 1), by omega, rfl, hlt, z⟩) ex p hn
  · have e : i = kvs.length := by omega
    subst e
    exact .inl ⟨⟨q1, Nat.le_refl _⟩, hd σ' H' p⟩
end
section
variable {X : Cx} {o e value : Expr} {f : Str} {pos pos' : Pos} {ta tv : TE}
theorem pe_fldK (K : PySem.W.Frag) (he : PE X e ta) (hb : attributeBase e f X.env (eval e X.env) = eval e X.env) (hK : X.K = K := by rfl) : PE X (.Attribute e f pos) (tFld K ta f) := by subst hK; exact pe_fld he hb
theorem ps_fldK (K : PySem.W.Frag) (ha : PE X o ta) (hv : PE X value tv) (hs : swapsWith value (some (.Attribute o f pos')) pos.line X.env = pure false) (hK : X.K = K := by rfl) : PS X (.Assign [.Attribute o f pos'] value pos) (sFld K ta tv f) := by subst hK; exact ps_fld ha hv hs
end
end L2
namespace L2
open PySem PySem.Spec PyProof.Rows
/-! ### a tuple times an int, two or more -/
theorem fold_rep (items : Array Value) (m : Nat) : List.foldl (fun x1 x2 => x1 ++ x2) #[] (List.replicate m items) = (List.replicate m items.toList).flatten.toArray := by
  have := foldl_rep items.toList m []
  rw [List.nil_append] at this
  exact this
theorem tuple_mulW (l : Addr) (items : Array Value) (n : Nat) (dd : Option Addr) (sl : Array (Option Value)) (x : Int) (u : Tok) (k2 : 2 ≤ x) (kb : x < 1000) (hne : items.isEmpty = false) (hs : items.size ≤ 1000) :
    Meets (Builtin.«tuple.__mul__» ⟨[.ref l, .int x u], []⟩) (fun _ R s => s.heap.get? l = some { cls := .type "tuple", dict := dd, data := .seq items n, slots := sl } ∧ R (.ok (.ret (Value.ref s.heap.objs.size))) { s with heap := s.heap.push { cls := Value.type "tuple", data := Data.seq (List.foldl (fun x1 x2 => x1 ++ x2) #[] (List.replicate x.toNat items)) }, toks := s.toks }) :=
  .of_wp fun prog w A R s h => by
    obtain ⟨hp, g, d, tk, os⟩ := s; obtain ⟨hl, h⟩ := h
    have f1 := AutoSeq1.idx_int
    have f2 := AutoSeq1.sub_tuple_tuple
    have hm : (items.size : Int) * x ≤ 1000000 := by
      have h1 : (items.size : Int) * x ≤ 1000 * x := Int.mul_le_mul_of_nonneg_right (by omega) (by omega)
      omega
    have hsl : (1000000 : Int) ≤ (sizeLine : Int) := by decide
    wp_walk using wpAny_loadPart' hl
    refine wpAny_ite_false (decide_eq_false (by
      have a1 : ¬ x < -2 ^ 63 := by omega
      have a2 : ¬ x ≥ 2 ^ 63 := by omega
      rw [decide_eq_false a1, decide_eq_false a2]; decide)) ?_
    wp_walk using wpAny_loadPart' hl
    refine wpAny_ite_false (decide_eq_false (by
      have a1 : (x == 1) = false := by rw [beq_eq_false_iff_ne]; omega
      rw [hne, a1]; decide)) ?_
    wp_walk using wpAny_loadPart' hl
    refine wpAny_ite_false (decide_eq_false (by
      have a1 : ¬ x ≤ 0 := by omega
      rw [decide_eq_false a1, hne]; decide)) ?_
    wp_walk using wpAny_loadPart' hl
    refine wpAny_ite_false (decide_eq_false (by omega)) ?_
    wp_walk using wpAny_loadPart' hl
    refine wpAny_ite_false (decide_eq_false (by
      unfold Builtin.Tuple.tupleTooMany
      have a1 : ¬ (items.size : Int) * x > (sizeLine : Int) := by omega
      rw [decide_eq_false a1]; decide)) ?_
    wp_walk using wpAny_loadPart' hl
    refine wpAny_ite_false (decide_eq_false (by rw [fold_rep, List.size_toArray, len_rep, Array.length_toList]; have : x.toNat * items.size ≤ 1000000 := by
                                                  have h1 : ((x.toNat * items.size : Nat) : Int) = (items.size : Int) * x := by rw [Int.natCast_mul, Int.toNat_of_nonneg (by omega), Int.mul_comm]
                                                  omega
                                                omega)) ?_
    wp_walk
    exact ⟨_, rfl, h⟩
theorem noFill_tuple_mul : fillsNumberSlot (.type "tuple") "mul" = pure false :=
  PySem.fillsNumberSlot_seq (id := "tuple.__mul__") (r := some (.builtin "tuple.__rmul__")) PySem.F.slot_tuple_mul.lookup (by decide +kernel) PySem.F.slot_tuple_rmul.lookup (by decide +kernel)
theorem repeat_tuple : seqRepeat? (.type "tuple") = pure (some (.builtin "tuple.__mul__")) := by
  unfold seqRepeat?
  rw [PySem.seqSlot_of (T := "tuple") (name := "__mul__") (id := "tuple.__mul__") PySem.F.slot_tuple_mul.lookup (by decide +kernel), PySem.seqSlot_of (T := "tuple") (name := "__rmul__") (id := "tuple.__rmul__") PySem.F.slot_tuple_rmul.lookup (by decide +kernel)]
  rfl
theorem int_rmul_tuple (a : Int) (t : Tok) (l : Addr) (items : Array Value) (n : Nat) (dd : Option Addr) (sl : Array (Option Value)) :
    Meets (Builtin.«int.__rmul__» ⟨[.int a t, .ref l], []⟩) (fun _ R s => s.heap.get? l = some { cls := .type "tuple", dict := dd, data := .seq items n, slots := sl } ∧ R (.ok (.ret Value.notImplemented)) s) :=
  .of_wp fun prog w A R s h => by obtain ⟨hp, g, d, tk, os⟩ := s; obtain ⟨hl, h⟩ := h; wp_walk; exact ⟨_, rfl, h⟩
def rRepT (K : PySem.W.Frag) : R2 := fun x y H Q => ∃ l k xs, x = .ref l ∧ y = .int k ∧ SqT K H l xs ∧ xs ≠ [] ∧ xs.length ≤ 1000 ∧ 2 ≤ k ∧ k < 1000 ∧
  ∀ p, H p = none → Q (.ref p) (upd H p (.tup (List.replicate k.toNat xs).flatten))
section
variable {X : Cx}
theorem op_repT (K : PySem.W.Frag) (hK : X.K = K := by rfl) : OpR X (binaryOp .Mult) (rRepT K) := by
  subst hK
  intro pins s σ H x y v u Q I rx ry h
  obtain ⟨l, k, xs, rfl, rfl, hH, hne, hl, k2, kb, q⟩ := h
  cases rx
  obtain ⟨t, rfl⟩ := ry
  obtain ⟨its, r, ht, hz⟩ := I.tuple hH
  have elen := r.length
  obtain ⟨⟨cls, dd, data, sl⟩, ho, hc, n, hd⟩ := id ht
  simp only at hc hd
  subst hc hd
  have hem : its.toArray.isEmpty = false := by
    cases its with
    | nil => cases r; exact absurd rfl hne
    | cons a b => rfl
  refine wpAny_binaryOp_repeat_ref (T := "tuple") (U := "int") (by decide) ⟨_, ho, rfl⟩ (fun s' => typeIs_int s' k t) noFill_tuple_mul PySem.F.fills_int_mul PySem.F.slot_int_rmul repeat_tuple PySem.F.slot_int_index.lookup
    (call_meets PySem.F.slot_int_rmul (typeIs_int s k t) PySem.F.entry_int_rmul (PySem.F.args_int_rmul_2 _ _) (int_rmul_tuple k t l its.toArray n dd sl)
      ⟨ho, rfl, ⟨_, ho, rfl⟩, call_meets PySem.F.slot_tuple_mul ⟨_, ho, rfl⟩ PySem.F.entry_tuple_mul (PySem.F.args_tuple_mul_2 _ _) (tuple_mulW l its.toArray n dd sl k t k2 kb hem (by rw [List.size_toArray]; omega)) ⟨ho, ?_⟩⟩)
  rw [fold_rep]
  have hsl : (1000000 : Nat) ≤ sizeLine := by decide
  refine ⟨.ref s.heap.objs.size, _, I.laid (t' := s.toks) (o := .tup (List.replicate k.toNat xs).flatten) (fun b ob q => Heap.get?_push_of_some _ q) (Nat.le_refl _) ?_, rfl, q _ (I.hok.fresh (Nat.le_refl _))⟩
  refine ⟨?_, _, (r.rep k.toNat), IsTup.new _ _⟩
  rw [len_rep]
  have : k.toNat * xs.length ≤ 1000 * 1000 := Nat.mul_le_mul (by omega) hl
  omega
end
/-! ### nested written tuples: readings in a box, so that nothing is unfolded on the way (unfolded, a written tuple's reading grows with its depth) -/
structure PEx (X : Cx) (e : Expr) (t : TE) : Prop where
  out : PE X e t
structure PAx (X : Cx) (es : List Expr) (t : TA) : Prop where
  out : PA X es t
section
variable {X : Cx} {te : TE} {t : TA} {es es1 : List Expr}
theorem star_tup {x1 : Nat} {p1 : Pos} {env : Env} : starEach (.Tuple es1 x1 p1 :: es) env = (false, eval (.Tuple es1 x1 p1) env) :: starEach es env := rfl
theorem star_bin {l r : Expr} {o : Operator} {p1 : Pos} {env : Env} : starEach (.BinOp l o r p1 :: es) env = (false, eval (.BinOp l o r p1) env) :: starEach es env := rfl
theorem star_con {c : Const} {k1 : Nat} {p1 : Pos} {env : Env} : starEach (.Constant c k1 p1 :: es) env = (false, eval (.Constant c k1 p1) env) :: starEach es env := rfl
theorem star_un {a : Expr} {o : UnaryOp} {p1 : Pos} {env : Env} : starEach (.UnaryOp o a p1 :: es) env = (false, eval (.UnaryOp o a p1) env) :: starEach es env := rfl
theorem star_call {f : Expr} {as : List Expr} {ks : List Keyword} {p1 : Pos} {env : Env} : starEach (.Call f as ks p1 :: es) env = (false, eval (.Call f as ks p1) env) :: starEach es env := rfl
theorem x_int {i : Int} {j : Nat} {pos : Pos} : PEx X (.Constant (.int i) j pos) (tC (.int i)) := ⟨pe_int⟩
theorem x_neg {i : Int} {j : Nat} {p pos : Pos} : PEx X (.UnaryOp .USub (.Constant (.int i) j p) pos) (tUn (rU fun i => .int (-i)) (tC (.int i))) := ⟨pe_un un_neg pe_int⟩
theorem x_of {e : Expr} (h : PE X e te) : PEx X e te := ⟨h⟩
theorem x_tup {x1 : Nat} {pos : Pos} (h : PAx X es t) : PEx X (.Tuple es x1 pos) (tTup t) := ⟨pe_tup h.out⟩
theorem x_nil : PAx X [] tNil := ⟨pa_nil⟩
theorem x_consT {x1 : Nat} {p1 : Pos} (ha : PEx X (.Tuple es1 x1 p1) te) (hr : PAx X es t) : PAx X (.Tuple es1 x1 p1 :: es) (tCons te t) := ⟨pa_cons ha.out hr.out star_tup⟩
theorem x_consB {l r : Expr} {o : Operator} {p1 : Pos} (ha : PEx X (.BinOp l o r p1) te) (hr : PAx X es t) : PAx X (.BinOp l o r p1 :: es) (tCons te t) := ⟨pa_cons ha.out hr.out star_bin⟩
theorem x_consC {c : Const} {k1 : Nat} {p1 : Pos} (ha : PEx X (.Constant c k1 p1) te) (hr : PAx X es t) : PAx X (.Constant c k1 p1 :: es) (tCons te t) := ⟨pa_cons ha.out hr.out star_con⟩
theorem x_consU {a : Expr} {o : UnaryOp} {p1 : Pos} (ha : PEx X (.UnaryOp o a p1) te) (hr : PAx X es t) : PAx X (.UnaryOp o a p1 :: es) (tCons te t) := ⟨pa_cons ha.out hr.out star_un⟩
theorem x_consL {f : Expr} {as : List Expr} {ks : List Keyword} {p1 : Pos} (ha : PEx X (.Call f as ks p1) te) (hr : PAx X es t) : PAx X (.Call f as ks p1 :: es) (tCons te t) := ⟨pa_cons ha.out hr.out star_call⟩
/-- (..) * n -/
theorem x_rep (K : PySem.W.Frag) {r : Expr} {x1 : Nat} {p1 p2 : Pos} {tb : TE} (h : PEx X (.Tuple es1 x1 p1) te) (hr : PE X r tb) (hK : X.K = K := by rfl) : PEx X (.BinOp (.Tuple es1 x1 p1) .Mult r p2) (tOp (rRepT K) te tb) := ⟨pe_op (op_repT K hK) h.out hr⟩
theorem ps_setL {i : Nat} {x : Str} {lp pos pos' : Pos} (hN : X.N.Nodup) (hi : X.N[i]? = some x) (hx : Loc X.env.scope x) (h : PAx X es t) (hf : X.fn x = true ∨ X.env.scope.names.lookup x = some .local := by first | exact .inl rfl | exact .inr rfl | assumption) :
    PS X (.Assign [.Name x pos'] (.List es lp) pos) (tAsg (tLst t) (gName i)) := ps_set hN hi hx (pe_lst h.out) rfl hf
theorem ps_catL (K : PySem.W.Frag) {i : Nat} {x : Str} {e : Expr} {lp bp pos pos' : Pos} (hN : X.N.Nodup) (hi : X.N[i]? = some x) (hx : Loc X.env.scope x) (he : PE X e te) (h : PAx X es t) (hK : X.K = K := by rfl) (hf : X.fn x = true ∨ X.env.scope.names.lookup x = some .local := by first | exact .inl rfl | exact .inr rfl | assumption) :
    PS X (.Assign [.Name x pos'] (.BinOp e .Add (.List es lp) bp) pos) (tAsg (tOp (rCatS K) te (tLst t)) (gName i)) := ps_set hN hi hx (pe_op (op_catK K hK) he (pe_lst h.out)) rfl hf
theorem ps_appT (K : PySem.W.Frag) {o : Expr} {to : TE} {apos cpos p1 sp : Pos} {x1 : Nat} (ho : PE X o to) (h : PEx X (.Tuple es1 x1 p1) te) (hK : X.K = K := by rfl)
    (hbase : attributeBase o "append" X.env (eval o X.env) = eval o X.env := by rfl) (hline : (apos.endLine == cpos.line) = true := by rfl) :
    PS X (.Expr (.Call (.Attribute o "append" apos) [.Tuple es1 x1 p1] [] cpos) sp) (tDrop (tBM K "list" rAppend to (tCons te tNil))) :=
  ps_expr (pe_bmK K PySem.F.plainAttrs_list PySem.F.slot_list_append PySem.F.type_list_append mt_append ho (pa_cons h.out pa_nil star_tup) hK hbase rfl hline star_tup rfl) rfl
end
end L2
namespace L2
open PySem PySem.Spec PyProof.Rows
/-! ### d == {} for two empty dicts -/
theorem range0 {β : Type} (b : β) (f : (i : Nat) → i ∈ ([:(#[] : Array PySem.Entry).size] : Std.Legacy.Range) → β → Sem (ForInStep β)) : forIn' (m := Sem) ([:(#[] : Array PySem.Entry).size] : Std.Legacy.Range) b f = pure b := by
  rw [Std.Legacy.Range.forIn'_eq_forIn'_range']
  rfl
theorem dict_eq0 (a b : Addr) (n m : Nat) (ha : (a == sysModules) = false) (hb : (b == sysModules) = false) :
    Meets (Builtin.«dict.__eq__» ⟨[.ref a, .ref b], []⟩) (fun _ R s => s.heap.get? a = some { cls := .type "dict", dict := none, data := .dict #[] n, slots := #[] } ∧ s.heap.get? b = some { cls := .type "dict", dict := none, data := .dict #[] m, slots := #[] } ∧ R (.ok (.ret (.bool true))) s) :=
  .of_wp fun prog w A R s h => by
    obtain ⟨hp, g, d, tk, os⟩ := s; obtain ⟨h1, h2, h⟩ := h
    have f1 : isSubtype (.type "dict") (.type "dict") = pure true := by rw [isSubtype_type]; kernel_rfl
    wp_walk using wpAny_loadPart' h1, wpAny_loadPart' h2, wpAny_of_eq f1
    refine wpAny_of_eq (range0 _ _) ?_
    wp_walk
    exact ⟨_, rfl, h⟩
section
variable {X : Cx}
def rEqD0 : R2 := fun x y H Q => ∃ a b, x = .ref a ∧ y = .ref b ∧ H a = some (.dK []) ∧ H b = some (.dK []) ∧ Q (.bl true) H
theorem at_d0 {pins : List (Addr × Obj)} {σ : St} {H : Hp} {s : Shared} {d : Addr} (I : Inv X pins σ H s) (hd : H d = some (.dK [])) : ∃ n, (d == sysModules) = false ∧ s.heap.get? d = some { cls := .type "dict", dict := none, data := .dict #[] n, slots := #[] } := by
  obtain ⟨vs, ep, rel, z, hs, hm, _⟩ := I.freeze hd
  cases rel
  obtain ⟨⟨cls, dd, data, sl⟩, es, ho, ⟨x1, x2, x3⟩, hdat, _, pr, _⟩ := hm
  have e0 : es.toList = [] := by
    cases h : es.toList with
    | nil => rfl
    | cons a b => rw [h] at pr; cases pr
  have e1 : es = #[] := by apply Array.toList_inj.mp; rw [e0]
  simp only at x1 x2 x3 hdat
  subst x1 x2 x3 hdat e1
  exact ⟨ep, hs, ho⟩
theorem op_eqD0 (hu : X.A.units + 16 < cLine) : OpR X (compareOp .Eq) rEqD0 := by
  intro pins s σ H x y v u Q I rx ry h
  obtain ⟨a, b, rfl, rfl, ha, hb, q⟩ := h
  cases rx
  cases ry
  obtain ⟨n, s1, h1⟩ := at_d0 I ha
  obtain ⟨m, s2, h2⟩ := at_d0 I hb
  exact richCompare_meets_room (op := .Eq) ⟨_, h1, rfl⟩ ⟨_, h2, rfl⟩ PySem.F.slot_dict_eq PySem.F.entry_dict_eq (PySem.F.args_dict_eq_2 _ _) (dict_eq0 a b n m s1 s2)
    ⟨h1, h2, (fun x => nomatch x), ⟨.bl true, H, I, rfl, q⟩⟩ (by omega)
end
end L2
namespace L2
open PySem PySem.Spec PyProof.Rows
/-! ### exceptions made, not raised; their own __init__; their attributes -/
section
variable {X : Cx} {pins : List (Addr × Obj)} {σ : St} {H : Hp} {s : Shared}
/-- an exception as it is made, without a dict -/
def ExcNew (a C : Addr) (h : Heap) : Prop := ∃ t0 : Addr, h.get? a = some { cls := .ref C, data := .fields #[.ref t0, .none, .none, .none, .bool false, .none] }
/-- an exception with its dict at dx -/
def ExcDict (a C dx : Addr) (h : Heap) : Prop := ∃ t0 : Addr, h.get? a = some { cls := .ref C, dict := some dx, data := .fields #[.ref t0, .none, .none, .none, .bool false, .none] }
theorem ExcNew.mono {a C : Addr} (h1 h2 : Heap) (x : ExcNew a C h1) (k : ∀ o, h1.get? a = some o → h2.get? a = some o) : ExcNew a C h2 := let ⟨t, e⟩ := x; ⟨t, k _ e⟩
theorem ExcDict.mono {a C dx : Addr} (h1 h2 : Heap) (x : ExcDict a C dx h1) (k : ∀ o, h1.get? a = some o → h2.get? a = some o) : ExcDict a C dx h2 := let ⟨t, e⟩ := x; ⟨t, k _ e⟩
theorem ExcNew.at_ {a C : Addr} (h : Heap) (x : ExcNew a C h) : ExcAt a C h := let ⟨_, e⟩ := x; ⟨_, _, e, rfl, rfl⟩
theorem ExcDict.at_ {a C dx : Addr} (h : Heap) (x : ExcDict a C dx h) : ExcAt a C h := let ⟨_, e⟩ := x; ⟨_, _, e, rfl, rfl⟩
/-- what is known of an exception of the class C at a -/
def IsExc (H : Hp) (a C : Addr) : Prop := ∃ φ : Heap → Prop, H a = some (.ext φ) ∧ ∀ h, φ h → ExcAt a C h
theorem IsExc.same {H H' : Hp} {a C : Addr} (x : IsExc H a C) (s : Same H H') : IsExc H' a C := let ⟨φ, e, f⟩ := x; ⟨φ, s _ _ e, f⟩
/-! isinstance of one -/
end
end L2
namespace L2
open PySem PySem.Spec PyProof.Rows
abbrev bmVE : List Value := [.type "ValueError", .type "Exception", .type "BaseException", .type "object"]
/-- an exception class of one's own with an __init__ of its own, right under one without: what the written part must say -/
structure XInit (K : PySem.W.Frag) (C B f : Addr) : Prop where
  lk : ∃ nm q N bs sn sub ab col dd k0 k1 k2 k3 k5, K.lookup C = some (excClassObj nm q C N bs (.ref B :: bmVE) true sn sub ab col dd k0 k1 k2 k3 k5 "ValueError.__new__")
  par : PySem.W.excIn K B bmVE "ValueError.__new__" = true
  init : PySem.W.findIn K (.ref C) "__init__" = some (some (.ref f))
  fn : PySem.W.typeIn K (.ref f) = some (.type "function")
  kp : PySem.W.keepIn K (.ref C) = true
  sa : PySem.W.findIn K (.ref C) "__setattr__" = some (some (.builtin "object.__setattr__"))
section
variable {prog : Program} {w : World} {A : Around} {E : Value → Shared → Prop} {h : Heap} {g : Array GenState} {d : Drawn} {t : Nat} {os : OsState} {K : PySem.W.Frag} {C B f : Addr}
end
section
variable {X : Cx} {CX : CXT} {k : Nat} {f C B : Addr} {fd : FuncData} {ps : List Str} {sp : Sp} {E : XK} {x : Str} {p pos : Pos} {e : Expr} {es : List Expr} {t : TA}
end
end L2
namespace L2
open PySem PySem.Spec PyProof.Rows
/-- B.__init__ is ValueError's -/
structure XUp (K : PySem.W.Frag) (B : Addr) : Prop where
  sp : PySem.W.specialIn K (.ref B) "__getattribute__" = some (some (.builtin "type.__getattribute__"))
  rd : PySem.W.readsIn K B (.type "type") = true
  fd : PySem.W.findCls K (.ref B) (.type "type") "__init__" = some (.val (.builtin "ValueError.__init__"))
section
variable {X : Cx} {pins : List (Addr × Obj)} {σ : St} {H : Hp} {s : Shared} {C B f a : Addr}
/-! self.f = v -/
end
/-! e.f -/
section
variable {prog : Program} {w : World} {A : Around} {E : Value → Shared → Prop} {h : Heap} {g : Array GenState} {d : Drawn} {t : Nat} {os : OsState} {K : PySem.W.Frag} {a C B f dx : Addr} {name : Str} {v : Value} {mA : Str → Option Value}
end
section
variable {X : Cx}
end
end L2
namespace L2
open PySem PySem.Spec PyProof.Rows
section
variable {P : Program} {w : World} {K : PySem.W.Frag} {mg : Str → Option Value} {base : Heap}
/-- a def within a class -/
theorem Fun.ok1q {x qual : Str} {st : Stmt} {f : Addr} {fd : FuncData} {N ps : List Str} {k : Nat} {sp : Sp} (F : Fun K x qual st f fd) (S : FnScope N ps (defScope st)) (len : ∀ vs H Q E, sp vs H Q E → vs.length = ps.length)
    (hbody : ∀ (f : Addr) (cdv : Value) (A : Around) (outer : List Env) (s : Shared) (H : Hp) (vs : List V) (Q : VK) (E : XK), Room k (A.deeper (envOfC qual (defScope st) s.heap.objs.size f cdv)) → sp vs H Q E →
      ∃ t, PSs (cx1 P w K mg base N qual st f cdv A outer s H E) (defBody st) t ∧ t { nx := fun _ H' => Q .non H', rt := Q } (start N vs) H) : FnOk P w K mg base (CX1 P w) (k + 1) f fd ps sp := by
  obtain ⟨oc, od, kV, doc, pm, an, cdv, ct, osl, rfl, lk, hcd⟩ := F.ex
  exact fn_of lk hcd S len fun A outer s H vs Q E hr hsp => hbody f cdv A outer s H vs Q E hr hsp
end
end L2
namespace K19
open PySem L2 PyProof.Rows
def top (i : Nat) : Stmt := PySem.Challenge.pw_stormpost_k19_cells_in_the_air.main.body.getD i (.Pass ⟨0, 0, 0, 0⟩)
abbrev s_is_sign : Stmt := top 7
abbrev s_look_signs : Stmt := top 10
abbrev s_look_cell : Stmt := top 11
abbrev s_look_late : Stmt := top 16
abbrev s_look_turns : Stmt := top 17
abbrev s_look_fate : Stmt := top 18
abbrev s_turned : Stmt := top 20
abbrev s__law_cell : Stmt := top 23
abbrev s__law_pot : Stmt := top 24
abbrev s__law_take : Stmt := top 25
abbrev s__law_whole : Stmt := top 26
abbrev s__law_turns : Stmt := top 27
abbrev s__law_fate : Stmt := top 28
abbrev s__law_turned : Stmt := top 29
abbrev s__law_bad_cell : Stmt := top 30
abbrev s__law_bad_fate : Stmt := top 31
abbrev s__law_refused : Stmt := top 32
abbrev s__law_given : Stmt := top 33
abbrev s__law_came : Stmt := top 34
abbrev s_law : Stmt := top 35
def clsBody : Stmt → List Stmt
  | .ClassDef _ _ _ b _ _ _ _ _ _ _ => b
  | _ => []
abbrev s_init : Stmt := (clsBody (top 21)).getD 0 (.Pass ⟨0, 0, 0, 0⟩)
abbrev s_give : Stmt := (clsBody (top 21)).getD 1 (.Pass ⟨0, 0, 0, 0⟩)
abbrev s_come : Stmt := (clsBody (top 21)).getD 2 (.Pass ⟨0, 0, 0, 0⟩)
abbrev s_flying : Stmt := (clsBody (top 21)).getD 3 (.Pass ⟨0, 0, 0, 0⟩)
structure Ad where
  Air : Addr
  BadCell : Addr
  BadFate : Addr
  BadMeasure : Addr
  PostError : Addr
  init : Addr
  m_give : Addr
  m_come : Addr
  m_flying : Addr
structure Txt (K : PySem.W.Frag) (mg : Str → Option Value) (t : Ad) : Prop where
  cMOST_ARRIVALS : ∃ tk, mg "MOST_ARRIVALS" = some (.int 3 tk)
  cMOST_LATE : ∃ tk, mg "MOST_LATE" = some (.int 6 tk)
  cMOST_TURNS : ∃ tk, mg "MOST_TURNS" = some (.int 4 tk)
  cPLACES : ∃ tk, mg "PLACES" = some (.int 24 tk)
  cSIGNS : ∃ tk, mg "SIGNS" = some (.int 97 tk)
  n_ValueError : mg "ValueError" = none
  n_abs : mg "abs" = none
  n_all : mg "all" = none
  n_bool : mg "bool" = none
  n_int : mg "int" = none
  n_isinstance : mg "isinstance" = none
  n_len : mg "len" = none
  n_list : mg "list" = none
  n_range : mg "range" = none
  n_sum : mg "sum" = none
  n_tuple : mg "tuple" = none
  mAir : mg "Air" = some (.ref t.Air)
  mBadCell : mg "BadCell" = some (.ref t.BadCell)
  mBadFate : mg "BadFate" = some (.ref t.BadFate)
  mBadMeasure : mg "BadMeasure" = some (.ref t.BadMeasure)
  mPostError : mg "PostError" = some (.ref t.PostError)
  xBadCell : PySem.W.excIn K t.BadCell [.type "ValueError", .type "Exception", .type "BaseException", .type "object"] "ValueError.__new__" = true
  eBadCell : ExcCls K t.BadCell
  subBadCell_PostError : PySem.W.subIn K (.ref t.BadCell) (.ref t.PostError) = some true
  oneBadCell_BadCell : PySem.W.kitOne K (.ref t.BadCell) (.ref t.BadCell) = some true
  oneBadCell_BadFate : PySem.W.kitOne K (.ref t.BadCell) (.ref t.BadFate) = some false
  oneBadCell_ValueError : PySem.W.kitOne K (.ref t.BadCell) (.type "ValueError") = some true
  xBadFate : PySem.W.excIn K t.BadFate [.type "ValueError", .type "Exception", .type "BaseException", .type "object"] "ValueError.__new__" = true
  eBadFate : ExcCls K t.BadFate
  subBadFate_PostError : PySem.W.subIn K (.ref t.BadFate) (.ref t.PostError) = some true
  oneBadFate_BadCell : PySem.W.kitOne K (.ref t.BadFate) (.ref t.BadCell) = some false
  oneBadFate_BadFate : PySem.W.kitOne K (.ref t.BadFate) (.ref t.BadFate) = some true
  oneBadFate_ValueError : PySem.W.kitOne K (.ref t.BadFate) (.type "ValueError") = some true
  xBadMeasure : PySem.W.excIn K t.BadMeasure [.type "ValueError", .type "Exception", .type "BaseException", .type "object"] "ValueError.__new__" = true
  eBadMeasure : ExcCls K t.BadMeasure
  subBadMeasure_PostError : PySem.W.subIn K (.ref t.BadMeasure) (.ref t.PostError) = some true
  oneBadMeasure_BadCell : PySem.W.kitOne K (.ref t.BadMeasure) (.ref t.BadCell) = some false
  oneBadMeasure_BadFate : PySem.W.kitOne K (.ref t.BadMeasure) (.ref t.BadFate) = some false
  oneBadMeasure_ValueError : PySem.W.kitOne K (.ref t.BadMeasure) (.type "ValueError") = some true
  kAir : Mk K t.Air t.init
  fi : ∃ fd, Fun K "__init__" "Air.__init__" s_init t.init fd
  cAir : Cls K t.Air
  na_late : NoAttr K t.Air "late"
  na_asked : NoAttr K t.Air "asked"
  na_coming : NoAttr K t.Air "coming"
  me_give : Meth K t.Air "give" t.m_give
  f_give : ∃ fd, Fun K "give" "Air.give" s_give t.m_give fd
  me_come : Meth K t.Air "come" t.m_come
  f_come : ∃ fd, Fun K "come" "Air.come" s_come t.m_come fd
  me_flying : Meth K t.Air "flying" t.m_flying
  f_flying : ∃ fd, Fun K "flying" "Air.flying" s_flying t.m_flying fd
  catchPostError : Catch K t.PostError
  isi_int_bool : PySem.W.kitOne K (.type "int") (.type "bool") = some false
  isi_int_int : PySem.W.kitOne K (.type "int") (.type "int") = some true
  isi_list_list : PySem.W.kitOne K (.type "list") (.type "list") = some true
section
variable {P : Program} {w : World} {K : PySem.W.Frag} {mg : Str → Option Value} {base : Heap} {t : Ad}
/-! what is in the air, by ticks: key, list, cells -/
abbrev Bx := Int × Addr × List (Addr × List Int)
def kvsB (bs : List Bx) : List (Key × V) := bs.map fun b => (.inl b.1, .ref b.2.1)
def ownB (d : Addr) (bs : List Bx) : List Addr := d :: bs.flatMap fun b => b.2.1 :: b.2.2.map (·.1)
abbrev Ct := List (Int × List (List Int))
def ctB (bs : List Bx) : Ct := bs.map fun b => (b.1, b.2.2.map (·.2))
structure DAt (H : Hp) (d : Addr) (bs : List Bx) : Prop where
  at_ : H d = some (.dK (kvsB bs))
  ls : ∀ b ∈ bs, H b.2.1 = some (.lst (b.2.2.map fun c => V.ref c.1))
  cs : ∀ b ∈ bs, ∀ c ∈ b.2.2, H c.1 = some (.lst (c.2.map V.int)) ∧ c.2.length = 24
  nd : (ownB d bs).Nodup
  ky : (bs.map (·.1)).Nodup
theorem mem_own_l {d : Addr} {bs : List Bx} {b : Bx} (h : b ∈ bs) : b.2.1 ∈ ownB d bs := List.mem_cons_of_mem _ (List.mem_flatMap.mpr ⟨b, h, List.mem_cons_self⟩)
theorem mem_own_c {d : Addr} {bs : List Bx} {b : Bx} {c : Addr × List Int} (h : b ∈ bs) (hc : c ∈ b.2.2) : c.1 ∈ ownB d bs := List.mem_cons_of_mem _ (List.mem_flatMap.mpr ⟨b, h, List.mem_cons_of_mem _ (List.mem_map.mpr ⟨c, hc, rfl⟩)⟩)
theorem DAt.has {H : Hp} {d : Addr} {bs : List Bx} (h : DAt H d bs) : ∀ x ∈ ownB d bs, ∃ o, H x = some o := by
  intro x hx
  rcases List.mem_cons.mp hx with rfl | hx
  · exact ⟨_, h.at_⟩
  · obtain ⟨b, hb, hx⟩ := List.mem_flatMap.mp hx
    rcases List.mem_cons.mp hx with rfl | hx
    · exact ⟨_, h.ls b hb⟩
    · obtain ⟨c, hc, rfl⟩ := List.mem_map.mp hx
      exact ⟨_, (h.cs b hb c hc).1⟩
theorem DAt.keep {H H' : Hp} {d : Addr} {bs : List Bx} (h : DAt H d bs) (k : ∀ x ∈ ownB d bs, H' x = H x) : DAt H' d bs :=
  ⟨(k d List.mem_cons_self).trans h.at_, fun b hb => (k _ (mem_own_l hb)).trans (h.ls b hb), fun b hb c hc => ⟨(k _ (mem_own_c hb hc)).trans (h.cs b hb c hc).1, (h.cs b hb c hc).2⟩, h.nd, h.ky⟩
/-- what stands stays, but for S -/
def Mods (S : List Addr) (H H' : Hp) : Prop := ∀ b o, b ∉ S → H b = some o → H' b = some o
theorem Mods.refl {S : List Addr} {H : Hp} : Mods S H H := fun _ _ _ e => e
theorem Mods.trans {S : List Addr} {H H' H'' : Hp} (a : Mods S H H') (b : Mods S H' H'') : Mods S H H'' := fun x o n e => b x o n (a x o n e)
theorem Mods.same {S : List Addr} {H H' : Hp} (s : Same H H') : Mods S H H' := fun x o _ e => s x o e
theorem Mods.up {S S' : List Addr} {H H' : Hp} (a : Mods S H H') (h : ∀ x ∈ S, x ∈ S') : Mods S' H H' := fun x o n e => a x o (fun z => n (h x z)) e
/-- one more, if what came new is to be changed as well -/
theorem Mods.trans' {S S' : List Addr} {H H' H'' : Hp} (a : Mods S H H') (b : Mods S' H' H'') (h : ∀ x ∈ S', x ∈ S ∨ H x = none) : Mods S H H'' := fun x o n e => b x o (fun z => (h x z).elim n fun y => by rw [y] at e; cases e) (a x o n e)
theorem DAt.mods {S : List Addr} {H H' : Hp} {d : Addr} {bs : List Bx} (h : DAt H d bs) (m : Mods S H H') (n : ∀ x ∈ ownB d bs, x ∉ S) : DAt H' d bs :=
  h.keep fun x hx => by obtain ⟨o, e⟩ := h.has x hx; rw [m x o (n x hx) e, e]
theorem val_kvs {bs : List Bx} (ky : (bs.map (·.1)).Nodup) {b : Bx} (hb : b ∈ bs) : valV (kvsB bs) (.inl b.1) = some (.ref b.2.1) := by
  induction bs with
  | nil => simp at hb
  | cons a r ih =>
    rw [List.map_cons, List.nodup_cons] at ky
    rcases List.mem_cons.mp hb with rfl | hb
    · exact valV_pos rfl
    · have ne : ¬ ((Sum.inl a.1 : Key) = .inl b.1) := fun z => ky.1 (List.mem_map.mpr ⟨b, hb, (Sum.inl.inj z).symm⟩)
      exact (valV_neg (p := (Sum.inl a.1, V.ref a.2.1)) ne).trans (ih ky.2 hb)
theorem val_no {bs : List Bx} {k : Int} (h : k ∉ bs.map (·.1)) : valV (kvsB bs) (.inl k) = none := by
  induction bs with
  | nil => rfl
  | cons a r ih =>
    rw [List.map_cons, List.mem_cons, not_or] at h
    exact (valV_neg (p := (Sum.inl a.1, V.ref a.2.1)) (fun z => h.1 (Sum.inl.inj z).symm)).trans (ih h.2)
theorem drop_kvs (bs : List Bx) (k : Int) : dropK (kvsB bs) (.inl k) = kvsB (bs.filter fun b => decide (b.1 ≠ k)) := by
  unfold dropK kvsB
  rw [List.filter_map]
  congr 1
  apply List.filter_congr
  intro b _
  simp [Function.comp]
theorem own_filter {d : Addr} {bs : List Bx} (p : Bx → Bool) : ∀ x ∈ ownB d (bs.filter p), x ∈ ownB d bs := fun x hx => by
  rcases List.mem_cons.mp hx with rfl | hx
  · exact List.mem_cons_self
  · obtain ⟨b, hb, hx⟩ := List.mem_flatMap.mp hx
    exact List.mem_cons_of_mem _ (List.mem_flatMap.mpr ⟨b, (List.mem_filter.mp hb).1, hx⟩)
theorem flat_sub (p : Bx → Bool) : ∀ (bs : List Bx), ((bs.filter p).flatMap fun b => b.2.1 :: b.2.2.map (·.1)).Sublist (bs.flatMap fun b => b.2.1 :: b.2.2.map (·.1))
  | [] => List.Sublist.refl _
  | b :: r => by
    rw [List.filter_cons, List.flatMap_cons]
    split
    · rw [List.flatMap_cons]; exact List.Sublist.append (List.Sublist.refl _) (flat_sub p r)
    · exact List.Sublist.trans (flat_sub p r) (List.sublist_append_right _ _)
theorem DAt.drop {H H' : Hp} {d : Addr} {bs : List Bx} (h : DAt H d bs) (p : Bx → Bool) (e : H' d = some (.dK (kvsB (bs.filter p)))) (k : ∀ x ∈ ownB d bs, x ≠ d → H' x = H x) : DAt H' d (bs.filter p) := by
  have nd := List.nodup_cons.mp h.nd
  have nx : ∀ x ∈ bs.flatMap (fun b => b.2.1 :: b.2.2.map (·.1)), x ≠ d := fun x hx z => nd.1 (z ▸ hx)
  refine ⟨e, fun b hb => ?_, fun b hb c hc => ?_, ?_, ?_⟩
  · have hb' := (List.mem_filter.mp hb).1
    rw [k _ (mem_own_l hb') (nx _ (List.mem_flatMap.mpr ⟨b, hb', List.mem_cons_self⟩))]; exact h.ls b hb'
  · have hb' := (List.mem_filter.mp hb).1
    rw [k _ (mem_own_c hb' hc) (nx _ (List.mem_flatMap.mpr ⟨b, hb', List.mem_cons_of_mem _ (List.mem_map.mpr ⟨c, hc, rfl⟩)⟩))]; exact h.cs b hb' c hc
  · exact List.nodup_cons.mpr ⟨fun z => nd.1 ((flat_sub p bs).subset z), (flat_sub p bs).nodup nd.2⟩
  · exact (List.Sublist.map _ (List.filter_sublist)).nodup h.ky
/-- one cell more at k -/
def putA (L : Ct) (k : Int) (c : List Int) : Ct := if k ∈ L.map (·.1) then L.map fun e => if e.1 = k then (e.1, e.2 ++ [c]) else e else L ++ [(k, [c])]
def putB (bs : List Bx) (k : Int) (c : Addr × List Int) : List Bx := bs.map fun e => if e.1 = k then (e.1, e.2.1, e.2.2 ++ [c]) else e
theorem ct_keys (bs : List Bx) : (ctB bs).map (·.1) = bs.map (·.1) := by unfold ctB; rw [List.map_map]; rfl
theorem ct_put {bs : List Bx} {k : Int} {c : Addr × List Int} (h : k ∈ bs.map (·.1)) : ctB (putB bs k c) = putA (ctB bs) k c.2 := by
  unfold putA
  rw [ct_keys, if_pos h]
  unfold ctB putB
  rw [List.map_map, List.map_map]
  refine List.map_congr_left fun e _ => ?_
  by_cases z : e.1 = k
  · simp [Function.comp, z]
  · simp [Function.comp, z]
theorem ct_new {bs : List Bx} {k : Int} {l : Addr} {c : Addr × List Int} (h : k ∉ bs.map (·.1)) : ctB (bs ++ [(k, l, [c])]) = putA (ctB bs) k c.2 := by
  unfold putA
  rw [ct_keys, if_neg h]
  unfold ctB
  rw [List.map_append]
  rfl
theorem kvs_put (bs : List Bx) (k : Int) (c : Addr × List Int) : kvsB (putB bs k c) = kvsB bs := by
  unfold kvsB putB
  rw [List.map_map]
  refine List.map_congr_left fun e _ => ?_
  by_cases z : e.1 = k
  · simp [Function.comp, z]
  · simp [Function.comp, z]
theorem box_of {bs : List Bx} {k : Int} (h : k ∈ bs.map (·.1)) : ∃ b ∈ bs, b.1 = k := by
  obtain ⟨b, hb, e⟩ := List.mem_map.mp h
  exact ⟨b, hb, e⟩
theorem box_uniq {bs : List Bx} (ky : (bs.map (·.1)).Nodup) {a b : Bx} (ha : a ∈ bs) (hb : b ∈ bs) (e : a.1 = b.1) : a = b := by
  induction bs with
  | nil => simp at ha
  | cons c r ih =>
    rw [List.map_cons, List.nodup_cons] at ky
    rcases List.mem_cons.mp ha with rfl | ha'
    · rcases List.mem_cons.mp hb with rfl | hb'
      · rfl
      · exact absurd (List.mem_map.mpr ⟨b, hb', e.symm⟩) ky.1
    · rcases List.mem_cons.mp hb with rfl | hb'
      · exact absurd (List.mem_map.mpr ⟨a, ha', e⟩) ky.1
      · exact ih ky.2 ha' hb'
theorem put_keys (bs : List Bx) (k : Int) (c : Addr × List Int) : (putB bs k c).map (·.1) = bs.map (·.1) := by
  unfold putB
  rw [List.map_map]
  refine List.map_congr_left fun e _ => ?_
  by_cases z : e.1 = k <;> simp [Function.comp, z]
theorem put_no {bs : List Bx} {k : Int} {c : Addr × List Int} (h : k ∉ bs.map (·.1)) : putB bs k c = bs := by
  unfold putB
  refine (List.map_congr_left fun e he => ?_).trans (List.map_id _)
  have : e.1 ≠ k := fun z => h (List.mem_map.mpr ⟨e, he, z⟩)
  simp [this]
theorem flat_put {k : Int} {c : Addr × List Int} : ∀ {bs : List Bx}, (bs.map (·.1)).Nodup → k ∈ bs.map (·.1) → ((putB bs k c).flatMap fun b => b.2.1 :: b.2.2.map (·.1)).Perm (c.1 :: bs.flatMap fun b => b.2.1 :: b.2.2.map (·.1))
  | [], _, h => by simp at h
  | b :: r, ky, h => by
    rw [List.map_cons, List.nodup_cons] at ky
    have e : putB (b :: r) k c = (if b.1 = k then (b.1, b.2.1, b.2.2 ++ [c]) else b) :: putB r k c := rfl
    rw [e, List.flatMap_cons, List.flatMap_cons]
    by_cases z : b.1 = k
    · rw [if_pos z, put_no (bs := r) (z ▸ ky.1)]
      show ((b.2.1 :: (b.2.2 ++ [c]).map (·.1)) ++ _).Perm (c.1 :: ((b.2.1 :: b.2.2.map (·.1)) ++ _))
      rw [List.map_append]
      show ((b.2.1 :: (b.2.2.map (·.1) ++ [c.1])) ++ _).Perm _
      have : (b.2.1 :: (b.2.2.map (·.1) ++ [c.1])) ++ (r.flatMap fun b => b.2.1 :: b.2.2.map (·.1)) = (b.2.1 :: b.2.2.map (·.1)) ++ (c.1 :: r.flatMap fun b => b.2.1 :: b.2.2.map (·.1)) := by simp
      rw [this]
      exact List.perm_middle
    · rw [if_neg z]
      have hr : k ∈ r.map (·.1) := by
        rw [List.map_cons, List.mem_cons] at h
        exact h.elim (fun y => absurd y.symm z) id
      exact ((flat_put ky.2 hr).append_left _).trans List.perm_middle
theorem own_put {d : Addr} {bs : List Bx} {k : Int} {c : Addr × List Int} (ky : (bs.map (·.1)).Nodup) (h : k ∈ bs.map (·.1)) : (ownB d (putB bs k c)).Perm (c.1 :: ownB d bs) :=
  ((flat_put ky h).cons d).trans (List.Perm.swap _ _ _)
theorem mem_put {bs : List Bx} {k : Int} {c : Addr × List Int} {b : Bx} (h : b ∈ putB bs k c) : ∃ a ∈ bs, b = if a.1 = k then (a.1, a.2.1, a.2.2 ++ [c]) else a := by
  obtain ⟨a, ha, e⟩ := List.mem_map.mp h
  exact ⟨a, ha, e.symm⟩
/-- one cell more in a list that is there -/
theorem DAt.put {H H' : Hp} {d : Addr} {bs : List Bx} {k : Int} {c : Addr} {ns : List Int} {b0 : Bx} (h : DAt H d bs) (hb0 : b0 ∈ bs) (hk : b0.1 = k) (hc : c ∉ ownB d bs) (hn : ns.length = 24)
    (e1 : H' b0.2.1 = some (.lst ((b0.2.2.map fun c => V.ref c.1) ++ [V.ref c]))) (e2 : H' c = some (.lst (ns.map V.int))) (k1 : ∀ x ∈ ownB d bs, x ≠ b0.2.1 → H' x = H x) : DAt H' d (putB bs k (c, ns)) := by
  have hkm : k ∈ bs.map (·.1) := List.mem_map.mpr ⟨b0, hb0, hk⟩
  have nd := List.nodup_cons.mp h.nd
  have ndl : ∀ b ∈ bs, d ≠ b.2.1 := fun b hb z => nd.1 (by rw [z]; exact List.mem_flatMap.mpr ⟨b, hb, List.mem_cons_self⟩)
  -- the lists' and cells' addresses stand apart
  have apart : ∀ {bs : List Bx}, (bs.flatMap fun b => b.2.1 :: b.2.2.map (·.1)).Nodup → ∀ a ∈ bs, ∀ b ∈ bs, (a.2.1 = b.2.1 → a = b) ∧ ∀ c ∈ a.2.2, c.1 ≠ b.2.1 := by
    intro bs
    induction bs with
    | nil => intro _ a ha; simp at ha
    | cons x r ih =>
      intro hnd a ha b hb
      rw [List.flatMap_cons, List.nodup_append] at hnd
      obtain ⟨n1, n2, n3⟩ := hnd
      have inr : ∀ y ∈ r, y.2.1 ∈ r.flatMap (fun b => b.2.1 :: b.2.2.map (·.1)) ∧ ∀ c ∈ y.2.2, c.1 ∈ r.flatMap (fun b => b.2.1 :: b.2.2.map (·.1)) := fun y hy => ⟨List.mem_flatMap.mpr ⟨y, hy, List.mem_cons_self⟩, fun c hc => List.mem_flatMap.mpr ⟨y, hy, List.mem_cons_of_mem _ (List.mem_map.mpr ⟨c, hc, rfl⟩)⟩⟩
      rcases List.mem_cons.mp ha with rfl | ha'
      · rcases List.mem_cons.mp hb with rfl | hb'
        · refine ⟨fun _ => rfl, fun c hc z => ?_⟩
          exact (List.nodup_cons.mp n1).1 (List.mem_map.mpr ⟨c, hc, z⟩)
        · refine ⟨fun z => absurd z (n3 _ List.mem_cons_self _ (inr b hb').1), fun c hc => n3 _ (List.mem_cons_of_mem _ (List.mem_map.mpr ⟨c, hc, rfl⟩)) _ (inr b hb').1⟩
      · rcases List.mem_cons.mp hb with rfl | hb'
        · refine ⟨fun z => absurd z.symm (n3 _ List.mem_cons_self _ (inr a ha').1), fun c hc z => n3 _ List.mem_cons_self _ ((inr a ha').2 c hc) z.symm⟩
        · exact ih n2 a ha' b hb'
  refine ⟨?_, fun b hb => ?_, fun b hb x hx => ?_, ?_, ?_⟩
  · rw [kvs_put, k1 d List.mem_cons_self (ndl b0 hb0)]; exact h.at_
  · obtain ⟨a, ha, rfl⟩ := mem_put hb
    by_cases z : a.1 = k
    · have ea := box_uniq h.ky ha hb0 (z.trans hk.symm)
      rw [if_pos z, ea]
      show H' b0.2.1 = some (.lst ((b0.2.2 ++ [(c, ns)]).map fun c => V.ref c.1))
      rw [List.map_append]; exact e1
    · rw [if_neg z, k1 _ (mem_own_l ha) fun y => z (by rw [(apart nd.2 a ha b0 hb0).1 y]; exact hk)]
      exact h.ls a ha
  · obtain ⟨a, ha, rfl⟩ := mem_put hb
    have old : ∀ x ∈ a.2.2, H' x.1 = some (.lst (x.2.map V.int)) ∧ x.2.length = 24 := fun x hx => by
      rw [k1 _ (mem_own_c ha hx) ((apart nd.2 a ha b0 hb0).2 x hx)]; exact h.cs a ha x hx
    by_cases z : a.1 = k
    · rw [if_pos z] at hx
      rcases List.mem_append.mp hx with hx | hx
      · exact old x hx
      · rw [List.mem_singleton.mp hx]; exact ⟨e2, hn⟩
    · rw [if_neg z] at hx; exact old x hx
  · exact (own_put h.ky hkm).nodup_iff.mpr (List.nodup_cons.mpr ⟨hc, h.nd⟩)
  · rw [put_keys]; exact h.ky
/-- one cell in a list that comes new -/
theorem DAt.new {H H' : Hp} {d : Addr} {bs : List Bx} {k : Int} {l c : Addr} {ns : List Int} (h : DAt H d bs) (hk : k ∉ bs.map (·.1)) (hl : l ∉ ownB d bs) (hc : c ∉ ownB d bs) (hlc : l ≠ c) (hn : ns.length = 24)
    (e0 : H' d = some (.dK (kvsB bs ++ [(.inl k, .ref l)]))) (e1 : H' l = some (.lst [V.ref c])) (e2 : H' c = some (.lst (ns.map V.int))) (k1 : ∀ x ∈ ownB d bs, x ≠ d → H' x = H x) : DAt H' d (bs ++ [(k, l, [(c, ns)])]) := by
  have nd := List.nodup_cons.mp h.nd
  have nx : ∀ x ∈ bs.flatMap (fun b => b.2.1 :: b.2.2.map (·.1)), x ≠ d := fun x hx z => nd.1 (z ▸ hx)
  refine ⟨?_, fun b hb => ?_, fun b hb x hx => ?_, ?_, ?_⟩
  · rw [e0]; unfold kvsB; rw [List.map_append]; rfl
  · rcases List.mem_append.mp hb with hb | hb
    · rw [k1 _ (mem_own_l hb) (nx _ (List.mem_flatMap.mpr ⟨b, hb, List.mem_cons_self⟩))]; exact h.ls b hb
    · rw [List.mem_singleton.mp hb]; exact e1
  · rcases List.mem_append.mp hb with hb | hb
    · rw [k1 _ (mem_own_c hb hx) (nx _ (List.mem_flatMap.mpr ⟨b, hb, List.mem_cons_of_mem _ (List.mem_map.mpr ⟨x, hx, rfl⟩)⟩))]; exact h.cs b hb x hx
    · rw [List.mem_singleton.mp hb] at hx
      rw [List.mem_singleton.mp hx]; exact ⟨e2, hn⟩
  · have e : ownB d (bs ++ [(k, l, [(c, ns)])]) = ownB d bs ++ [l, c] := by unfold ownB; rw [List.flatMap_append]; rfl
    rw [e, List.nodup_append]
    refine ⟨h.nd, ?_, fun x hx y hy z => ?_⟩
    · simp [hlc]
    · subst z
      rcases List.mem_cons.mp hy with rfl | hy
      · exact hl hx
      · rw [List.mem_singleton.mp hy] at hx; exact hc hx
  · rw [List.map_append, List.nodup_append]
    refine ⟨h.ky, by simp, fun x hx y hy z => hk ?_⟩
    rw [List.mem_singleton.mp hy] at z
    have z' : x = k := z
    exact z' ▸ hx
theorem own_new {d : Addr} {bs : List Bx} {k : Int} {l : Addr} {c : Addr × List Int} : ownB d (bs ++ [(k, l, [c])]) = ownB d bs ++ [l, c.1] := by unfold ownB; rw [List.flatMap_append]; rfl
end
end K19
namespace K19
open PySem L2 PyProof.Rows
section
variable {P : Program} {w : World} {K : PySem.W.Frag} {mg : Str → Option Value} {base : Heap} {t : Ad}
/-! is_sign -/
def sp_is_sign : Sp := fun vs H Q _ => ∃ n : Int, vs = [.int n] ∧ Q (.bl (decide (0 ≤ n ∧ n < 97))) H
theorem sc_is_sign : FnScope ["number"] ["number"] (defScope s_is_sign) := ⟨rfl, rfl, rfl, by decide +kernel, rfl, by decide +kernel, by decide +kernel⟩
theorem ok_is_sign (F : Site K mg "is_sign" s_is_sign) (T : Txt K mg t) : Def P w K mg base 1 "is_sign" ["number"] sp_is_sign := by
  refine F.def sc_is_sign (fun _ _ _ _ _ _ us hl => match us, hl with | [_], _ => rfl) (fun vs H Q E h => ?_) (fun f cdv A outer s H vs Q E hr h => ?_)
  · obtain ⟨n, rfl, _⟩ := h
    rfl
  · obtain ⟨n, rfl, q⟩ := h
    refine ⟨_, pss_one (ps_ret (pe_chain op_le op_lt pe_int (pv 0) (pe_gint T.cSIGNS))), ?_⟩
    refine ⟨_, rfl, _, _, rfl, rfl, _, rfl, ?_⟩
    by_cases h0 : 0 ≤ n
    · rw [decide_eq_true h0]
      refine iteT ⟨_, _, rfl, rfl, ?_⟩
      have e : decide (n < 97) = decide (0 ≤ n ∧ n < 97) := by simp [h0]
      show Q (.bl (decide (n < 97))) H
      rw [e]
      exact q
    · rw [decide_eq_false h0]
      refine iteF ?_
      have e : false = decide (0 ≤ n ∧ n < 97) := by simp [h0]
      show Q (.bl false) H
      rw [e]
      exact q
/-! look_signs -/
def IsRow (m : Int) (ns : List Int) : Prop := (ns.length : Int) = m ∧ ∀ n ∈ ns, 0 ≤ n ∧ n < 97
def sp_look_signs (K : PySem.W.Frag) (C : Addr) : Sp := fun vs H Q E => ∃ (l : Addr) (ns : List Int) (m : Int), vs = [.ref l, .int m] ∧ SqL K H l (ns.map V.int) ∧ (∀ n ∈ ns, n.natAbs < 2 ^ 1000) ∧ m.natAbs < 2 ^ 1000 ∧
  (IsRow m ns → Q .non H) ∧ (¬ IsRow m ns → E (.ref C) none H)
theorem txt_len {i : Int} (h : i.natAbs < 2 ^ 1000) : (Str.ofString (toString i)).length ≤ 1001 := by
  have hl : i.natAbs.log2 < 1000 := by
    by_cases z : i.natAbs = 0
    · rw [z]; decide
    · exact (Nat.log2_lt z).mpr h
  have e := int_text_length_le (k := 1000) (by decide) hl
  rw [PySem.ofString_length]; omega
theorem sc_look_signs : FnScope ["signs", "many", "sign"] ["signs", "many"] (defScope s_look_signs) := ⟨rfl, rfl, rfl, by decide +kernel, rfl, by decide +kernel, by decide +kernel⟩
theorem ok_look_signs (F : Site K mg "look_signs" s_look_signs) (T : Txt K mg t) (D_is_sign : Def P w K mg base 1 "is_sign" ["number"] sp_is_sign) : Def P w K mg base 2 "look_signs" ["signs", "many"] (sp_look_signs K t.BadCell) := by
  refine F.def sc_look_signs (fun _ _ _ _ _ _ us hl => match us, hl with | [_, _], _ => rfl) (fun vs H Q E h => ?_) (fun f cdv A outer s H vs Q E hr h => ?_)
  · obtain ⟨l, ns, m, rfl, _⟩ := h
    rfl
  · obtain ⟨l, ns, m, rfl, hl, hb, hm, q1, q2⟩ := h
    refine ⟨_, pss_cons (ps_if (pt_cmpR op_ne (pe_callB (call_lenK K) (by rfl) T.n_len boot_len (pa_cons (pv 0) pa_nil)) (pv 1) (nomark _))
        (pss_one (ps_raise cx1_body rfl rfl T.mBadCell T.xBadCell PySem.F.excBase_ValueError (pa_cons (pe_fstr (pj_cons (pe_fmtI (pv 1)) (pj_cons pe_str pj_nil))) pa_nil)))
        (pss_nil))
      (pss_one (ps_for (own1 cx1_body) rfl (pi_listK K (pv 0)) (pg_name (i := 2) sc_look_signs.nd rfl (Or.inl rfl))
        (pss_one (ps_if (pt_not (pt_val (pe_def (D_is_sign.mono (by decide)) hr passN (pa_cons (pv 2) pa_nil))))
          (pss_one (ps_raise cx1_body rfl rfl T.mBadCell T.xBadCell PySem.F.excBase_ValueError (pa_cons (pe_fstr (pj_cons (pe_fmtI (pv 2)) (pj_cons pe_str pj_nil))) pa_nil)))
          (pss_nil))))), ?_⟩
    have sl : (2000 : Nat) ≤ sizeLine := by decide
    refine ⟨_, rfl, l, _, rfl, .inl hl, _, rfl, rfl, _, rfl, ?_⟩
    by_cases hlen : (ns.length : Int) = m
    · refine iteNN (by rw [List.length_map, hlen]) ?_
      refine ⟨_, rfl, l, rfl, ⟨_, hl⟩, for_list (K := K) (a := l) (xs := ns.map V.int) (fun i σ H' => ∃ x : Option V, σ = [some (.ref l), some (.int m), x] ∧ H' = H ∧ ∀ n ∈ ns.take i, 0 ≤ n ∧ n < 97) ⟨none, rfl, rfl, fun n hn => by simp at hn⟩ (fun i σ H' _ ⟨_, _, e, _⟩ => by rw [e]; exact hl) ?_ ?_⟩
      · rintro i y σ H' hi ⟨x, rfl, rfl, ha⟩
        obtain ⟨z, hz, rfl⟩ := item_of hi
        have hzm : z ∈ ns := List.mem_of_getElem? hz
        refine ⟨_, rfl, z, rfl, _, rfl, ?_⟩
        by_cases h0 : 0 ≤ z ∧ z < 97
        · rw [decide_eq_true h0]
          refine iteF ⟨some (.int z), rfl, rfl, ?_⟩
          rw [take_succ hz]
          intro n hn
          rcases List.mem_append.mp hn with z1 | z1
          · exact ha n z1
          · rw [List.mem_singleton.mp z1]; exact h0
        · rw [decide_eq_false h0]
          refine iteT ?_
          have hzl := txt_len (hb z hzm)
          have e0 : (Str.empty ++ Str.ofString (toString z)).length ≤ 1001 := by rw [strLen_append]; show 0 + _ ≤ 1001; omega
          have e1 : ((Str.empty ++ Str.ofString (toString z)) ++ (" is no sign" : Str)).length ≤ 2000 := by
            have : (" is no sign" : Str).length = 11 := by decide +kernel
            rw [strLen_append]; omega
          refine ⟨_, rfl, z, rfl, log_lt (hb z hzm) (by decide) (by decide), _, rfl, by omega, _, rfl, by omega, by omega, ?_⟩
          exact ⟨by show 1 ≤ sizeLine; decide, q2 fun r => h0 (r.2 z hzm)⟩
      · rintro σ H' ⟨x, rfl, rfl, ha⟩
        rw [List.length_map, List.take_length] at ha
        exact q1 ⟨hlen, ha⟩
    · refine iteNY (fun e => hlen (by have := V.int.inj e; rwa [List.length_map] at this)) ?_
      have hzl := txt_len hm
      have e0 : (Str.empty ++ Str.ofString (toString m)).length ≤ 1001 := by rw [strLen_append]; show 0 + _ ≤ 1001; omega
      have e1 : ((Str.empty ++ Str.ofString (toString m)) ++ (" signs are asked for here" : Str)).length ≤ 2000 := by
        have : (" signs are asked for here" : Str).length = 25 := by decide +kernel
        rw [strLen_append]; omega
      refine ⟨_, rfl, m, rfl, log_lt hm (by decide) (by decide), _, rfl, by omega, _, rfl, by omega, by omega, ?_⟩
      exact ⟨by show 1 ≤ sizeLine; decide, q2 fun r => hlen r.1⟩
/-! a cell by places -/
structure IsCell (n : Nat) (f : Nat → Int) : Prop where
  b : ∀ i, i < n → 0 ≤ f i ∧ f i < 97
theorem IsCell.row {n : Nat} {f : Nat → Int} (h : IsCell n f) : IsRow n ((List.range n).map f) := by
  refine ⟨by simp, fun x hx => ?_⟩
  obtain ⟨i, hi, rfl⟩ := List.mem_map.mp hx
  exact h.b i (List.mem_range.mp hi)
theorem IsCell.far {n : Nat} {f : Nat → Int} (h : IsCell n f) : ∀ x ∈ (List.range n).map f, x.natAbs < 2 ^ 1000 := fun x hx => by
  obtain ⟨i, hi, rfl⟩ := List.mem_map.mp hx
  have := h.b i (List.mem_range.mp hi)
  exact small_abs (by omega) (by omega)
/-! look_cell -/
def sp_look_cell (K : PySem.W.Frag) (C : Addr) : Sp := fun vs H Q E => ∃ (l : Addr) (ns : List Int), vs = [.ref l] ∧ SqL K H l (ns.map V.int) ∧ (∀ n ∈ ns, n.natAbs < 2 ^ 1000) ∧
  (IsRow 24 ns → Q .non H) ∧ (¬ IsRow 24 ns → E (.ref C) none H)
theorem sc_look_cell : FnScope ["cell"] ["cell"] (defScope s_look_cell) := ⟨rfl, rfl, rfl, by decide +kernel, rfl, by decide +kernel, by decide +kernel⟩
theorem ok_look_cell (F : Site K mg "look_cell" s_look_cell) (T : Txt K mg t) (D_look_signs : Def P w K mg base 2 "look_signs" ["signs", "many"] (sp_look_signs K t.BadCell)) : Def P w K mg base 3 "look_cell" ["cell"] (sp_look_cell K t.BadCell) := by
  refine F.def sc_look_cell (fun _ _ _ _ _ _ us hl => match us, hl with | [_], _ => rfl) (fun vs H Q E h => ?_) (fun f cdv A outer s H vs Q E hr h => ?_)
  · obtain ⟨l, ns, rfl, _⟩ := h
    rfl
  · obtain ⟨l, ns, rfl, hl, hb, q1, q2⟩ := h
    refine ⟨_, pss_one (ps_expr (pe_def (D_look_signs.mono (by decide)) hr (pass1 cx1_body) (pa_cons (pv 0) (pa_cons (pe_gint T.cPLACES) pa_nil)))), ?_⟩
    exact ⟨_, rfl, l, ns, 24, rfl, hl, hb, by decide, q1, q2⟩
/-! look_late -/
def sp_look_late (C : Addr) : Sp := fun vs H Q E => ∃ n : Int, vs = [.int n] ∧ n.natAbs < 2 ^ 1000 ∧ (1 ≤ n ∧ n ≤ 6 → Q .non H) ∧ (¬ (1 ≤ n ∧ n ≤ 6) → E (.ref C) none H)
theorem sc_look_late : FnScope ["late"] ["late"] (defScope s_look_late) := ⟨rfl, rfl, rfl, by decide +kernel, rfl, by decide +kernel, by decide +kernel⟩
theorem ok_look_late (F : Site K mg "look_late" s_look_late) (T : Txt K mg t) : Def P w K mg base 1 "look_late" ["late"] (sp_look_late t.BadMeasure) := by
  refine F.def sc_look_late (fun _ _ _ _ _ _ us hl => match us, hl with | [_], _ => rfl) (fun vs H Q E h => ?_) (fun f cdv A outer s H vs Q E hr h => ?_)
  · obtain ⟨n, rfl, _⟩ := h
    rfl
  · obtain ⟨n, rfl, hb, q1, q2⟩ := h
    refine ⟨_, pss_one (ps_if (pt_not (pt_chain op_le op_le pe_int (pv 0) (pe_gint T.cMOST_LATE)))
        (pss_one (ps_raise cx1_body rfl rfl T.mBadMeasure T.xBadMeasure PySem.F.excBase_ValueError (pa_cons (pe_fstr (pj_cons pe_str (pj_cons (pe_fmtI (pe_gint T.cMOST_LATE)) (pj_cons pe_str (pj_cons (pe_fmtI (pv 0)) pj_nil))))) pa_nil)))
        (pss_nil)), ?_⟩
    have sl : (3000 : Nat) ≤ sizeLine := by decide
    have bad : ¬ (1 ≤ n ∧ n ≤ 6) → _ := fun z => q2 z
    have l1 : ("late is from 1 to " : Str).length = 18 := by decide +kernel
    have l2 : (", not " : Str).length = 6 := by decide +kernel
    have z6 := txt_len (i := 6) (by decide)
    have zn := txt_len hb
    have e0 : (Str.empty ++ ("late is from 1 to " : Str)).length ≤ 18 := by rw [strLen_append, l1]; show 0 + 18 ≤ 18; omega
    have e1 : ((Str.empty ++ ("late is from 1 to " : Str)) ++ Str.ofString (toString (6 : Int))).length ≤ 1019 := by rw [strLen_append]; omega
    have e2 : (((Str.empty ++ ("late is from 1 to " : Str)) ++ Str.ofString (toString (6 : Int))) ++ (", not " : Str)).length ≤ 1025 := by rw [strLen_append]; omega
    have e3 : ((((Str.empty ++ ("late is from 1 to " : Str)) ++ Str.ofString (toString (6 : Int))) ++ (", not " : Str)) ++ Str.ofString (toString n)).length ≤ 2026 := by rw [strLen_append]; omega
    refine ⟨_, rfl, _, _, rfl, rfl, _, rfl, ?_⟩
    by_cases h1 : 1 ≤ n
    · refine iteY h1 ?_
      refine ⟨_, _, rfl, rfl, _, rfl, ?_⟩
      by_cases h2 : n ≤ 6
      · rw [decide_eq_true h2]
        exact iteF (q1 ⟨h1, h2⟩)
      · rw [decide_eq_false h2]
        refine iteT ?_
        refine ⟨_, rfl, by omega, 6, rfl, log_lt (n := 1000) (by decide) (by decide) (by decide), _, rfl, by omega, _, rfl, by omega, _, rfl, n, rfl, log_lt hb (by decide) (by decide), _, rfl, by omega, by omega, ?_⟩
        exact ⟨by show 1 ≤ sizeLine; decide, q2 (by omega)⟩
    · refine iteN h1 ⟨_, rfl, iteT ?_⟩
      refine ⟨_, rfl, by omega, 6, rfl, log_lt (n := 1000) (by decide) (by decide) (by decide), _, rfl, by omega, _, rfl, by omega, _, rfl, n, rfl, log_lt hb (by decide) (by decide), _, rfl, by omega, by omega, ?_⟩
      exact ⟨by show 1 ≤ sizeLine; decide, q2 (by omega)⟩
/-! fates by places -/
structure Ft where
  m : Nat
  dl : Nat → Int
  cn : Nat → Nat
  pl : Nat → Nat → Int
  ad : Nat → Nat → Int
def IsTurns (K : PySem.W.Frag) (H : Hp) (a : Addr) (n : Nat) (pl ad : Nat → Int) : Prop := ∃ tps : Nat → Addr, SqT K H a (tabR n tps) ∧ ∀ k, k < n → SqT K H (tps k) [.int (pl k), .int (ad k)]
def IsFate (K : PySem.W.Frag) (H : Hp) (a : Addr) (f : Ft) : Prop := ∃ aps tns : Nat → Addr, SqT K H a (tabR f.m aps) ∧ ∀ k, k < f.m → SqT K H (aps k) [.int (f.dl k), .ref (tns k)] ∧ IsTurns K H (tns k) (f.cn k) (f.pl k) (f.ad k)
theorem Same.turns {H H' : Hp} {a : Addr} {n : Nat} {pl ad : Nat → Int} (s : Same H H') (h : IsTurns K H a n pl ad) : IsTurns K H' a n pl ad := let ⟨tps, h1, h2⟩ := h; ⟨tps, s.tup h1, fun k hk => s.tup (h2 k hk)⟩
theorem Same.fate {H H' : Hp} {a : Addr} {f : Ft} (s : Same H H') (h : IsFate K H a f) : IsFate K H' a f := let ⟨aps, tns, h1, h2⟩ := h; ⟨aps, tns, s.tup h1, fun k hk => ⟨s.tup (h2 k hk).1, Same.turns s (h2 k hk).2⟩⟩
structure GoodT (n : Nat) (pl ad : Nat → Int) : Prop where
  few : n ≤ 4
  b : ∀ k, k < n → 0 ≤ pl k ∧ pl k < 24 ∧ 1 ≤ ad k ∧ ad k < 97
  up : ∀ k, k + 1 < n → pl k < pl (k + 1)
structure GoodF (late : Int) (f : Ft) : Prop where
  few : f.m ≤ 3
  d : ∀ k, k < f.m → 1 ≤ f.dl k ∧ f.dl k ≤ late
  t : ∀ k, k < f.m → GoodT (f.cn k) (f.pl k) (f.ad k)
theorem IsTurns.len {H : Hp} {a : Addr} {n : Nat} {pl ad : Nat → Int} (h : IsTurns K H a n pl ad) : ∃ xs, SqT K H a xs ∧ xs.length = n := let ⟨tps, h1, _⟩ := h; ⟨_, h1, tab_len _ _⟩
/-! look_turns, look_fate -/
theorem tx_len {i : Int} (h : i.natAbs < 2 ^ 1000) : (Str.ofString (toString i)).length ≤ 1001 := by
  have hl : i.natAbs.log2 < 1000 := by
    by_cases z : i.natAbs = 0
    · rw [z]; decide
    · exact (Nat.log2_lt z).mpr h
  have e := int_text_length_le (k := 1000) (by decide) hl
  rw [PySem.ofString_length]; omega
theorem ln0 {a : Str} {k : Nat} (h : a.length ≤ k) : (Str.empty ++ a).length ≤ k := by rw [strLen_append]; show 0 + _ ≤ k; omega
theorem ln1 {a b : Str} {k m : Nat} (h : a.length ≤ k) (g : b.length ≤ m) : (a ++ b).length ≤ k + m := by rw [strLen_append]; omega
structure FarT (n : Nat) (pl ad : Nat → Int) : Prop where
  few : n ≤ 1000
  b : ∀ k, k < n → (pl k).natAbs < 2 ^ 1000 ∧ (ad k).natAbs < 2 ^ 1000
def sp_look_turns (K : PySem.W.Frag) (C : Addr) : Sp := fun vs H Q E => ∃ (a : Addr) (n : Nat) (pl ad : Nat → Int), vs = [.ref a] ∧ IsTurns K H a n pl ad ∧ FarT n pl ad ∧ (GoodT n pl ad → Q .non H) ∧ (¬ GoodT n pl ad → E (.ref C) none H)
theorem sc_look_turns : FnScope ["turns", "ahead", "place", "add"] ["turns"] (defScope s_look_turns) := ⟨rfl, rfl, rfl, by decide +kernel, rfl, by decide +kernel, by decide +kernel⟩
theorem ok_look_turns (F : Site K mg "look_turns" s_look_turns) (T : Txt K mg t) : Def P w K mg base 1 "look_turns" ["turns"] (sp_look_turns K t.BadFate) := by
  refine F.def sc_look_turns (fun _ _ _ _ _ _ us hl => match us, hl with | [_], _ => rfl) (fun vs H Q E h => ?_) (fun f cdv A outer s H vs Q E hr h => ?_)
  · obtain ⟨a, n, pl, ad, rfl, _⟩ := h
    rfl
  · obtain ⟨a, n, pl, ad, rfl, ⟨tps, ha, ht⟩, far, q1, q2⟩ := h
    refine ⟨_, pss_cons (ps_if (pt_cmpR op_gt (pe_callB (call_lenK K) (by rfl) T.n_len boot_len (pa_cons (pv 0) pa_nil)) (pe_gint T.cMOST_TURNS) (nomark _))
        (pss_one (ps_raise cx1_body rfl rfl T.mBadFate T.xBadFate PySem.F.excBase_ValueError (pa_cons (pe_fstr (pj_cons pe_str (pj_cons (pe_fmtI (pe_gint T.cMOST_TURNS)) (pj_cons pe_str pj_nil)))) pa_nil)))
        (pss_nil))
      (pss_cons (ps_set (i := 1) sc_look_turns.nd rfl (Or.inl rfl) (pe_un un_neg pe_int))
      (pss_one (ps_for (own1 cx1_body) rfl (pi_tupK K (pv 0)) (pg_twoK K (i := 2) (j := 3) rfl sc_look_turns.nd rfl rfl (Or.inl rfl) (Or.inl rfl))
        (pss_cons (ps_if (pt_not (pt_chain op_lt op_lt (pv 1) (pv 2) (pe_gint T.cPLACES)))
          (pss_one (ps_raise cx1_body rfl rfl T.mBadFate T.xBadFate PySem.F.excBase_ValueError (pa_cons (pe_fstr (pj_cons pe_str (pj_cons (pe_fmtI (pv 2)) (pj_cons pe_str (pj_cons (pe_fmtI (pv 1)) (pj_cons pe_str pj_nil)))))) pa_nil)))
          (pss_nil))
        (pss_cons (ps_if (pt_not (pt_chain op_le op_lt pe_int (pv 3) (pe_gint T.cSIGNS)))
          (pss_one (ps_raise cx1_body rfl rfl T.mBadFate T.xBadFate PySem.F.excBase_ValueError (pa_cons (pe_fstr (pj_cons pe_str (pj_cons (pe_fmtI (pv 3)) pj_nil))) pa_nil)))
          (pss_nil))
        (pss_one (ps_set (i := 1) sc_look_turns.nd rfl (Or.inl rfl) (pv 2)))))))), ?_⟩
    have sl : (9000 : Nat) ≤ sizeLine := by decide
    refine ⟨_, rfl, a, _, rfl, .inr ha, _, _, rfl, rfl, _, rfl, ?_⟩
    rw [tab_len]
    by_cases hn : n > 4
    · refine iteY (by omega) ?_
      have t1 : ("an arrival has at most " : Str).length ≤ 60 := by decide +kernel
      have t2 : (" turns" : Str).length ≤ 60 := by decide +kernel
      have e0 := ln0 t1
      have e1 := ln1 e0 (tx_len (i := 4) (by decide))
      have e2 := ln1 e1 t2
      refine ⟨_, rfl, by omega, 4, rfl, log_lt (n := 1000) (by decide) (by decide) (by decide), _, rfl, by omega, _, rfl, by omega, by omega, ?_⟩
      exact ⟨by show 1 ≤ sizeLine; decide, q2 fun g => by have := g.few; omega⟩
    · refine iteN (by omega) ?_
      refine ⟨_, rfl, _, rfl, a, rfl, ⟨_, ha⟩, ?_⟩
      refine for_tup (K := K) (a := a) (xs := tabR n tps) (fun i σ H' => ∃ v2 v3 : Option V, σ = [some (.ref a), some (.int (if i = 0 then -1 else pl (i - 1))), v2, v3] ∧ H' = H ∧ (∀ k, k < i → 0 ≤ pl k ∧ pl k < 24 ∧ 1 ≤ ad k ∧ ad k < 97) ∧ ∀ k, k + 1 < i → pl k < pl (k + 1)) ⟨none, none, rfl, rfl, fun k hk => by omega, fun k hk => by omega⟩ (fun i σ H' _ ⟨_, _, _, e, _⟩ => by rw [e]; exact ha) ?_ ?_
      · rintro i x σ H' hx ⟨v2, v3, rfl, rfl, gb, gu⟩
        obtain ⟨hi, rfl⟩ := tab_of hx
        obtain ⟨fp, fa⟩ := far.b i hi
        have fah : (if i = 0 then (-1 : Int) else pl (i - 1)).natAbs < 2 ^ 1000 := by
          by_cases z : i = 0
          · rw [if_pos z]; decide
          · rw [if_neg z]; exact (far.b (i - 1) (by omega)).1
        have lo : ∀ k, k < i → pl k ≤ (if i = 0 then (-1 : Int) else pl (i - 1)) := by
          intro k hk
          rw [if_neg (by omega)]
          have : ∀ d, k + d < i → pl k ≤ pl (k + d) := by
            intro d
            induction d with
            | zero => intro _; exact Int.le_refl _
            | succ d ih => intro h; have := ih (by omega); have := gu (k + d) (by omega); rw [show k + (d + 1) = k + d + 1 by omega]; omega
          have := this (i - 1 - k) (by omega)
          rwa [show k + (i - 1 - k) = i - 1 by omega] at this
        have lo1 : -1 ≤ (if i = 0 then (-1 : Int) else pl (i - 1)) := by
          by_cases z : i = 0
          · rw [if_pos z]; decide
          · rw [if_neg z]; have := gb (i - 1) (by omega); omega
        have nxt : ∀ (g : GoodT n pl ad), (if i = 0 then (-1 : Int) else pl (i - 1)) < pl i := fun g => by
          by_cases z : i = 0
          · rw [if_pos z]; have := g.b i hi; omega
          · rw [if_neg z]; have := g.up (i - 1) (by omega); rwa [show i - 1 + 1 = i by omega] at this
        generalize hA : (if i = 0 then (-1 : Int) else pl (i - 1)) = A0 at *
        refine take_two (ht i hi) ?_
        have t1 : ("the place " : Str).length ≤ 60 := by decide +kernel
        have t2 : (" of a turn is not behind " : Str).length ≤ 60 := by decide +kernel
        have t3 : (" or not in a cell" : Str).length ≤ 60 := by decide +kernel
        have e0 := ln0 t1
        have e1 := ln1 e0 (tx_len fp)
        have e2 := ln1 e1 t2
        have e3 := ln1 e2 (tx_len fah)
        have e4 := ln1 e3 t3
        have t4 : ("a turn adds a sign but 0, not " : Str).length ≤ 60 := by decide +kernel
        have d0 := ln0 t4
        have d1 := ln1 d0 (tx_len fa)
        refine ⟨_, rfl, _, rfl, _, _, rfl, rfl, _, rfl, ?_⟩
        have bad1 : ¬ (A0 < pl i ∧ pl i < 24) → ¬ GoodT n pl ad := fun z g => z ⟨nxt g, (g.b i hi).2.1⟩
        by_cases h1 : A0 < pl i
        · refine iteY h1 ?_
          refine ⟨_, _, rfl, rfl, _, rfl, ?_⟩
          by_cases h2 : pl i < 24
          · rw [decide_eq_true h2]
            refine iteF ?_
            refine ⟨_, rfl, _, _, rfl, rfl, _, rfl, ?_⟩
            have bad2 : ¬ (1 ≤ ad i ∧ ad i < 97) → ¬ GoodT n pl ad := fun z g => z (g.b i hi).2.2
            by_cases h3 : 1 ≤ ad i
            · refine iteY h3 ?_
              refine ⟨_, _, rfl, rfl, _, rfl, ?_⟩
              by_cases h4 : ad i < 97
              · rw [decide_eq_true h4]
                refine iteF ?_
                refine ⟨_, rfl, some (.int (pl i)), some (.int (ad i)), ?_, rfl, ?_, ?_⟩
                · rw [if_neg (Nat.succ_ne_zero i), Nat.add_sub_cancel]; rfl
                · intro k hk
                  by_cases z : k = i
                  · rw [z]; exact ⟨by omega, h2, h3, h4⟩
                  · exact gb k (by omega)
                · intro k hk
                  by_cases z : k + 1 = i
                  · have := lo k (by omega); rw [z]; omega
                  · exact gu k (by omega)
              · rw [decide_eq_false h4]
                refine iteT ?_
                refine ⟨_, rfl, by omega, _, rfl, ad i, rfl, log_lt fa (by decide) (by decide), _, rfl, by omega, by omega, ?_⟩
                exact ⟨by show 1 ≤ sizeLine; decide, q2 (bad2 fun z => h4 z.2)⟩
            · refine iteN h3 ⟨_, rfl, iteT ?_⟩
              refine ⟨_, rfl, by omega, _, rfl, ad i, rfl, log_lt fa (by decide) (by decide), _, rfl, by omega, by omega, ?_⟩
              exact ⟨by show 1 ≤ sizeLine; decide, q2 (bad2 fun z => h3 z.1)⟩
          · rw [decide_eq_false h2]
            refine iteT ?_
            refine ⟨_, rfl, by omega, _, rfl, pl i, rfl, log_lt fp (by decide) (by decide), _, rfl, by omega, _, rfl, by omega, _, rfl, A0, rfl, log_lt fah (by decide) (by decide), _, rfl, by omega, _, rfl, by omega, by omega, ?_⟩
            exact ⟨by show 1 ≤ sizeLine; decide, q2 (bad1 fun z => h2 z.2)⟩
        · refine iteN h1 ⟨_, rfl, iteT ?_⟩
          refine ⟨_, rfl, by omega, _, rfl, pl i, rfl, log_lt fp (by decide) (by decide), _, rfl, by omega, _, rfl, by omega, _, rfl, A0, rfl, log_lt fah (by decide) (by decide), _, rfl, by omega, _, rfl, by omega, by omega, ?_⟩
          exact ⟨by show 1 ≤ sizeLine; decide, q2 (bad1 fun z => h1 z.1)⟩
      · rintro σ H' ⟨v2, v3, rfl, rfl, gb, gu⟩
        rw [tab_len] at gb gu
        exact q1 ⟨by omega, gb, gu⟩
structure FarF (f : Ft) : Prop where
  few : f.m ≤ 1000
  d : ∀ k, k < f.m → (f.dl k).natAbs < 2 ^ 1000
  t : ∀ k, k < f.m → FarT (f.cn k) (f.pl k) (f.ad k)
def sp_look_fate (K : PySem.W.Frag) (C : Addr) : Sp := fun vs H Q E => ∃ (a : Addr) (f : Ft) (late : Int), vs = [.ref a, .int late] ∧ IsFate K H a f ∧ FarF f ∧ late.natAbs < 2 ^ 1000 ∧ (GoodF late f → Q .non H) ∧ (¬ GoodF late f → E (.ref C) none H)
theorem sc_look_fate : FnScope ["fate", "late", "delay", "turns"] ["fate", "late"] (defScope s_look_fate) := ⟨rfl, rfl, rfl, by decide +kernel, rfl, by decide +kernel, by decide +kernel⟩
theorem ok_look_fate (F : Site K mg "look_fate" s_look_fate) (T : Txt K mg t) (D_look_turns : Def P w K mg base 1 "look_turns" ["turns"] (sp_look_turns K t.BadFate)) : Def P w K mg base 2 "look_fate" ["fate", "late"] (sp_look_fate K t.BadFate) := by
  refine F.def sc_look_fate (fun _ _ _ _ _ _ us hl => match us, hl with | [_, _], _ => rfl) (fun vs H Q E h => ?_) (fun f cdv A outer s H vs Q E hr h => ?_)
  · obtain ⟨a, f, late, rfl, _⟩ := h
    rfl
  · obtain ⟨a, f, late, rfl, ⟨aps, tns, ha, hk⟩, far, hl, q1, q2⟩ := h
    refine ⟨_, pss_cons (ps_if (pt_cmpR op_gt (pe_callB (call_lenK K) (by rfl) T.n_len boot_len (pa_cons (pv 0) pa_nil)) (pe_gint T.cMOST_ARRIVALS) (nomark _))
        (pss_one (ps_raise cx1_body rfl rfl T.mBadFate T.xBadFate PySem.F.excBase_ValueError (pa_cons (pe_fstr (pj_cons pe_str (pj_cons (pe_fmtI (pe_gint T.cMOST_ARRIVALS)) (pj_cons pe_str pj_nil)))) pa_nil)))
        (pss_nil))
      (pss_one (ps_for (own1 cx1_body) rfl (pi_tupK K (pv 0)) (pg_twoK K (i := 2) (j := 3) rfl sc_look_fate.nd rfl rfl (Or.inl rfl) (Or.inl rfl))
        (pss_cons (ps_if (pt_not (pt_chain op_le op_le pe_int (pv 2) (pv 1)))
          (pss_one (ps_raise cx1_body rfl rfl T.mBadFate T.xBadFate PySem.F.excBase_ValueError (pa_cons (pe_fstr (pj_cons pe_str (pj_cons (pe_fmtI (pv 1)) (pj_cons pe_str (pj_cons (pe_fmtI (pv 2)) pj_nil))))) pa_nil)))
          (pss_nil))
        (pss_one (ps_expr (pe_def (D_look_turns.mono (by decide)) hr (pass1 cx1_body) (pa_cons (pv 3) pa_nil))))))), ?_⟩
    have sl : (9000 : Nat) ≤ sizeLine := by decide
    refine ⟨_, rfl, a, _, rfl, .inr ha, _, _, rfl, rfl, _, rfl, ?_⟩
    rw [tab_len]
    by_cases hn : f.m > 3
    · refine iteY (by omega) ?_
      have t1 : ("a fate has at most " : Str).length ≤ 60 := by decide +kernel
      have t2 : (" arrivals" : Str).length ≤ 60 := by decide +kernel
      have e0 := ln0 t1
      have e1 := ln1 e0 (tx_len (i := 3) (by decide))
      have e2 := ln1 e1 t2
      refine ⟨_, rfl, by omega, 3, rfl, log_lt (n := 1000) (by decide) (by decide) (by decide), _, rfl, by omega, _, rfl, by omega, by omega, ?_⟩
      exact ⟨by show 1 ≤ sizeLine; decide, q2 fun g => by have := g.few; omega⟩
    · refine iteN (by omega) ?_
      refine ⟨_, rfl, a, rfl, ⟨_, ha⟩, ?_⟩
      refine for_tup (K := K) (a := a) (xs := tabR f.m aps) (fun i σ H' => ∃ v2 v3 : Option V, σ = [some (.ref a), some (.int late), v2, v3] ∧ H' = H ∧ ∀ k, k < i → (1 ≤ f.dl k ∧ f.dl k ≤ late) ∧ GoodT (f.cn k) (f.pl k) (f.ad k)) ⟨none, none, rfl, rfl, fun k hk => by omega⟩ (fun i σ H' _ ⟨_, _, _, e, _⟩ => by rw [e]; exact ha) ?_ ?_
      · rintro i x σ H' hx ⟨v2, v3, rfl, rfl, gb⟩
        obtain ⟨hi, rfl⟩ := tab_of hx
        have fd := far.d i hi
        refine take_two (hk i hi).1 ?_
        have t1 : ("a delay is from 1 to " : Str).length ≤ 60 := by decide +kernel
        have t2 : (", not " : Str).length ≤ 60 := by decide +kernel
        have e0 := ln0 t1
        have e1 := ln1 e0 (tx_len hl)
        have e2 := ln1 e1 t2
        have e3 := ln1 e2 (tx_len fd)
        have bad : ¬ (1 ≤ f.dl i ∧ f.dl i ≤ late) → ¬ GoodF late f := fun z g => z (g.d i hi)
        refine ⟨_, rfl, _, _, rfl, rfl, _, rfl, ?_⟩
        by_cases h1 : 1 ≤ f.dl i
        · refine iteY h1 ?_
          refine ⟨_, rfl, _, _, rfl, rfl, _, rfl, ?_⟩
          by_cases h2 : f.dl i ≤ late
          · rw [decide_eq_true h2]
            refine iteF ?_
            refine ⟨_, rfl, tns i, f.cn i, f.pl i, f.ad i, rfl, (hk i hi).2, far.t i hi, fun g => ?_, fun g => q2 fun z => g (z.t i hi)⟩
            refine ⟨_, _, rfl, rfl, fun k hki => ?_⟩
            by_cases z : k = i
            · rw [z]; exact ⟨⟨h1, h2⟩, g⟩
            · exact gb k (by omega)
          · rw [decide_eq_false h2]
            refine iteT ?_
            refine ⟨_, rfl, by omega, _, rfl, late, rfl, log_lt hl (by decide) (by decide), _, rfl, by omega, _, rfl, by omega, _, rfl, f.dl i, rfl, log_lt fd (by decide) (by decide), _, rfl, by omega, by omega, ?_⟩
            exact ⟨by show 1 ≤ sizeLine; decide, q2 (bad fun z => h2 z.2)⟩
        · refine iteN h1 ⟨_, rfl, iteT ?_⟩
          refine ⟨_, rfl, by omega, _, rfl, late, rfl, log_lt hl (by decide) (by decide), _, rfl, by omega, _, rfl, by omega, _, rfl, f.dl i, rfl, log_lt fd (by decide) (by decide), _, rfl, by omega, by omega, ?_⟩
          exact ⟨by show 1 ≤ sizeLine; decide, q2 (bad fun z => h1 z.1)⟩
      · rintro σ H' ⟨v2, v3, rfl, rfl, gb⟩
        rw [tab_len] at gb
        exact q1 ⟨by omega, fun k hk => (gb k hk).1, fun k hk => (gb k hk).2⟩
end
end K19
namespace K19
open PySem L2 PyProof.Rows
section
variable {P : Program} {w : World} {K : PySem.W.Frag} {mg : Str → Option Value} {base : Heap} {t : Ad}
/-! _law_pot -/
def sp__law_pot : Sp := fun vs H Q _ => ∃ c : Int, vs = [.int c] ∧ ∀ (p : Addr) (r m : Int), H p = none → 0 ≤ r → 0 ≤ m → m < 2147483647 → Q (.ref p) (upd H p (.lst [.int r, .int 0, .int m]))
theorem sc__law_pot : FnScope ["cell", "rest"] ["cell"] (defScope s__law_pot) := ⟨rfl, rfl, rfl, by decide +kernel, rfl, by decide +kernel, by decide +kernel⟩
theorem ok__law_pot (F : Site K mg "_law_pot" s__law_pot) (T : Txt K mg t) : Def P w K mg base 1 "_law_pot" ["cell"] sp__law_pot := by
  refine F.def sc__law_pot (fun _ _ _ _ _ _ us hl => match us, hl with | [_], _ => rfl) (fun vs H Q E h => ?_) (fun f cdv A outer s H vs Q E hr h => ?_)
  · obtain ⟨c, rfl, _⟩ := h
    rfl
  · obtain ⟨c, rfl, q⟩ := h
    refine ⟨_, pss_cons (ps_set (i := 1) sc__law_pot.nd rfl (Or.inl rfl) pe_int)
      (pss_cons (ps_if (pt_cmpR op_ge (pe_callB call_abs (by rfl) T.n_abs (by decide +kernel) (pa_cons (pv 0) pa_nil)) (pe_op op_pow pe_int pe_int) (nomark _))
        (pss_one (ps_set (i := 1) sc__law_pot.nd rfl (Or.inl rfl) (pe_op op_add (pe_op op_sub (pe_callB call_abs (by rfl) T.n_abs (by decide +kernel) (pa_cons (pv 0) pa_nil)) (pe_op op_pow pe_int pe_int)) pe_int))) pss_nil)
      (pss_one (ps_ret (pe_lst (pa_cons (pv 1) (pa_cons pe_int (pa_cons (pe_op op_mod (pv 0) pe_int) pa_nil))))))), ?_⟩
    refine ⟨_, rfl, _, rfl, _, _, rfl, rfl, ⟨by decide, by decide, by decide⟩, _, _, rfl, rfl, _, rfl, ?_⟩
    have hm1 : 0 ≤ c % 2147483647 := Int.emod_nonneg _ (by decide)
    have hm2 : c % 2147483647 < 2147483647 := Int.emod_lt_of_pos _ (by decide)
    have p18 : (10 : Int) ^ (18 : Int).toNat = 1000000000000000000 := by decide
    refine ite2 (fun h => ?_) (fun h => ?_)
    · have h' : (10 : Int) ^ (18 : Int).toNat ≤ (if c < 0 then -c else c) := of_decide_eq_true h
      refine ⟨_, rfl, _, rfl, _, _, rfl, rfl, ⟨by decide, by decide, by decide⟩, _, _, rfl, rfl, _, _, rfl, rfl, _, rfl, _, rfl, _, _, rfl, rfl, (by show (0 : Int) < 2147483647; decide), by show 3 ≤ sizeLine; decide, fun p hp => ?_⟩
      exact q p _ _ hp (by omega) hm1 hm2
    · refine ⟨_, rfl, _, rfl, _, _, rfl, rfl, (by show (0 : Int) < 2147483647; decide), by show 3 ≤ sizeLine; decide, fun p hp => ?_⟩
      exact q p _ _ hp (by omega) hm1 hm2
/-! _law_take -/
def sp__law_take : Sp := fun vs H Q _ => ∃ (p : Addr) (size r k m : Int), vs = [.ref p, .int size] ∧ 0 < size ∧ size < 1073741824 ∧ H p = some (.lst [.int r, .int k, .int m]) ∧ 0 ≤ r ∧ 0 ≤ k ∧ k < 1000000 ∧ 0 ≤ m ∧ m < 2147483647 ∧
  ∀ (d r' k' : Int), 0 ≤ d → d < size → 0 ≤ r' → k ≤ k' → k' ≤ k + 1 → Q (.int d) (upd H p (.lst [.int r', .int k', .int m]))
theorem sc__law_take : FnScope ["pot", "size", "digit", "k", "mark"] ["pot", "size"] (defScope s__law_take) := ⟨rfl, rfl, rfl, by decide +kernel, rfl, by decide +kernel, by decide +kernel⟩
theorem ok__law_take (F : Site K mg "_law_take" s__law_take) : Def P w K mg base 1 "_law_take" ["pot", "size"] sp__law_take := by
  refine F.def sc__law_take (fun _ _ _ _ _ _ us hl => match us, hl with | [_, _], _ => rfl) (fun vs H Q E h => ?_) (fun f cdv A outer s H vs Q E hr h => ?_)
  · obtain ⟨p, size, r, k, m, rfl, _⟩ := h
    rfl
  · obtain ⟨p, size, r, k, m, rfl, s0, s1, hp, r0, k0, k1, m0, m1, q⟩ := h
    refine ⟨_, pss_cons (ps_if (pt_cmpR op_gt (pe_ix ix_list (pv 0) pe_int (fun _ _ => rfl)) pe_int (nomark _))
        (pss_cons (ps_set (i := 2) sc__law_take.nd rfl (Or.inl rfl) (pe_op op_mod (pe_ix ix_list (pv 0) pe_int (fun _ _ => rfl)) (pv 1)))
        (pss_cons (ps_asg (pe_op op_fdiv (pe_ix ix_list (pv 0) pe_int (fun _ _ => rfl)) (pv 1)) (pg_sub (pv 0) pe_int set_list))
        (pss_one (ps_ret (pv 2))))) pss_nil)
      (pss_cons (ps_asg (pe_op op_add (pe_ix ix_list (pv 0) pe_int (fun _ _ => rfl)) pe_int) (pg_sub (pv 0) pe_int set_list))
      (pss_cons (ps_set (i := 3) sc__law_take.nd rfl (Or.inl rfl) (pe_ix ix_list (pv 0) pe_int (fun _ _ => rfl)))
      (pss_cons (ps_set (i := 4) sc__law_take.nd rfl (Or.inl rfl) (pe_op op_mod (pe_op op_add (pe_op op_add (pe_op op_add (pe_ix ix_list (pv 0) pe_int (fun _ _ => rfl)) (pe_op op_mul (pe_op op_mul pe_int (pv 3)) (pv 3))) (pe_op op_mul pe_int (pv 3))) pe_int) pe_int))
      (pss_cons (ps_set (i := 4) sc__law_take.nd rfl (Or.inl rfl) (pe_op op_mod (pe_op op_mul (pe_op op_mod (pe_op op_mul (pv 4) (pv 4)) pe_int) pe_int) pe_int))
      (pss_one (ps_ret (pe_op op_mod (pe_op op_fdiv (pv 4) pe_int) (pv 1)))))))), ?_⟩
    refine ⟨_, rfl, p, _, _, _, rfl, rfl, SqL.of hp, rfl, _, _, rfl, rfl, _, rfl, ?_⟩
    refine ite2 (fun h => ?_) (fun h => ?_)
    · have h' : 0 < r := of_decide_eq_true h
      refine ⟨_, rfl, p, _, _, _, rfl, rfl, SqL.of hp, rfl, _, rfl, _, _, rfl, rfl, s0, ?_⟩
      refine ⟨_, rfl, p, _, _, _, rfl, rfl, SqL.of hp, rfl, _, rfl, _, _, rfl, rfl, ⟨s0, s1⟩, _, rfl, p, _, _, _, rfl, rfl, hp, rfl, ?_⟩
      refine ⟨_, rfl, ?_⟩
      exact q _ _ _ (Int.emod_nonneg _ (by omega)) (Int.emod_lt_of_pos _ s0) (Int.ediv_nonneg r0 (by omega)) (Int.le_refl _) (by omega)
    · have hp2 : ∀ xs, (upd H p (.lst xs)) p = some (.lst xs) := fun xs => upd_same
      refine ⟨_, rfl, p, _, _, _, rfl, rfl, SqL.of hp, rfl, _, _, rfl, rfl, _, rfl, p, _, _, _, rfl, rfl, hp, rfl, ?_⟩
      refine ⟨_, rfl, p, _, _, _, rfl, rfl, SqL.of (hp2 _), rfl, ?_⟩
      refine ⟨_, rfl, p, _, _, _, rfl, rfl, SqL.of (hp2 _), rfl, _, rfl, _, _, rfl, rfl, .inl ⟨by decide, by decide⟩, _, rfl, _, _, rfl, rfl, .inr ⟨by omega, by omega⟩, _, _, rfl, rfl, _, rfl, _, _, rfl, rfl, .inl ⟨by decide, by decide⟩, _, _, rfl, rfl, _, _, rfl, rfl, _, _, rfl, rfl, (by show (0 : Int) < 2147483647; decide), ?_⟩
      generalize hM : (m + 977 * (k + 1) * (k + 1) + 40692 * (k + 1) + 1) % 2147483647 = M
      have hM1 : 0 ≤ M := by rw [← hM]; exact Int.emod_nonneg _ (by decide)
      have hM2 : M < 2147483647 := by rw [← hM]; exact Int.emod_lt_of_pos _ (by decide)
      refine ⟨_, rfl, _, rfl, _, _, rfl, rfl, .inl ⟨by omega, by omega⟩, _, _, rfl, rfl, (by show (0 : Int) < 1000000007; decide), _, _, rfl, rfl, .inr ⟨by decide, by decide⟩, _, _, rfl, rfl, (by show (0 : Int) < 998244353; decide), ?_⟩
      refine ⟨_, rfl, _, _, rfl, rfl, ⟨by decide, by decide⟩, _, rfl, _, _, rfl, rfl, s0, ?_⟩
      exact q _ _ _ (Int.emod_nonneg _ (by omega)) (Int.emod_lt_of_pos _ s0) r0 (by omega) (Int.le_refl _)
/-- the pot stands at p beside what the shadow B holds -/
structure Pot (B H : Hp) (p : Addr) (r k m : Int) : Prop where
  no : B p = none
  at_ : H p = some (.lst [.int r, .int k, .int m])
  sm : Same B H
  r0 : 0 ≤ r
  k0 : 0 ≤ k
  m0 : 0 ≤ m
  m1 : m < 2147483647
theorem Pot.turn {B H : Hp} {p : Addr} {r k m r' k' : Int} (h : Pot B H p r k m) (r0 : 0 ≤ r') (k0 : k ≤ k') : Pot B (upd H p (.lst [.int r', .int k', .int m])) p r' k' m :=
  ⟨h.no, upd_same, h.sm.put h.no, r0, by have := h.k0; omega, h.m0, h.m1⟩
theorem Pot.keep {B H H' : Hp} {p : Addr} {r k m : Int} (h : Pot B H p r k m) (s : Same H H') : Pot B H' p r k m := ⟨h.no, s _ _ h.at_, h.sm.trans s, h.r0, h.k0, h.m0, h.m1⟩
theorem Pot.more {B H : Hp} {p q : Addr} {o : HO} {r k m : Int} (h : Pot B H p r k m) (e : H q = some o) (n : q ≠ p) : Pot (upd B q o) H p r k m := ⟨by rw [upd_ne (Ne.symm n)]; exact h.no, h.at_, h.sm.both e, h.r0, h.k0, h.m0, h.m1⟩
/-- an object other than the pot is put otherwise -/
theorem Pot.put {B H : Hp} {p q : Addr} {o : HO} {r k m : Int} (h : Pot B H p r k m) (e : B q = none) (n : q ≠ p) : Pot B (upd H q o) p r k m := ⟨h.no, by rw [upd_ne (Ne.symm n)]; exact h.at_, h.sm.put e, h.r0, h.k0, h.m0, h.m1⟩
/-! _law_whole -/
def sp__law_whole : Sp := fun vs H Q _ => ∃ n : Int, vs = [.int n] ∧ Q (.bl true) H
theorem sc__law_whole : FnScope ["found"] ["found"] (defScope s__law_whole) := ⟨rfl, rfl, rfl, by decide +kernel, rfl, by decide +kernel, by decide +kernel⟩
theorem ok__law_whole (F : Site K mg "_law_whole" s__law_whole) (T : Txt K mg t) : Def P w K mg base 1 "_law_whole" ["found"] sp__law_whole := by
  refine F.def sc__law_whole (fun _ _ _ _ _ _ us hl => match us, hl with | [_], _ => rfl) (fun vs H Q E h => ?_) (fun f cdv A outer s H vs Q E hr h => ?_)
  · obtain ⟨n, rfl, _⟩ := h
    rfl
  · obtain ⟨n, rfl, q⟩ := h
    refine ⟨_, pss_one (ps_ret (pe_and (pe_callB call_isi (by rfl) T.n_isinstance (by decide +kernel) (pa_cons (pv 0) (pa_cons (pe_bltn (v := .ty "int") (by rfl) T.n_int (by decide +kernel) rfl) pa_nil)))
      (pe_one (pe_not (pe_callB call_isi (by rfl) T.n_isinstance (by decide +kernel) (pa_cons (pv 0) (pa_cons (pe_bltn (v := .ty "bool") (by rfl) T.n_bool (by decide +kernel) rfl) pa_nil))))))), ?_⟩
    refine ⟨_, rfl, _, _, _, _, true, rfl, rfl, .of (.int n), T.isi_int_int, _, rfl, ?_⟩
    refine iteT ?_
    exact ⟨_, rfl, _, _, _, _, false, rfl, rfl, .of (.int n), T.isi_int_bool, _, rfl, q⟩
/-! _law_turns -/
def sp__law_turns (K : PySem.W.Frag) : Sp := fun vs H Q _ => ∃ (B : Hp) (p : Addr) (r k m : Int), vs = [.ref p, .int 4] ∧ Pot B H p r k m ∧ k ≤ 900000 ∧
  ∀ (a : Addr) (B' H' : Hp) (r' k' : Int) (n : Nat) (pl ad : Nat → Int), Same B B' → Pot B' H' p r' k' m → k' ≤ k + 20 → IsTurns K B' a n pl ad → GoodT n pl ad → Q (.ref a) H'
theorem sc__law_turns : FnScope ["pot", "most", "many", "turns", "at", "k"] ["pot", "most"] (defScope s__law_turns) := ⟨rfl, rfl, rfl, by decide +kernel, rfl, by decide +kernel, by decide +kernel⟩
theorem ok__law_turns (F : Site K mg "_law_turns" s__law_turns) (T : Txt K mg t) (D__law_take : Def P w K mg base 1 "_law_take" ["pot", "size"] sp__law_take) : Def P w K mg base 2 "_law_turns" ["pot", "most"] (sp__law_turns K) := by
  refine F.def sc__law_turns (fun _ _ _ _ _ _ us hl => match us, hl with | [_, _], _ => rfl) (fun vs H Q E h => ?_) (fun f cdv A outer s H vs Q E hr h => ?_)
  · obtain ⟨B, p, r, k, m, rfl, _⟩ := h
    rfl
  · obtain ⟨B, p, r, k, m, rfl, hP, hk, q⟩ := h
    refine ⟨_, pss_cons (ps_set (i := 2) sc__law_turns.nd rfl (Or.inl rfl) (pe_def (D__law_take.mono (by decide)) hr passN (pa_cons (pv 0) (pa_cons (pe_op op_add (pv 1) pe_int) pa_nil))))
      (pss_cons (ps_set (i := 3) sc__law_turns.nd rfl (Or.inl rfl) (pe_lst pa_nil))
      (pss_cons (ps_set (i := 4) sc__law_turns.nd rfl (Or.inl rfl) (pe_un un_neg pe_int))
      (pss_cons (PS.nox (ps_for PassesOwn.never rfl (pi_range1 (by rfl) T.n_range (pa_cons (pv 2) pa_nil)) (pg_name (i := 5) sc__law_turns.nd rfl (Or.inl rfl))
        (pss_cons (ps_set (i := 4) sc__law_turns.nd rfl (Or.inl rfl) (pe_op op_add (pe_op op_add (pv 4) pe_int) (pe_def (D__law_take.mono (by decide)) hr passN (pa_cons (pv 0) (pa_cons (pe_op op_add (pe_op op_sub (pe_op op_sub pe_int (pv 4)) (pv 2)) (pv 5)) pa_nil)))))
        (pss_one (ps_expr (pe_bmK K PySem.F.plainAttrs_list PySem.F.slot_list_append PySem.F.type_list_append mt_append (pv 3) (pa_cons (pe_tup (pa_cons (pv 4) (pa_cons (pe_op op_add pe_int (pe_def (D__law_take.mono (by decide)) hr passN (pa_cons (pv 0) (pa_cons pe_int pa_nil)))) pa_nil))) pa_nil)))))))
      (pss_one (ps_ret (pe_callTy (call_tupleK K) (by rfl) T.n_tuple boot_tuple (pa_cons (pv 3) pa_nil))))))), ?_⟩
    have hsz : (2000 : Nat) ≤ sizeLine := by decide
    refine ⟨_, rfl, _, rfl, _, _, rfl, rfl, p, 5, r, k, m, rfl, by decide, by decide, hP.at_, hP.r0, hP.k0, by omega, hP.m0, hP.m1, fun d r1 k1 d0 d1 r10 k10 k11 => ?_⟩
    have hP1 := hP.turn (r' := r1) (k' := k1) r10 k10
    generalize upd H p (.lst [V.int r1, V.int k1, V.int m]) = H1 at *
    obtain ⟨n, hn⟩ : ∃ n : Nat, d = n := ⟨d.toNat, by omega⟩
    subst hn
    refine ⟨by show 0 ≤ sizeLine; decide, fun L hL => ?_⟩
    have nL : L ≠ p := fun e => by rw [e, hP1.at_] at hL; cases hL
    have hBL : B L = none := hP1.sm.free hL
    refine ⟨_, rfl, ?_⟩
    refine ⟨_, rfl, (n : Int), rfl, by omega, by omega, ?_⟩
    rw [Int.toNat_natCast]
    refine for_range (lo := 0) (n := n) (fun i σ H2 => ∃ (B2 : Hp) (r2 k2 a : Int) (v : Option V) (tps : Nat → Addr) (pl ad : Nat → Int), σ = [some (.ref p), some (.int 4), some (.int (n : Nat)), some (.ref L), some (.int a), v] ∧ Same B B2 ∧ B2 L = none ∧ Pot B2 H2 p r2 k2 m ∧ k2 ≤ k1 + 2 * i ∧ H2 L = some (.lst (tabR i tps)) ∧
        (∀ y, y < i → B2 (tps y) = some (.tup [.int (pl y), .int (ad y)])) ∧ -1 ≤ a ∧ a ≤ 23 - (n : Nat) + (i : Nat) ∧ (∀ y, y < i → 0 ≤ pl y ∧ pl y ≤ a ∧ 1 ≤ ad y ∧ ad y < 97) ∧ (∀ y, y + 1 < i → pl y < pl (y + 1)) ∧ ∀ y, y + 1 = i → pl y = a)
      ⟨B, r1, k1, -1, none, fun _ => 0, fun _ => 0, fun _ => 0, rfl, Same.refl _, hBL, hP1.put hBL nL, by omega, upd_same, fun y hy => by omega, by omega, by omega, fun y hy => by omega, fun y hy => by omega, fun y hy => by omega⟩ ?_ ?_
    · rintro i σ H2 hi ⟨B2, r2, k2, a, v, tps, pl, ad, rfl, sB, hL2, hP2, hk2, hLL, ht, a0, a1, hb, hup, hlast⟩
      refine ⟨_, rfl, _, _, rfl, rfl, _, rfl, _, rfl, _, _, rfl, rfl, _, rfl, _, _, rfl, rfl, _, rfl, _, _, rfl, rfl, p, _, r2, k2, m, rfl, by omega, by omega, hP2.at_, hP2.r0, hP2.k0, by omega, hP2.m0, hP2.m1, fun d3 r3 k3 d30 d31 r30 k30 k31 => ?_⟩
      have hP3 := hP2.turn (r' := r3) (k' := k3) r30 k30
      have hL3 : (upd H2 p (.lst [V.int r3, V.int k3, V.int m])) L = some (.lst (tabR i tps)) := by rw [upd_ne nL]; exact hLL
      generalize upd H2 p (.lst [V.int r3, V.int k3, V.int m]) = H3 at *
      refine ⟨_, _, rfl, rfl, ?_⟩
      refine ⟨_, rfl, .inl ⟨rfl, _, SqL.of hL3⟩, _, rfl, _, rfl, p, 96, r3, k3, m, rfl, by decide, by decide, hP3.at_, hP3.r0, hP3.k0, by omega, hP3.m0, hP3.m1, fun d4 r4 k4 d40 d41 r40 k40 k41 => ?_⟩
      have hP4 := hP3.turn (r' := r4) (k' := k4) r40 k40
      have hL4 : (upd H3 p (.lst [V.int r4, V.int k4, V.int m])) L = some (.lst (tabR i tps)) := by rw [upd_ne nL]; exact hL3
      generalize upd H3 p (.lst [V.int r4, V.int k4, V.int m]) = H4 at *
      refine ⟨_, _, rfl, rfl, by show 2 ≤ sizeLine; decide, fun tp htp => ?_⟩
      have ntp : tp ≠ p := fun e => by rw [e, hP4.at_] at htp; cases htp
      have nLt : L ≠ tp := ne_of_none hL4 htp
      have hB4 : B2 tp = none := hP4.sm.free htp
      have hP5 := (hP4.put (o := .tup [V.int (a + 1 + d3), V.int (1 + d4)]) hB4 ntp).more (q := tp) (o := .tup [V.int (a + 1 + d3), V.int (1 + d4)]) upd_same ntp
      refine ⟨L, _, _, rfl, rfl, by rw [upd_ne nLt]; exact hL4, by rw [tab_len]; omega, ?_⟩
      rw [tabR_snoc]
      have sB5 : Same B (upd B2 tp (.tup [V.int (a + 1 + d3), V.int (1 + d4)])) := sB.trans (Same.grow hB4)
      have hBL5 : (upd B2 tp (.tup [V.int (a + 1 + d3), V.int (1 + d4)])) L = none := by rw [upd_ne nLt]; exact hL2
      refine ⟨_, r4, k4, a + 1 + d3, _, _, fun y => if y = i then a + 1 + d3 else pl y, fun y => if y = i then 1 + d4 else ad y, rfl, sB5, hBL5, hP5.put hBL5 nL, by omega, upd_same, fun y hy => ?_, by omega, by omega, fun y hy => ?_, fun y hy => ?_, fun y hy => ?_⟩
      · by_cases e : y = i
        · simp only [e, if_true]; exact upd_same
        · simp only [e, if_false]
          have := ht y (by omega)
          rw [upd_ne (ne_of_none this hB4)]
          exact this
      · by_cases e : y = i
        · simp only [e, if_true]; omega
        · simp only [e, if_false]
          have := hb y (by omega)
          omega
      · by_cases e : y + 1 = i
        · have e1 : y ≠ i := by omega
          simp only [e1, if_false, e, if_true]
          have := hlast y e
          omega
        · have e1 : y ≠ i := by omega
          simp only [e1, if_false, e]
          exact hup y (by omega)
      · have e1 : y = i := by omega
        simp only [e1, if_true]
    · rintro σ H2 ⟨B2, r2, k2, a, v, tps, pl, ad, rfl, sB, hL2, hP2, hk2, hLL, ht, a0, a1, hb, hup, hlast⟩
      refine ⟨_, rfl, L, _, rfl, .inl ⟨SqL.of hLL, fun x hx => ?_⟩⟩
      have nx : x ≠ p := fun e => by rw [e, hP2.at_] at hx; cases hx
      have hBx : B2 x = none := hP2.sm.free hx
      have hP3 := (hP2.put (o := .tup (tabR n tps)) hBx nx).more (q := x) (o := .tup (tabR n tps)) upd_same nx
      have gx : Same B2 (upd B2 x (.tup (tabR n tps))) := Same.grow hBx
      refine q x _ _ r2 k2 n pl ad (sB.trans gx) hP3 (by omega) ⟨tps, SqT.of upd_same, fun y hy => SqT.of (gx _ _ (ht y hy))⟩ ⟨by omega, fun y hy => ?_, fun y hy => hup y hy⟩
      have := hb y hy
      omega
/-! _law_fate -/
def sp__law_fate (K : PySem.W.Frag) : Sp := fun vs H Q _ => ∃ (B : Hp) (p : Addr) (r k m late : Int), vs = [.ref p, .int late] ∧ 1 ≤ late ∧ late ≤ 6 ∧ Pot B H p r k m ∧ k ≤ 800000 ∧
  ∀ (a : Addr) (B' H' : Hp) (r' k' : Int) (f : Ft), Same B B' → Pot B' H' p r' k' m → k' ≤ k + 100 → IsFate K B' a f → GoodF late f → Q (.ref a) H'
theorem sc__law_fate : FnScope ["pot", "late", "fate", "k", "delay"] ["pot", "late"] (defScope s__law_fate) := ⟨rfl, rfl, rfl, by decide +kernel, rfl, by decide +kernel, by decide +kernel⟩
theorem ok__law_fate (F : Site K mg "_law_fate" s__law_fate) (T : Txt K mg t) (D__law_take : Def P w K mg base 1 "_law_take" ["pot", "size"] sp__law_take) (D__law_turns : Def P w K mg base 2 "_law_turns" ["pot", "most"] (sp__law_turns K)) : Def P w K mg base 3 "_law_fate" ["pot", "late"] (sp__law_fate K) := by
  refine F.def sc__law_fate (fun _ _ _ _ _ _ us hl => match us, hl with | [_, _], _ => rfl) (fun vs H Q E h => ?_) (fun f cdv A outer s H vs Q E hr h => ?_)
  · obtain ⟨B, p, r, k, m, late, rfl, _⟩ := h
    rfl
  · obtain ⟨B, p, r, k, m, late, rfl, l0, l1, hP, hk, q⟩ := h
    refine ⟨_, pss_cons (ps_set (i := 2) sc__law_fate.nd rfl (Or.inl rfl) (pe_lst pa_nil))
      (pss_cons (PS.nox (ps_for PassesOwn.never rfl (pi_range1 (by rfl) T.n_range (pa_cons (pe_def (D__law_take.mono (by decide)) hr passN (pa_cons (pv 0) (pa_cons pe_int pa_nil))) pa_nil)) (pg_name (i := 3) sc__law_fate.nd rfl (Or.inl rfl))
        (pss_cons (ps_set (i := 4) sc__law_fate.nd rfl (Or.inl rfl) (pe_op op_add pe_int (pe_def (D__law_take.mono (by decide)) hr passN (pa_cons (pv 0) (pa_cons (pv 1) pa_nil)))))
        (pss_one (ps_expr (pe_bmK K PySem.F.plainAttrs_list PySem.F.slot_list_append PySem.F.type_list_append mt_append (pv 2) (pa_cons (pe_tup (pa_cons (pv 4) (pa_cons (pe_def (D__law_turns.mono (by decide)) hr passN (pa_cons (pv 0) (pa_cons pe_int pa_nil))) pa_nil))) pa_nil)))))))
      (pss_one (ps_ret (pe_callTy (call_tupleK K) (by rfl) T.n_tuple boot_tuple (pa_cons (pv 2) pa_nil))))), ?_⟩
    have hsz : (2000 : Nat) ≤ sizeLine := by decide
    refine ⟨by show 0 ≤ sizeLine; decide, fun L hL => ?_⟩
    have nL : L ≠ p := fun e => by rw [e, hP.at_] at hL; cases hL
    have hBL : B L = none := hP.sm.free hL
    have hP0 := hP.put (o := .lst []) hBL nL
    have hLL : (upd H L (.lst [])) L = some (.lst []) := upd_same
    generalize upd H L (.lst []) = H0 at *
    refine ⟨_, rfl, p, 4, r, k, m, rfl, by decide, by decide, hP0.at_, hP0.r0, hP0.k0, by omega, hP0.m0, hP0.m1, fun d r1 k1 d0 d1 r10 k10 k11 => ?_⟩
    have hP1 := hP0.turn (r' := r1) (k' := k1) r10 k10
    have hL1 : (upd H0 p (.lst [V.int r1, V.int k1, V.int m])) L = some (.lst []) := by rw [upd_ne nL]; exact hLL
    generalize upd H0 p (.lst [V.int r1, V.int k1, V.int m]) = H1 at *
    obtain ⟨n, hn⟩ : ∃ n : Nat, d = n := ⟨d.toNat, by omega⟩
    subst hn
    refine ⟨(n : Int), rfl, by omega, by omega, ?_⟩
    rw [Int.toNat_natCast]
    refine for_range (lo := 0) (n := n) (fun i σ H2 => ∃ (B2 : Hp) (r2 k2 : Int) (v3 v4 : Option V) (aps tns : Nat → Addr) (dl : Nat → Int) (cn : Nat → Nat) (pl ad : Nat → Nat → Int), σ = [some (.ref p), some (.int late), some (.ref L), v3, v4] ∧ Same B B2 ∧ B2 L = none ∧ Pot B2 H2 p r2 k2 m ∧ k2 ≤ k1 + 30 * i ∧ H2 L = some (.lst (tabR i aps)) ∧
        ∀ y, y < i → B2 (aps y) = some (.tup [.int (dl y), .ref (tns y)]) ∧ IsTurns K B2 (tns y) (cn y) (pl y) (ad y) ∧ 1 ≤ dl y ∧ dl y ≤ late ∧ GoodT (cn y) (pl y) (ad y))
      ⟨B, r1, k1, none, none, fun _ => 0, fun _ => 0, fun _ => 0, fun _ => 0, fun _ _ => 0, fun _ _ => 0, rfl, Same.refl _, hBL, hP1, by omega, hL1, fun y hy => by omega⟩ ?_ ?_
    · rintro i σ H2 hi ⟨B2, r2, k2, v3, v4, aps, tns, dl, cn, pl, ad, rfl, sB, hL2, hP2, hk2, hLL2, hy⟩
      refine ⟨_, rfl, _, rfl, p, late, r2, k2, m, rfl, by omega, by omega, hP2.at_, hP2.r0, hP2.k0, by omega, hP2.m0, hP2.m1, fun d3 r3 k3 d30 d31 r30 k30 k31 => ?_⟩
      have hP3 := hP2.turn (r' := r3) (k' := k3) r30 k30
      have hL3 : (upd H2 p (.lst [V.int r3, V.int k3, V.int m])) L = some (.lst (tabR i aps)) := by rw [upd_ne nL]; exact hLL2
      generalize upd H2 p (.lst [V.int r3, V.int k3, V.int m]) = H3 at *
      refine ⟨_, _, rfl, rfl, ?_⟩
      -- the list of arrivals stands in the shadow while the turns are drawn
      have hP3' := hP3.more hL3 nL
      refine ⟨_, rfl, .inl ⟨rfl, _, SqL.of hL3⟩, _, rfl, _, rfl, upd B2 L (.lst (tabR i aps)), p, r3, k3, m, rfl, hP3', by omega, fun x B4 H4 r4 k4 n4 pl4 ad4 sB4 hP4 hk4 hT4 gT4 => ?_⟩
      have hL4 : B4 L = some (.lst (tabR i aps)) := sB4 _ _ upd_same
      have hLH := hP4.sm _ _ hL4
      have s24 : Same B2 B4 := (Same.grow hL2).trans sB4
      refine ⟨by show 2 ≤ sizeLine; decide, fun tp htp => ?_⟩
      have ntp : tp ≠ p := fun e => by rw [e, hP4.at_] at htp; cases htp
      have nLt : L ≠ tp := ne_of_none hLH htp
      have hB4 : B4 tp = none := hP4.sm.free htp
      refine ⟨L, _, _, rfl, rfl, by rw [upd_ne nLt]; exact hLH, by rw [tab_len]; omega, ?_⟩
      rw [tabR_snoc]
      -- the shadow without the list
      have hB5 : ∀ b o, b ≠ L → B4 b = some o → (fun b => if b = L then none else upd B4 tp (.tup [V.int (1 + d3), V.ref x]) b : Hp) b = some o := fun b o nb e => by
        show (if b = L then none else upd B4 tp (.tup [V.int (1 + d3), V.ref x]) b) = some o
        rw [if_neg nb, upd_ne (ne_of_none e hB4)]
        exact e
      generalize hBB : (fun b => if b = L then none else upd B4 tp (.tup [V.int (1 + d3), V.ref x]) b : Hp) = B5 at *
      have hBL5 : B5 L = none := by rw [← hBB]; exact if_pos rfl
      have hBt5 : B5 tp = some (.tup [V.int (1 + d3), V.ref x]) := by rw [← hBB]; show (if tp = L then none else _) = _; rw [if_neg (Ne.symm nLt)]; exact upd_same
      have nb : ∀ b o, B2 b = some o → b ≠ L := fun b o e z => by rw [z, hL2] at e; cases e
      have s25 : Same B2 B5 := fun b o e => hB5 b o (nb b o e) (s24 _ _ e)
      have sH : Same B5 (upd (upd H4 tp (.tup [V.int (1 + d3), V.ref x])) L (.lst (tabR (i + 1) fun k => if k = i then tp else aps k))) := fun b o e => by
        rw [← hBB] at e
        have nbL : b ≠ L := fun z => by rw [z] at e; have e' : (if L = L then none else upd B4 tp (.tup [V.int (1 + d3), V.ref x]) L) = some o := e; rw [if_pos rfl] at e'; cases e'
        have e' : (if b = L then none else upd B4 tp (.tup [V.int (1 + d3), V.ref x]) b) = some o := e
        rw [if_neg nbL] at e'
        rw [upd_ne nbL]
        by_cases z : b = tp
        · rw [z] at e' ⊢; rw [upd_same] at e' ⊢; exact e'
        · rw [upd_ne z] at e' ⊢; exact hP4.sm _ _ e'
      have hP5 : Pot B5 (upd (upd H4 tp (.tup [V.int (1 + d3), V.ref x])) L (.lst (tabR (i + 1) fun k => if k = i then tp else aps k))) p r4 k4 m := by
        refine ⟨?_, ?_, sH, hP4.r0, hP4.k0, hP4.m0, hP4.m1⟩
        · rw [← hBB]; show (if p = L then none else upd B4 tp _ p) = none; rw [if_neg (Ne.symm nL), upd_ne (Ne.symm ntp)]; exact hP4.no
        · rw [upd_ne (Ne.symm nL), upd_ne (Ne.symm ntp)]; exact hP4.at_
      have keepT : ∀ {b : Addr} {xs : List V}, SqT K B4 b xs → SqT K B5 b xs := fun h => by
        rcases h with (h | ⟨o, h⟩) | h
        · exact .inl (.inl (hB5 _ _ (fun z => by rw [z, hL4] at h; cases h) h))
        · exact .inl (.inr ⟨o, hB5 _ _ (fun z => by rw [z, hL4] at h; cases h) h⟩)
        · exact .inr h
      have hT5 : IsTurns K B5 x n4 pl4 ad4 := by
        obtain ⟨tps, g1, g2⟩ := hT4
        exact ⟨tps, keepT g1, fun y hy => keepT (g2 y hy)⟩
      refine ⟨B5, r4, k4, _, _, _, fun y => if y = i then x else tns y, fun y => if y = i then 1 + d3 else dl y, fun y => if y = i then n4 else cn y, fun y => if y = i then pl4 else pl y, fun y => if y = i then ad4 else ad y, rfl, sB.trans s25, hBL5, hP5, by omega, upd_same, fun y hyi => ?_⟩
      by_cases e : y = i
      · simp only [e, if_true]
        exact ⟨hBt5, hT5, by omega, by omega, gT4⟩
      · simp only [e, if_false]
        obtain ⟨g1, g2, g3⟩ := hy y (by omega)
        exact ⟨s25 _ _ g1, Same.turns s25 g2, g3⟩
    · rintro σ H2 ⟨B2, r2, k2, v3, v4, aps, tns, dl, cn, pl, ad, rfl, sB, hL2, hP2, hk2, hLL2, hy⟩
      refine ⟨_, rfl, L, _, rfl, .inl ⟨SqL.of hLL2, fun x hx => ?_⟩⟩
      have nx : x ≠ p := fun e => by rw [e, hP2.at_] at hx; cases hx
      have hBx : B2 x = none := hP2.sm.free hx
      have hP3 := (hP2.put (o := .tup (tabR n aps)) hBx nx).more (q := x) (o := .tup (tabR n aps)) upd_same nx
      have gx : Same B2 (upd B2 x (.tup (tabR n aps))) := Same.grow hBx
      exact q x _ _ r2 k2 ⟨n, dl, cn, pl, ad⟩ (sB.trans gx) hP3 (by omega) ⟨aps, tns, SqT.of upd_same, fun y hyn => ⟨SqT.of (gx _ _ (hy y hyn).1), Same.turns gx (hy y hyn).2.1⟩⟩ ⟨by show n ≤ 3; omega, fun y hyn => ⟨(hy y hyn).2.2.1, (hy y hyn).2.2.2.1⟩, fun y hyn => (hy y hyn).2.2.2.2⟩
/-! _law_cell -/
def sp__law_cell (K : PySem.W.Frag) : Sp := fun vs H Q _ => ∃ (l : Addr) (ns : List Int) (k : Int), vs = [.ref l, .int k] ∧ SqL K H l (ns.map V.int) ∧ 0 ≤ k ∧ ∀ c : Int, Q (.int c) H
theorem sc__law_cell : FnScope ["script", "k"] ["script", "k"] (defScope s__law_cell) := ⟨rfl, rfl, rfl, by decide +kernel, rfl, by decide +kernel, by decide +kernel⟩
theorem ok__law_cell (F : Site K mg "_law_cell" s__law_cell) (T : Txt K mg t) : Def P w K mg base 1 "_law_cell" ["script", "k"] (sp__law_cell K) := by
  refine F.def sc__law_cell (fun _ _ _ _ _ _ us hl => match us, hl with | [_, _], _ => rfl) (fun vs H Q E h => ?_) (fun f cdv A outer s H vs Q E hr h => ?_)
  · obtain ⟨l, ns, k, rfl, _⟩ := h
    rfl
  · obtain ⟨l, ns, k, rfl, hl, k0, q⟩ := h
    refine ⟨_, pss_cons (ps_if (pt_cmpR op_lt (pv 1) (pe_callB (call_lenK K) (by rfl) T.n_len boot_len (pa_cons (pv 0) pa_nil)) (nomark _))
        (pss_one (ps_ret (pe_ix (ix_listK K) (pv 0) (pv 1) (fun _ _ => rfl))))
        (pss_nil))
      (pss_one (ps_ret pe_int)), ?_⟩
    refine ⟨_, rfl, _, rfl, l, _, rfl, .inl hl, _, _, rfl, rfl, _, rfl, ?_⟩
    by_cases z : k < ((ns.map V.int).length : Nat)
    · refine iteY z ?_
      rw [List.length_map] at z
      obtain ⟨j, rfl⟩ : ∃ j : Nat, k = j := ⟨k.toNat, by omega⟩
      have hj : j < ns.length := by omega
      exact ⟨_, rfl, _, rfl, l, _, _, V.int ns[j], rfl, rfl, hl, atI_nat (by simp [hj]), q _⟩
    · exact iteN z (q 0)
end
end K19
namespace K19
open PySem L2 PyProof.Rows
section
variable {P : Program} {w : World} {K : PySem.W.Frag} {mg : Str → Option Value} {base : Heap} {t : Ad}
/-! turned -/
def turnN (ns : List Int) (pl ad : Nat → Int) : Nat → List Int
  | 0 => ns
  | i + 1 => (turnN ns pl ad i).set (pl i).toNat (((turnN ns pl ad i).getD (pl i).toNat 0 + ad i) % 97)
theorem turn_len (ns : List Int) (pl ad : Nat → Int) : ∀ i, (turnN ns pl ad i).length = ns.length
  | 0 => rfl
  | i + 1 => by rw [turnN, List.length_set]; exact turn_len ns pl ad i
theorem at_ints {ns : List Int} {i : Int} (h0 : 0 ≤ i) (h1 : i < ns.length) : atI (ns.map V.int) i = some (V.int (ns.getD i.toNat 0)) := by
  unfold atI ixN
  rw [List.length_map, if_pos h0, if_pos h1]
  show (ns.map V.int)[i.toNat]? = _
  rw [List.getElem?_map, List.getD_eq_getElem?_getD, List.getElem?_eq_getElem (by omega)]
  rfl
theorem ix_ints {ns : List Int} {i : Int} (h0 : 0 ≤ i) (h1 : i < ns.length) : ixN (ns.map V.int).length i = some i.toNat := by
  unfold ixN
  rw [List.length_map, if_pos h0, if_pos h1]
def sp_turned (K : PySem.W.Frag) : Sp := fun vs H Q _ => ∃ (l a : Addr) (ns : List Int) (n : Nat) (pl ad : Nat → Int), vs = [.ref l, .ref a] ∧ SqL K H l (ns.map V.int) ∧ ns.length = 24 ∧ IsTurns K H a n pl ad ∧ GoodT n pl ad ∧
  ∀ (r : Addr) (H' : Hp), Same H H' → H r = none → H' r = some (.lst ((turnN ns pl ad n).map V.int)) → Q (.ref r) H'
theorem sc_turned : FnScope ["cell", "turns", "signs", "place", "add"] ["cell", "turns"] (defScope s_turned) := ⟨rfl, rfl, rfl, by decide +kernel, rfl, by decide +kernel, by decide +kernel⟩
theorem ok_turned (F : Site K mg "turned" s_turned) (T : Txt K mg t) : Def P w K mg base 1 "turned" ["cell", "turns"] (sp_turned K) := by
  refine F.def sc_turned (fun _ _ _ _ _ _ us hl => match us, hl with | [_, _], _ => rfl) (fun vs H Q E h => ?_) (fun f cdv A outer s H vs Q E hr h => ?_)
  · obtain ⟨l, a, ns, n, pl, ad, rfl, _⟩ := h
    rfl
  · obtain ⟨l, a, ns, n, pl, ad, rfl, hl, hn, ⟨tps, hA, ht⟩, g, q⟩ := h
    refine ⟨_, pss_cons (ps_set (i := 2) sc_turned.nd rfl (Or.inl rfl) (pe_callTy (call_listK K) (by rfl) T.n_list boot_list (pa_cons (pv 0) pa_nil)))
      (pss_cons (PS.nox (ps_for PassesOwn.never rfl (pi_tupK K (pv 1)) (pg_twoK K (i := 3) (j := 4) rfl sc_turned.nd rfl rfl (Or.inl rfl) (Or.inl rfl))
        (pss_one (ps_asg (pe_op op_mod (pe_op op_add (pe_ix (ix_listK K) (pv 2) (pv 3) (fun _ _ => rfl)) (pv 4)) (pe_gint T.cSIGNS)) (pg_sub (pv 2) (pv 3) set_list)))))
      (pss_one (ps_ret (pv 2)))), ?_⟩
    refine ⟨_, rfl, l, _, rfl, .inl hl, fun r hr => ?_⟩
    have s1 := (Same.refl H).new (o := .lst (ns.map V.int)) hr
    refine ⟨_, rfl, a, rfl, ⟨_, s1.tup hA⟩, ?_⟩
    refine for_tup (K := K) (a := a) (xs := tabR n tps) (fun i σ H' => ∃ v3 v4 : Option V, σ = [some (.ref l), some (.ref a), some (.ref r), v3, v4] ∧ Same H H' ∧ H' r = some (.lst ((turnN ns pl ad i).map V.int))) ⟨none, none, rfl, s1, upd_same⟩ (fun i σ H' _ ⟨_, _, _, s2, _⟩ => s2.tup hA) ?_ ?_
    · rintro i x σ H' hx ⟨v3, v4, rfl, s2, hr2⟩
      obtain ⟨hi, rfl⟩ := tab_of hx
      have gb := g.b i hi
      have hlen := turn_len ns pl ad i
      refine take_two (s2.tup (ht i hi)) ?_
      refine ⟨_, rfl, _, rfl, r, _, _, _, rfl, rfl, SqL.of hr2, at_ints (by omega) (by omega), _, rfl, _, _, rfl, rfl, _, _, rfl, rfl, (by show (0 : Int) < 97; decide), ?_⟩
      refine ⟨_, rfl, _, rfl, r, _, _, _, rfl, rfl, hr2, ix_ints (by omega) (by omega), ?_⟩
      refine ⟨_, _, rfl, s2.put hr, ?_⟩
      rw [upd_same]
      show _ = some (HO.lst (((turnN ns pl ad i).set (pl i).toNat (((turnN ns pl ad i).getD (pl i).toNat 0 + ad i) % 97)).map V.int))
      rw [List.map_set]
    · rintro σ H' ⟨v3, v4, rfl, s2, hr2⟩
      rw [tab_len] at hr2
      exact ⟨_, rfl, q r H' s2 hr hr2⟩
theorem sc__law_turned : FnScope ["signs", "turns", "told", "place", "add"] ["signs", "turns"] (defScope s__law_turned) := ⟨rfl, rfl, rfl, by decide +kernel, rfl, by decide +kernel, by decide +kernel⟩
theorem ok__law_turned (F : Site K mg "_law_turned" s__law_turned) (T : Txt K mg t) : Def P w K mg base 1 "_law_turned" ["signs", "turns"] (sp_turned K) := by
  refine F.def sc__law_turned (fun _ _ _ _ _ _ us hl => match us, hl with | [_, _], _ => rfl) (fun vs H Q E h => ?_) (fun f cdv A outer s H vs Q E hr h => ?_)
  · obtain ⟨l, a, ns, n, pl, ad, rfl, _⟩ := h
    rfl
  · obtain ⟨l, a, ns, n, pl, ad, rfl, hl, hn, ⟨tps, hA, ht⟩, g, q⟩ := h
    refine ⟨_, pss_cons (ps_set (i := 2) sc__law_turned.nd rfl (Or.inl rfl) (pe_callTy (call_listK K) (by rfl) T.n_list boot_list (pa_cons (pv 0) pa_nil)))
      (pss_cons (PS.nox (ps_for PassesOwn.never rfl (pi_tupK K (pv 1)) (pg_twoK K (i := 3) (j := 4) rfl sc__law_turned.nd rfl rfl (Or.inl rfl) (Or.inl rfl))
        (pss_one (ps_asg (pe_op op_mod (pe_op op_add (pe_ix (ix_listK K) (pv 2) (pv 3) (fun _ _ => rfl)) (pv 4)) pe_int) (pg_sub (pv 2) (pv 3) set_list)))))
      (pss_one (ps_ret (pv 2)))), ?_⟩
    refine ⟨_, rfl, l, _, rfl, .inl hl, fun r hr => ?_⟩
    have s1 := (Same.refl H).new (o := .lst (ns.map V.int)) hr
    refine ⟨_, rfl, a, rfl, ⟨_, s1.tup hA⟩, ?_⟩
    refine for_tup (K := K) (a := a) (xs := tabR n tps) (fun i σ H' => ∃ v3 v4 : Option V, σ = [some (.ref l), some (.ref a), some (.ref r), v3, v4] ∧ Same H H' ∧ H' r = some (.lst ((turnN ns pl ad i).map V.int))) ⟨none, none, rfl, s1, upd_same⟩ (fun i σ H' _ ⟨_, _, _, s2, _⟩ => s2.tup hA) ?_ ?_
    · rintro i x σ H' hx ⟨v3, v4, rfl, s2, hr2⟩
      obtain ⟨hi, rfl⟩ := tab_of hx
      have gb := g.b i hi
      have hlen := turn_len ns pl ad i
      refine take_two (s2.tup (ht i hi)) ?_
      refine ⟨_, rfl, _, rfl, r, _, _, _, rfl, rfl, SqL.of hr2, at_ints (by omega) (by omega), _, rfl, _, _, rfl, rfl, _, _, rfl, rfl, (by show (0 : Int) < 97; decide), ?_⟩
      refine ⟨_, rfl, _, rfl, r, _, _, _, rfl, rfl, hr2, ix_ints (by omega) (by omega), ?_⟩
      refine ⟨_, _, rfl, s2.put hr, ?_⟩
      rw [upd_same]
      show _ = some (HO.lst (((turnN ns pl ad i).set (pl i).toNat (((turnN ns pl ad i).getD (pl i).toNat 0 + ad i) % 97)).map V.int))
      rw [List.map_set]
    · rintro σ H' ⟨v3, v4, rfl, s2, hr2⟩
      rw [tab_len] at hr2
      exact ⟨_, rfl, q r H' s2 hr hr2⟩
/-! Air(late) -/
theorem sc_init : FnScope ["self", "late"] ["self", "late"] (defScope s_init) := ⟨rfl, rfl, rfl, by decide +kernel, rfl, by decide +kernel, by decide +kernel⟩
/-- an air, its dict of attributes, its dict of what comes -/
structure AirAt (C : Addr) (H : Hp) (x dx d : Addr) (late asked : Int) (bs : List Bx) : Prop where
  at_ : H x = some (.ins C dx [("late", .int late), ("asked", .int asked), ("coming", .ref d)])
  ox : H dx = some (.own x)
  da : DAt H d bs
  nd : (x :: dx :: ownB d bs).Nodup
def ownA (x dx d : Addr) (bs : List Bx) : List Addr := x :: dx :: ownB d bs
theorem AirAt.has {C : Addr} {H : Hp} {x dx d : Addr} {late asked : Int} {bs : List Bx} (h : AirAt C H x dx d late asked bs) : ∀ y ∈ ownA x dx d bs, ∃ o, H y = some o := by
  intro y hy
  rcases List.mem_cons.mp hy with rfl | hy
  · exact ⟨_, h.at_⟩
  · rcases List.mem_cons.mp hy with rfl | hy
    · exact ⟨_, h.ox⟩
    · exact h.da.has y hy
theorem AirAt.mods {C : Addr} {S : List Addr} {H H' : Hp} {x dx d : Addr} {late asked : Int} {bs : List Bx} (h : AirAt C H x dx d late asked bs) (m : Mods S H H') (n : ∀ y ∈ ownA x dx d bs, y ∉ S) : AirAt C H' x dx d late asked bs :=
  ⟨m _ _ (n _ List.mem_cons_self) h.at_, m _ _ (n _ (List.mem_cons_of_mem _ List.mem_cons_self)) h.ox, h.da.mods m fun y hy => n y (List.mem_cons_of_mem _ (List.mem_cons_of_mem _ hy)), h.nd⟩
def sp_init (C : Addr) : Sp := fun vs H Q E => ∃ (x dx : Addr) (late : Int), vs = [.ref x, .int late] ∧ 1 ≤ late ∧ late ≤ 6 ∧ H x = some (.ins C dx []) ∧ H dx = some (.own x) ∧ x ≠ dx ∧
  ∀ (d : Addr) (H' : Hp), H d = none → AirAt C H' x dx d late 0 [] → Mods [x] H H' → Q .non H'
theorem ok_init {fd : FuncData} (T : Txt K mg t) (F : Fun K "__init__" "Air.__init__" s_init t.init fd) (D_look_late : Def P w K mg base 1 "look_late" ["late"] (sp_look_late t.BadMeasure)) :
    FnOk P w K mg base (CX1 P w) 2 t.init fd ["self", "late"] (sp_init t.Air) ∧ Binds K fd ["self", "late"] [] := by
  refine ⟨F.ok1q sc_init (fun vs H Q E h => ?_) (fun f cdv A outer s H vs Q E hr h => ?_), F.binds fun _ _ _ _ _ _ us hl => match us, hl with | [_, _], _ => rfl⟩
  · obtain ⟨x, dx, late, rfl, _⟩ := h
    rfl
  · obtain ⟨x, dx, late, rfl, l0, l1, hx, hdx, nxd, q⟩ := h
    refine ⟨_, pss_cons (ps_expr (pe_def (D_look_late.mono (by decide)) hr (pass1 cx1_body) (pa_cons (pv 1) pa_nil))) (pss_cons (ps_fldK K (pv 0) (pv 1) (by rfl)) (pss_cons (ps_fldK K (pv 0) pe_int (by rfl)) (pss_one (ps_fldK K (pv 0) pe_dnewK (by rfl))))), ?_⟩
    refine ⟨_, rfl, late, rfl, small_abs (by omega) (by omega), fun _ => ?_, fun z => absurd ⟨l0, l1⟩ z⟩
    refine ⟨_, rfl, _, rfl, x, t.Air, dx, [], rfl, hx, T.cAir, T.na_late, by show 0 < 1000; decide, ?_⟩
    have p1 : putF "late" (.int late) [] = [(("late" : Str), V.int late)] := rfl
    rw [p1]
    refine ⟨_, rfl, x, t.Air, dx, _, rfl, upd_same, T.cAir, T.na_asked, by show 1 < 1000; decide, ?_⟩
    have p2 : putF "asked" (.int 0) [(("late" : Str), V.int late)] = ([("late", V.int late), ("asked", V.int 0)] : List (Str × V)) := by
      unfold putF; rw [if_neg (by decide)]; rfl
    rw [p2, upd_upd]
    intro d hd
    have ndx : d ≠ x := fun z => by rw [z, upd_same] at hd; cases hd
    have hdH : H d = none := by rw [upd_ne ndx] at hd; exact hd
    have ndd : d ≠ dx := fun z => by rw [z, hdx] at hdH; cases hdH
    refine ⟨_, rfl, x, t.Air, dx, [("late", V.int late), ("asked", V.int 0)], rfl, by rw [upd_ne (Ne.symm ndx)]; exact upd_same, T.cAir, T.na_coming, by show 2 < 1000; decide, ?_⟩
    have p3 : putF "coming" (.ref d) [(("late" : Str), V.int late), ("asked", V.int 0)] = ([("late", V.int late), ("asked", V.int 0), ("coming", .ref d)] : List (Str × V)) := by
      unfold putF; rw [if_neg (by decide)]; unfold putF; rw [if_neg (by decide)]; rfl
    rw [p3]
    refine q d _ hdH ⟨upd_same, ?_, ⟨?_, fun b hb => by simp at hb, fun b hb => by simp at hb, by simp [ownB], by simp⟩, ?_⟩ ?_
    · rw [upd_ne (Ne.symm nxd), upd_ne (Ne.symm ndd), upd_ne (Ne.symm nxd)]; exact hdx
    · rw [upd_ne ndx]; exact upd_same
    · simp [ownB, nxd, Ne.symm ndx, Ne.symm ndd]
    · intro b o hb e
      have nb : b ≠ x := by simpa using hb
      rw [upd_ne nb, upd_ne (fun z => by rw [z, hdH] at e; cases e), upd_ne nb]; exact e
end
end K19
namespace K19
open PySem L2 PyProof.Rows
section
variable {P : Program} {w : World} {K : PySem.W.Frag} {mg : Str → Option Value} {base : Heap} {t : Ad}
/-! give -/
theorem fl_late {a b c : V} : ([("late", a), ("asked", b), ("coming", c)] : List (Str × V)).lookup ("late" : Str) = some a := rfl
theorem fl_asked {a b c : V} : ([("late", a), ("asked", b), ("coming", c)] : List (Str × V)).lookup ("asked" : Str) = some b := rfl
theorem fl_coming {a b c : V} : ([("late", a), ("asked", b), ("coming", c)] : List (Str × V)).lookup ("coming" : Str) = some c := rfl
def addF (L : Ct) (ns : List Int) (f : Ft) (tick : Int) : Nat → Ct
  | 0 => L
  | k + 1 => putA (addF L ns f tick k) (tick + f.dl k) (turnN ns (f.pl k) (f.ad k) (f.cn k))
/-- no tuple stands at y -/
def NoTup (H : Hp) (S : List Addr) : Prop := ∀ y ∈ S, (∀ xs, H y ≠ some (.tup xs)) ∧ ∀ o u, H y ≠ some (.frz o u)
theorem NoTup.tup {H H' : Hp} {S : List Addr} (n : NoTup H S) (m : Mods S H H') {a : Addr} {xs : List V} (h : SqT K H a xs) : SqT K H' a xs := by
  rcases h with (e | ⟨o, e⟩) | e
  · exact .inl (.inl (m _ _ (fun z => (n a z).1 _ e) e))
  · exact .inl (.inr ⟨o, m _ _ (fun z => (n a z).2 _ _ e) e⟩)
  · exact .inr e
theorem NoTup.turns {H H' : Hp} {S : List Addr} (n : NoTup H S) (m : Mods S H H') {a : Addr} {k : Nat} {pl ad : Nat → Int} (h : IsTurns K H a k pl ad) : IsTurns K H' a k pl ad := let ⟨tps, h1, h2⟩ := h; ⟨tps, n.tup m h1, fun j hj => n.tup m (h2 j hj)⟩
theorem NoTup.fate {H H' : Hp} {S : List Addr} (n : NoTup H S) (m : Mods S H H') {a : Addr} {f : Ft} (h : IsFate K H a f) : IsFate K H' a f := let ⟨aps, tns, h1, h2⟩ := h; ⟨aps, tns, n.tup m h1, fun k hk => ⟨n.tup m (h2 k hk).1, n.turns m (h2 k hk).2⟩⟩
theorem DAt.notup {H : Hp} {d : Addr} {bs : List Bx} (h : DAt H d bs) : NoTup H (ownB d bs) := by
  intro y hy
  rcases List.mem_cons.mp hy with rfl | hy
  · exact ⟨fun xs z => (by rw [h.at_] at z; cases z), fun o u z => (by rw [h.at_] at z; cases z)⟩
  · obtain ⟨b, hb, hy⟩ := List.mem_flatMap.mp hy
    rcases List.mem_cons.mp hy with rfl | hy
    · exact ⟨fun xs z => (by rw [h.ls b hb] at z; cases z), fun o u z => (by rw [h.ls b hb] at z; cases z)⟩
    · obtain ⟨c, hc, rfl⟩ := List.mem_map.mp hy
      exact ⟨fun xs z => (by rw [(h.cs b hb c hc).1] at z; cases z), fun o u z => (by rw [(h.cs b hb c hc).1] at z; cases z)⟩
theorem AirAt.notup {C : Addr} {H : Hp} {x dx d : Addr} {late asked : Int} {bs : List Bx} (h : AirAt C H x dx d late asked bs) : NoTup H (ownA x dx d bs) := by
  intro y hy
  rcases List.mem_cons.mp hy with rfl | hy
  · exact ⟨fun xs z => (by rw [h.at_] at z; cases z), fun o u z => (by rw [h.at_] at z; cases z)⟩
  · rcases List.mem_cons.mp hy with rfl | hy
    · exact ⟨fun xs z => (by rw [h.ox] at z; cases z), fun o u z => (by rw [h.ox] at z; cases z)⟩
    · exact h.da.notup y hy
theorem Mods.sq {S : List Addr} {H H' : Hp} (m : Mods S H H') {l : Addr} {xs : List V} (n : l ∉ S) (h : SqL K H l xs) : SqL K H' l xs := by
  rcases h with (e | ⟨o, e⟩) | e
  · exact .inl (.inl (m _ _ n e))
  · exact .inl (.inr ⟨o, m _ _ n e⟩)
  · exact .inr e
/-- few cells, few ticks -/
structure Few (N : Nat) (bs : List Bx) : Prop where
  n : bs.length ≤ N
  c : ∀ b ∈ bs, b.2.2.length ≤ N
def sp_give (K : PySem.W.Frag) (C Cc Cf : Addr) : Sp := fun vs H Q E => ∃ (x dx d l a : Addr) (late asked tick : Int) (bs : List Bx) (ns : List Int) (f : Ft) (N : Nat), vs = [.ref x, .ref l, .ref a, .int tick] ∧ AirAt C H x dx d late asked bs ∧ 1 ≤ late ∧ late ≤ 6 ∧
  SqL K H l (ns.map V.int) ∧ l ∉ ownA x dx d bs ∧ (∀ n ∈ ns, n.natAbs < 2 ^ 1000) ∧ IsFate K H a f ∧ FarF f ∧ Few N bs ∧ N ≤ 1000000 ∧
  (¬ IsRow 24 ns → E (.ref Cc) none H) ∧ (IsRow 24 ns → ¬ GoodF late f → E (.ref Cf) none H) ∧
  (IsRow 24 ns → GoodF late f → ∀ (H' : Hp) (bs' : List Bx), AirAt C H' x dx d late asked bs' → ctB bs' = addF (ctB bs) ns f tick f.m → Mods (ownA x dx d bs) H H' → (∀ y ∈ ownA x dx d bs', y ∈ ownA x dx d bs ∨ H y = none) → Few (N + 3) bs' → Q .non H')
theorem sc_give : FnScope ["self", "cell", "fate", "tick", "delay", "turns"] ["self", "cell", "fate", "tick"] (defScope s_give) := ⟨rfl, rfl, rfl, by decide +kernel, rfl, by decide +kernel, by decide +kernel⟩
set_option maxHeartbeats 0 in
theorem ok_give {fd : FuncData} (T : Txt K mg t) (F : Fun K "give" "Air.give" s_give t.m_give fd) (D_look_cell : Def P w K mg base 3 "look_cell" ["cell"] (sp_look_cell K t.BadCell)) (D_look_fate : Def P w K mg base 2 "look_fate" ["fate", "late"] (sp_look_fate K t.BadFate)) (D_turned : Def P w K mg base 1 "turned" ["cell", "turns"] (sp_turned K)) :
    FnOk P w K mg base (CX1 P w) 4 t.m_give fd ["self", "cell", "fate", "tick"] (sp_give K t.Air t.BadCell t.BadFate) ∧ Binds K fd ["self", "cell", "fate", "tick"] [] := by
  refine ⟨F.ok1q sc_give (fun vs H Q E h => ?_) (fun f cdv A outer s H vs Q E hr h => ?_), F.binds fun _ _ _ _ _ _ us hl => match us, hl with | [_, _, _, _], _ => rfl⟩
  · obtain ⟨x, dx, d, l, a, late, asked, tick, bs, ns, f, N, rfl, _⟩ := h
    rfl
  · obtain ⟨x, dx, d, l, a, late, asked, tick, bs, ns, f, N, rfl, hA, l0, l1, hl, nl, fns, hF, fF, few, hN, q1, q2, q3⟩ := h
    refine ⟨_, pss_cons (ps_expr (pe_def (D_look_cell.mono (by decide)) hr (pass1 cx1_body) (pa_cons (pv 1) pa_nil)))
      (pss_cons (ps_expr (pe_def (D_look_fate.mono (by decide)) hr (pass1 cx1_body) (pa_cons (pv 2) (pa_cons (pe_fldK K (pv 0) (by rfl)) pa_nil))))
      (pss_one (PS.nox (ps_for PassesOwn.never rfl (pi_tupK K (pv 2)) (pg_twoK K (i := 4) (j := 5) rfl sc_give.nd rfl rfl (Or.inl rfl) (Or.inl rfl))
        (pss_one (ps_expr (pe_bmK K PySem.F.plainAttrs_list PySem.F.slot_list_append PySem.F.type_list_append mt_append (pe_dsetd (pe_fldK K (pv 0) (by rfl)) (pe_op op_add (pv 3) (pv 4)) (pe_lst pa_nil) ⟨rfl, rfl, rfl, rfl⟩) (pa_cons (pe_def (D_turned.mono (by decide)) hr passN (pa_cons (pv 1) (pa_cons (pv 5) pa_nil))) pa_nil)))))))), ?_⟩
    have hsz : (2000000 : Nat) ≤ sizeLine := by decide
    refine ⟨_, rfl, l, ns, rfl, hl, fns, fun hrow => ?_, fun z => q1 z⟩
    refine ⟨_, rfl, _, rfl, x, t.Air, dx, _, _, rfl, hA.at_, T.cAir, T.na_late, fl_late, a, f, late, rfl, hF, fF, small_abs (by omega) (by omega), fun gF => ?_, fun z => q2 hrow z⟩
    have hlen : ns.length = 24 := by have := hrow.1; omega
    obtain ⟨aps, tns, hT, hk⟩ := id hF
    refine ⟨_, rfl, a, rfl, ⟨_, hT⟩, ?_⟩
    have few3 := gF.few
    refine for_tup (K := K) (a := a) (xs := tabR f.m aps) (fun i σ H' => ∃ (bs' : List Bx) (v4 v5 : Option V), σ = [some (.ref x), some (.ref l), some (.ref a), some (.int tick), v4, v5] ∧ AirAt t.Air H' x dx d late asked bs' ∧ ctB bs' = addF (ctB bs) ns f tick i ∧ Mods (ownA x dx d bs) H H' ∧ (∀ y ∈ ownA x dx d bs', y ∈ ownA x dx d bs ∨ H y = none) ∧ Few (N + i) bs')
      ⟨bs, none, none, rfl, hA, rfl, Mods.refl, fun y hy => .inl hy, few⟩ (fun i σ H' _ ⟨_, _, _, _, _, _, m1, _⟩ => hA.notup.tup m1 hT) ?_ ?_
    · rintro i z σ H1 hz ⟨bs1, v4, v5, rfl, hA1, hct, m1, own1, few1⟩
      obtain ⟨hi, rfl⟩ := tab_of hz
      have him : i < f.m := hi
      refine take_two (hA.notup.tup m1 (hk i him).1) ?_
      refine ⟨_, rfl, x, t.Air, dx, _, _, rfl, hA1.at_, T.cAir, T.na_coming, fl_coming, d, rfl, .inl ⟨_, .inl hA1.da.at_⟩, ?_⟩
      refine ⟨_, rfl, _, rfl, _, _, rfl, rfl, by show 0 ≤ sizeLine; decide, fun e he => ?_⟩
      have nde : d ≠ e := ne_of_none hA1.da.at_ he
      have heo : ∀ y ∈ ownA x dx d bs1, y ≠ e := fun y hy z => by obtain ⟨o, w⟩ := hA1.has y hy; rw [z, he] at w; cases w
      have s2 := (Same.refl H1).new (o := .lst []) he
      have he2 : (upd H1 e (.lst [])) e = some (.lst []) := upd_same
      have k2 : ∀ y ∈ ownA x dx d bs1, (upd H1 e (.lst [])) y = H1 y := fun y hy => upd_ne (heo y hy)
      generalize upd H1 e (.lst []) = H2 at *
      have hd2 : H2 d = some (.dK (kvsB bs1)) := s2 _ _ hA1.da.at_
      have hlk : (kvsB bs1).length < sizeLine := by unfold kvsB; rw [List.length_map]; have := few1.n; omega
      -- what both ways come to
      refine ⟨kvsB bs1, .inl (tick + f.dl i), hd2, rfl, hlk, fun v hv => ?_, fun hv => ?_⟩
      · -- the list is there
        by_cases hm : (tick + f.dl i) ∈ bs1.map (·.1)
        · obtain ⟨b0, hb0, hk0⟩ := box_of hm
          have hv' := val_kvs hA1.da.ky hb0
          rw [hk0] at hv'
          rw [hv'] at hv
          obtain rfl := Option.some.inj hv
          have hl0 : H2 b0.2.1 = some (.lst (b0.2.2.map fun c => V.ref c.1)) := s2 _ _ (hA1.da.ls b0 hb0)
          refine ⟨.inl ⟨rfl, _, SqL.of hl0⟩, ?_⟩
          have m2 : Mods (ownA x dx d bs) H H2 := m1.trans (Mods.same s2)
          refine ⟨_, rfl, _, rfl, l, tns i, ns, f.cn i, f.pl i, f.ad i, rfl, m2.sq nl hl, hlen, hA.notup.turns m2 (hk i him).2, gF.t i him, fun r H3 s3 hr hr3 => ?_⟩
          have hl3 := s3 _ _ hl0
          have rown : ∀ y ∈ ownA x dx d bs1, y ≠ r := fun y hy z => by obtain ⟨o, w⟩ := hA1.has y hy; rw [z] at w; rw [s2 _ _ w] at hr; cases hr
          have nlr : b0.2.1 ≠ r := rown _ (List.mem_cons_of_mem _ (List.mem_cons_of_mem _ (mem_own_l hb0)))
          refine ⟨b0.2.1, _, _, rfl, rfl, hl3, by rw [List.length_map]; have := few1.c b0 hb0; omega, ?_⟩
          have k3 : ∀ y ∈ ownA x dx d bs1, y ≠ b0.2.1 → (upd H3 b0.2.1 (.lst ((b0.2.2.map fun c => V.ref c.1) ++ [V.ref r]))) y = H1 y := fun y hy ny => by
            obtain ⟨o, w⟩ := hA1.has y hy
            rw [upd_ne ny, w]; exact s3 _ _ (s2 _ _ w)
          have nd1 := List.nodup_cons.mp hA1.nd
          have nd2 := List.nodup_cons.mp nd1.2
          have inB := mem_own_l (d := d) hb0
          have rA : r ∉ ownA x dx d bs1 := fun z => rown r z rfl
          have hr3' : (upd H3 b0.2.1 (.lst ((b0.2.2.map fun c => V.ref c.1) ++ [V.ref r]))) r = some (.lst ((turnN ns (f.pl i) (f.ad i) (f.cn i)).map V.int)) := (upd_ne (Ne.symm nlr)).trans hr3
          have mB : Mods (ownA x dx d bs1) H1 (upd H3 b0.2.1 (.lst ((b0.2.2.map fun c => V.ref c.1) ++ [V.ref r]))) := fun y o ny w => by
            rw [upd_ne (fun z => ny (by rw [z]; exact List.mem_cons_of_mem _ (List.mem_cons_of_mem _ inB)))]; exact s3 _ _ (s2 _ _ w)
          refine ⟨putB bs1 (tick + f.dl i) (r, turnN ns (f.pl i) (f.ad i) (f.cn i)), _, _, rfl, ⟨?_, ?_, ?_, ?_⟩, ?_, m1.trans' mB own1, fun y hy => ?_, ⟨?_, fun b hb => ?_⟩⟩
          · rw [k3 x List.mem_cons_self fun z => nd1.1 (by rw [z]; exact List.mem_cons_of_mem _ inB)]; exact hA1.at_
          · rw [k3 dx (List.mem_cons_of_mem _ List.mem_cons_self) fun z => nd2.1 (by rw [z]; exact inB)]; exact hA1.ox
          · exact hA1.da.put hb0 hk0 (fun z => rA (List.mem_cons_of_mem _ (List.mem_cons_of_mem _ z))) ((turn_len _ _ _ _).trans hlen) upd_same hr3' fun y hy ny => k3 y (List.mem_cons_of_mem _ (List.mem_cons_of_mem _ hy)) ny
          · have pm : (x :: dx :: ownB d (putB bs1 (tick + f.dl i) (r, turnN ns (f.pl i) (f.ad i) (f.cn i)))).Perm (r :: ownA x dx d bs1) := (((own_put hA1.da.ky hm).cons dx).cons x).trans (((List.Perm.swap _ _ _).cons x).trans (List.Perm.swap _ _ _))
            exact pm.nodup_iff.mpr (List.nodup_cons.mpr ⟨rA, hA1.nd⟩)
          · rw [ct_put hm, hct]; rfl
          · have y' : y = r ∨ y ∈ ownA x dx d bs1 := by
              rcases List.mem_cons.mp hy with rfl | hy
              · exact .inr List.mem_cons_self
              · rcases List.mem_cons.mp hy with rfl | hy
                · exact .inr (List.mem_cons_of_mem _ List.mem_cons_self)
                · rcases List.mem_cons.mp ((own_put hA1.da.ky hm).mem_iff.mp hy) with e | hy
                  · exact .inl e
                  · exact .inr (List.mem_cons_of_mem _ (List.mem_cons_of_mem _ hy))
            rcases y' with rfl | y'
            · by_cases z : y ∈ ownA x dx d bs
              · exact .inl z
              · refine .inr ?_
                cases e : H y with
                | none => rfl
                | some o => have := s2 _ _ (m1 _ _ z e); rw [this] at hr; cases hr
            · exact own1 y y'
          · unfold putB; rw [List.length_map]; have := few1.n; omega
          · obtain ⟨b1, hb1, rfl⟩ := mem_put hb
            have := few1.c b1 hb1
            by_cases z : b1.1 = tick + f.dl i
            · rw [if_pos z]; show (b1.2.2 ++ [_]).length ≤ _; rw [List.length_append]; show _ + 1 ≤ _; omega
            · rw [if_neg z]; omega
        · rw [val_no hm] at hv; cases hv
      · have hm : (tick + f.dl i) ∉ bs1.map (·.1) := fun z => by
          obtain ⟨b0, hb0, hk0⟩ := box_of z
          have hv' := val_kvs hA1.da.ky hb0
          rw [hk0, hv] at hv'
          cases hv'
        rw [putK_new _ hv]
        have nd1 := List.nodup_cons.mp hA1.nd
        have nd2 := List.nodup_cons.mp nd1.2
        have inD : d ∈ ownB d bs1 := List.mem_cons_self
        have k3 : ∀ y ∈ ownA x dx d bs1, y ≠ d → (upd H2 d (.dK (kvsB bs1 ++ [(.inl (tick + f.dl i), .ref e)]))) y = H1 y := fun y hy ny => (upd_ne ny).trans (k2 y hy)
        have hd3 : (upd H2 d (.dK (kvsB bs1 ++ [(.inl (tick + f.dl i), .ref e)]))) d = some (.dK (kvsB bs1 ++ [(.inl (tick + f.dl i), .ref e)])) := upd_same
        have he3 : (upd H2 d (.dK (kvsB bs1 ++ [(.inl (tick + f.dl i), .ref e)]))) e = some (.lst []) := (upd_ne (Ne.symm nde)).trans he2
        have m3 : Mods (ownA x dx d bs1) H1 (upd H2 d (.dK (kvsB bs1 ++ [(.inl (tick + f.dl i), .ref e)]))) := fun y o ny w => by
          rw [upd_ne (fun z => ny (by rw [z]; exact List.mem_cons_of_mem _ (List.mem_cons_of_mem _ inD)))]; exact s2 _ _ w
        have free3 : ∀ y, (upd H2 d (.dK (kvsB bs1 ++ [(.inl (tick + f.dl i), .ref e)]))) y = none → H1 y = none := fun y hy => by
          have : y ≠ d := fun z => by rw [z, hd3] at hy; cases hy
          rw [upd_ne this] at hy
          exact s2.free hy
        generalize upd H2 d (.dK (kvsB bs1 ++ [(.inl (tick + f.dl i), .ref e)])) = H3 at *
        refine ⟨.inl ⟨rfl, _, SqL.of he3⟩, ?_⟩
        have mm3 : Mods (ownA x dx d bs) H H3 := m1.trans' m3 own1
        refine ⟨_, rfl, _, rfl, l, tns i, ns, f.cn i, f.pl i, f.ad i, rfl, mm3.sq nl hl, hlen, hA.notup.turns mm3 (hk i him).2, gF.t i him, fun r H4 s4 hr hr4 => ?_⟩
        have rA : r ∉ ownA x dx d bs1 := fun z => by obtain ⟨o, w⟩ := hA1.has r z; rw [free3 r hr] at w; cases w
        have eA : e ∉ ownA x dx d bs1 := fun z => heo e z rfl
        have ner : e ≠ r := ne_of_none he3 hr
        refine ⟨e, _, _, rfl, rfl, s4 _ _ he3, by show 0 < sizeLine; decide, ?_⟩
        have kf : ∀ y ∈ ownA x dx d bs1, y ≠ d → (upd H4 e (.lst ([] ++ [V.ref r]))) y = H1 y := fun y hy ny => by
          obtain ⟨o, w⟩ := hA1.has y hy
          rw [upd_ne (heo y hy), w]
          exact s4 _ _ ((k3 y hy ny).trans w)
        have mf : Mods (ownA x dx d bs1) H1 (upd H4 e (.lst ([] ++ [V.ref r]))) := fun y o ny w => by
          rw [upd_ne (fun z => by rw [z, he] at w; cases w)]; exact s4 _ _ (m3 _ _ ny w)
        have hdf : (upd H4 e (.lst ([] ++ [V.ref r]))) d = some (.dK (kvsB bs1 ++ [(.inl (tick + f.dl i), .ref e)])) := (upd_ne nde).trans (s4 _ _ hd3)
        have hrf : (upd H4 e (.lst ([] ++ [V.ref r]))) r = some (.lst ((turnN ns (f.pl i) (f.ad i) (f.cn i)).map V.int)) := (upd_ne (Ne.symm ner)).trans hr4
        refine ⟨bs1 ++ [(tick + f.dl i, e, [(r, turnN ns (f.pl i) (f.ad i) (f.cn i))])], _, _, rfl, ⟨?_, ?_, ?_, ?_⟩, ?_, m1.trans' mf own1, fun y hy => ?_, ⟨?_, fun b hb => ?_⟩⟩
        · rw [kf x List.mem_cons_self fun z => nd1.1 (by rw [z]; exact List.mem_cons_of_mem _ inD)]; exact hA1.at_
        · rw [kf dx (List.mem_cons_of_mem _ List.mem_cons_self) fun z => nd2.1 (by rw [z]; exact inD)]; exact hA1.ox
        · exact hA1.da.new hm (fun z => eA (List.mem_cons_of_mem _ (List.mem_cons_of_mem _ z))) (fun z => rA (List.mem_cons_of_mem _ (List.mem_cons_of_mem _ z))) ner ((turn_len _ _ _ _).trans hlen) hdf upd_same hrf fun y hy ny => kf y (List.mem_cons_of_mem _ (List.mem_cons_of_mem _ hy)) ny
        · rw [own_new]
          have e1 : x :: dx :: (ownB d bs1 ++ [e, r]) = ownA x dx d bs1 ++ [e, r] := rfl
          rw [e1, List.nodup_append]
          refine ⟨hA1.nd, by simp [ner], fun y hy z hz w => ?_⟩
          subst w
          rcases List.mem_cons.mp hz with rfl | hz
          · exact eA hy
          · rw [List.mem_singleton.mp hz] at hy; exact rA hy
        · rw [ct_new hm, hct]; rfl
        · have y' : (y = e ∨ y = r) ∨ y ∈ ownA x dx d bs1 := by
            rcases List.mem_cons.mp hy with rfl | hy
            · exact .inr List.mem_cons_self
            · rcases List.mem_cons.mp hy with rfl | hy
              · exact .inr (List.mem_cons_of_mem _ List.mem_cons_self)
              · rw [own_new] at hy
                rcases List.mem_append.mp hy with hy | hy
                · exact .inr (List.mem_cons_of_mem _ (List.mem_cons_of_mem _ hy))
                · rcases List.mem_cons.mp hy with e | hy
                  · exact .inl (.inl e)
                  · exact .inl (.inr (List.mem_singleton.mp hy))
          rcases y' with y' | y'
          · have hy1 : H1 y = none := by
              rcases y' with rfl | rfl
              · exact he
              · exact free3 _ hr
            by_cases z : y ∈ ownA x dx d bs
            · exact .inl z
            · refine .inr ?_
              cases w : H y with
              | none => rfl
              | some o => rw [m1 _ _ z w] at hy1; cases hy1
          · exact own1 y y'
        · rw [List.length_append]; have := few1.n; show _ + 1 ≤ _; omega
        · rcases List.mem_append.mp hb with hb | hb
          · have := few1.c b hb; omega
          · rw [List.mem_singleton.mp hb]; show 1 ≤ _; omega
    · rintro σ H' ⟨bs', v4, v5, rfl, hA', hct, m1, own1, few1⟩
      rw [tab_len] at hct few1
      exact q3 hrow gF H' bs' hA' hct m1 own1 ⟨Nat.le_trans few1.n (by omega), fun b hb => Nat.le_trans (few1.c b hb) (by omega)⟩
end
end K19
namespace K19
open PySem L2 PyProof.Rows
section
variable {P : Program} {w : World} {K : PySem.W.Frag} {mg : Str → Option Value} {base : Heap} {t : Ad}
/-! flying -/
def flyA (L : Ct) (asked : Int) : List Int := (L.filter fun e => decide (asked < e.1)).map fun e => (e.2.length : Int)
theorem fly_snoc (L : Ct) (asked : Int) (e : Int × List (List Int)) : flyA (L ++ [e]) asked = flyA L asked ++ if asked < e.1 then [(e.2.length : Int)] else [] := by
  unfold flyA
  rw [List.filter_append, List.map_append]
  by_cases z : asked < e.1
  · rw [if_pos z, List.filter_cons, if_pos (by simpa using z)]; rfl
  · rw [if_neg z, List.filter_cons, if_neg (by simpa using z)]; rfl
/-- a dict that was walked: thawed it stands as it stood -/
theorem thaw_same {H H' : Hp} {d : Addr} {o : HO} (h : H d = some o) (m : Mods [d] H H') : Same H (upd H' d o) := fun b x e => by
  by_cases z : b = d
  · rw [z, upd_same, ← h, ← z]; exact e
  · rw [upd_ne z]; exact m _ _ (by simpa using z) e
theorem kvs_at {bs : List Bx} {i : Nat} {k : Key} {v : V} (h : (kvsB bs)[i]? = some (k, v)) : ∃ b, bs[i]? = some b ∧ k = .inl b.1 ∧ v = .ref b.2.1 := by
  unfold kvsB at h
  rw [List.getElem?_map] at h
  cases e : bs[i]? with
  | none => rw [e] at h; cases h
  | some b => rw [e] at h; cases h; exact ⟨b, rfl, rfl, rfl⟩
theorem fly_len (L : Ct) (asked : Int) : (flyA L asked).length ≤ L.length := by
  unfold flyA; rw [List.length_map]; exact List.length_filter_le _ _
def sp_flying (C : Addr) : Sp := fun vs H Q _ => ∃ (x dx d : Addr) (late asked : Int) (bs : List Bx) (N : Nat), vs = [.ref x] ∧ AirAt C H x dx d late asked bs ∧ Few N bs ∧ N ≤ 1000000 ∧
  ∀ (H' : Hp), Same H H' → Q (.int (flyA (ctB bs) asked).sum) H'
theorem sc_flying : FnScope ["self"] ["self"] (defScope s_flying) := ⟨rfl, rfl, rfl, by decide +kernel, rfl, by decide +kernel, by decide +kernel⟩
set_option maxHeartbeats 0 in
theorem ok_flying {fd : FuncData} (T : Txt K mg t) (F : Fun K "flying" "Air.flying" s_flying t.m_flying fd) :
    FnOk P w K mg base (CX1 P w) 1 t.m_flying fd ["self"] (sp_flying t.Air) ∧ Binds K fd ["self"] [] := by
  refine ⟨F.ok1q sc_flying (fun vs H Q E h => ?_) (fun f cdv A outer s H vs Q E hr h => ?_), F.binds fun _ _ _ _ _ _ us hl => match us, hl with | [_], _ => rfl⟩
  · obtain ⟨x, dx, d, late, asked, bs, N, rfl, _⟩ := h
    rfl
  · obtain ⟨x, dx, d, late, asked, bs, N, rfl, hA, few, hN, q⟩ := h
    refine ⟨_, pss_one (ps_ret (pe_callB (call_sumK K rfl) (by rfl) T.n_sum boot_sum (pa_cons (pe_thaw P w (pe_lc rfl (Nc := ["tick", "cells", "self"]) (ix := [none, none, some 0]) (cscope (defScope s_flying) ["self"] rfl rfl (by decide +kernel)) (pi_itemsK P w (pe_fldK K (pv 0) (by rfl))) (fun C fp s H => ⟨(pg_twoK K (i := 0) (j := 1) rfl (show (["tick", "cells", "self"] : List Str).Nodup by decide +kernel) rfl rfl (Or.inl rfl) (Or.inl rfl)), (pts_one (pt_cmpR op_gt (pv 0) (pe_fldK K (pv 2) (by rfl)) (nomark _))), (pe_callB (call_lenK K) (by rfl) T.n_len boot_len (pa_cons (pv 1) pa_nil))⟩))) pa_nil))), ?_⟩
    have hsz : (2000000 : Nat) ≤ sizeLine := by decide
    refine ⟨_, rfl, x, t.Air, dx, _, _, rfl, hA.at_, T.cAir, T.na_coming, fl_coming, d, kvsB bs, rfl, hA.da.at_, fun u hu D hD => ?_⟩
    have ndx : x ≠ d := fun z => (List.nodup_cons.mp hA.nd).1 (by rw [z]; exact List.mem_cons_of_mem _ List.mem_cons_self)
    have nDd : D ≠ d := fun z => by rw [z, upd_same] at hD; cases hD
    have hD' : H D = none := by rw [upd_ne nDd] at hD; exact hD
    have hkl : (kvsB bs).length = bs.length := by unfold kvsB; rw [List.length_map]
    have hnl := few.n
    refine lc_items (d := d) (u := u) (kvs := kvsB bs) (fun i σ H' => (∃ v0 v1 : Option V, σ = [v0, v1, some (.ref x)]) ∧ Mods [d] H H' ∧ H' d = some u ∧ H' D = some (.lst ((flyA (ctB (bs.take i)) asked).map V.int))) ⟨⟨none, none, rfl⟩, ?_, ?_, upd_same⟩ (fun i σ H' _ p => p.2.2.1) ?_ ?_
    · intro b o nb e
      have nb' : b ≠ d := by simpa using nb
      rw [upd_ne (fun z => by rw [z, hD'] at e; cases e), upd_ne nb']; exact e
    · rw [upd_ne (Ne.symm nDd), upd_same]
    · rintro i k v p σ H' Nx hNx hkv ⟨⟨v0, v1, rfl⟩, m1, hd1, hD1⟩ hp
      obtain ⟨b, hb, rfl, rfl⟩ := kvs_at hkv
      have hbm : b ∈ bs := List.mem_of_getElem? hb
      have hib : i < bs.length := (List.getElem?_eq_some_iff.mp hb).1
      have tk : bs.take (i + 1) = bs.take i ++ [b] := by rw [List.take_add_one, hb]; rfl
      have hct : ctB (bs.take (i + 1)) = ctB (bs.take i) ++ [(b.1, b.2.2.map (·.2))] := by rw [tk]; unfold ctB; rw [List.map_append]; rfl
      have hfl := fly_snoc (ctB (bs.take i)) asked (b.1, b.2.2.map (·.2))
      rw [← hct] at hfl
      have npD : p ≠ D := fun z => by rw [z, hD1] at hp; cases hp
      have npd : p ≠ d := fun z => by rw [z, hd1] at hp; cases hp
      refine take_two (SqT.of upd_same) ?_
      have hx' : (upd H' p (.tup [kV (.inl b.1), .ref b.2.1])) x = some (.ins t.Air dx [("late", .int late), ("asked", .int asked), ("coming", .ref d)]) := by
        have e1 := m1 _ _ (by simpa using ndx) hA.at_
        rw [upd_ne (fun z => by rw [z, hp] at e1; cases e1)]; exact e1
      have m2 : Mods [d] H (upd H' p (.tup [kV (.inl b.1), .ref b.2.1])) := fun y o ny e => by
        have e1 := m1 _ _ ny e
        rw [upd_ne (fun z => by rw [z, hp] at e1; cases e1)]; exact e1
      have hd2 : (upd H' p (.tup [kV (.inl b.1), .ref b.2.1])) d = some u := (upd_ne (Ne.symm npd)).trans hd1
      have hD2 : (upd H' p (.tup [kV (.inl b.1), .ref b.2.1])) D = some (.lst ((flyA (ctB (bs.take i)) asked).map V.int)) := (upd_ne (Ne.symm npD)).trans hD1
      refine ⟨_, rfl, _, rfl, x, t.Air, dx, _, _, rfl, hx', T.cAir, T.na_asked, fl_asked, _, _, rfl, rfl, _, rfl, ?_⟩
      by_cases z : asked < b.1
      · refine iteY z ?_
        rw [if_pos z] at hfl
        have hl2 : (upd H' p (.tup [kV (.inl b.1), .ref b.2.1])) b.2.1 = some (.lst (b.2.2.map fun c => V.ref c.1)) := m2 _ _ (fun w => by
          have := (List.nodup_cons.mp hA.da.nd).1
          rw [List.mem_singleton] at w
          exact this (by rw [← w]; exact List.mem_flatMap.mpr ⟨b, hbm, List.mem_cons_self⟩)) (hA.da.ls b hbm)
        refine ⟨_, rfl, _, _, rfl, .inl (SqL.of hl2), _, hD2, ?_, hNx _ _ ⟨⟨_, _, rfl⟩, ?_, ?_, ?_⟩⟩
        · rw [List.length_map]
          have h1 := fly_len (ctB (bs.take i)) asked
          have h2 : (ctB (bs.take i)).length ≤ bs.length := by unfold ctB; rw [List.length_map, List.length_take]; omega
          omega
        · intro y o ny e
          rw [upd_ne (fun w => by rw [w, hD'] at e; cases e)]; exact m2 _ _ ny e
        · rw [upd_ne (Ne.symm nDd)]; exact hd2
        · rw [upd_same, hfl, List.map_append]; simp
      · refine iteN z ?_
        rw [if_neg z, List.append_nil] at hfl
        exact hNx _ _ ⟨⟨_, _, rfl⟩, m2, hd2, by rw [hfl]; exact hD2⟩
    · rintro σ H' ⟨⟨v0, v1, rfl⟩, m1, hd1, hD1⟩
      rw [hkl, List.take_length] at hD1
      refine ⟨d, kvsB bs, u, hu, hd1, ?_⟩
      have sm := thaw_same hA.da.at_ m1
      exact ⟨D, _, rfl, SqL.of ((upd_ne nDd).trans hD1), q _ sm⟩
end
end K19
namespace K19
open PySem L2 PyProof.Rows
section
variable {P : Program} {w : World} {K : PySem.W.Frag} {mg : Str → Option Value} {base : Heap} {t : Ad}
/-! come -/
/-- what comes in a tick -/
def lkA (L : Ct) (tick : Int) : List (List Int) := (L.lookup tick).getD []
theorem look_ct {bs : List Bx} (ky : (bs.map (·.1)).Nodup) {b : Bx} (hb : b ∈ bs) : lkA (ctB bs) b.1 = b.2.2.map (·.2) := by
  unfold lkA
  induction bs with
  | nil => simp at hb
  | cons a r ih =>
    rw [List.map_cons, List.nodup_cons] at ky
    show (List.lookup b.1 ((a.1, a.2.2.map (·.2)) :: ctB r)).getD [] = _
    rcases List.mem_cons.mp hb with rfl | hb
    · rw [List.lookup_cons_self]; rfl
    · have ne : (b.1 == a.1) = false := by
        rw [beq_eq_false_iff_ne]; exact fun z => ky.1 (List.mem_map.mpr ⟨b, hb, z⟩)
      rw [List.lookup_cons, ne]; exact ih ky.2 hb
theorem look_no {bs : List Bx} {k : Int} (h : k ∉ bs.map (·.1)) : lkA (ctB bs) k = [] := by
  unfold lkA
  induction bs with
  | nil => rfl
  | cons a r ih =>
    rw [List.map_cons, List.mem_cons, not_or] at h
    show (List.lookup k ((a.1, a.2.2.map (·.2)) :: ctB r)).getD [] = _
    have ne : (k == a.1) = false := by rw [beq_eq_false_iff_ne]; exact h.1
    rw [List.lookup_cons, ne]; exact ih h.2
/-- a told list of cells, all of it new -/
structure Told (H H' : Hp) (r : Addr) (rs : List (Addr × List Int)) : Prop where
  at_ : H' r = some (.lst (rs.map fun c => V.ref c.1))
  cs : ∀ c ∈ rs, H' c.1 = some (.lst (c.2.map V.int)) ∧ c.2.length = 24
  nw : ∀ y ∈ r :: rs.map (·.1), H y = none
  nd : (r :: rs.map (·.1)).Nodup
theorem put_asked {a b c v : V} : putF "asked" v ([("late", a), ("asked", b), ("coming", c)] : List (Str × V)) = ([("late", a), ("asked", v), ("coming", c)] : List (Str × V)) := by
  unfold putF; rw [if_neg (by decide)]; unfold putF; rw [if_pos (by decide)]
def sp_come (C : Addr) : Sp := fun vs H Q _ => ∃ (x dx d : Addr) (late asked tick : Int) (bs : List Bx) (N : Nat), vs = [.ref x, .int tick] ∧ AirAt C H x dx d late asked bs ∧ Few N bs ∧ N ≤ 1000000 ∧
  ∀ (H' : Hp) (r : Addr) (rs : List (Addr × List Int)), AirAt C H' x dx d late tick (bs.filter fun b => decide (tick ≤ b.1)) → Told H H' r rs → rs.map (·.2) = lkA (ctB bs) tick → Mods [x, d] H H' → Q (.ref r) H'
def pastA (bs : List Bx) (tick : Int) : List Int := (bs.filter fun b => decide (b.1 < tick)).map (·.1)
theorem sc_come : FnScope ["self", "tick", "past", "known"] ["self", "tick"] (defScope s_come) := ⟨rfl, rfl, rfl, by decide +kernel, rfl, by decide +kernel, by decide +kernel⟩
set_option maxHeartbeats 0 in
theorem ok_come {fd : FuncData} (T : Txt K mg t) (F : Fun K "come" "Air.come" s_come t.m_come fd) :
    FnOk P w K mg base (CX1 P w) 1 t.m_come fd ["self", "tick"] (sp_come t.Air) ∧ Binds K fd ["self", "tick"] [] := by
  refine ⟨F.ok1q sc_come (fun vs H Q E h => ?_) (fun f cdv A outer s H vs Q E hr h => ?_), F.binds fun _ _ _ _ _ _ us hl => match us, hl with | [_, _], _ => rfl⟩
  · obtain ⟨x, dx, d, late, asked, tick, bs, N, rfl, _⟩ := h
    rfl
  · obtain ⟨x, dx, d, late, asked, tick, bs, N, rfl, hA, few, hN, q⟩ := h
    refine ⟨_, pss_cons (ps_fldK K (pv 0) (pv 1) (by rfl))
      (pss_cons (ps_thaw P w (ps_setLC (i := 2) sc_come.nd rfl (Or.inl rfl) rfl (Nc := ["known", "tick"]) (ix := [none, some 1]) (cscope (defScope s_come) ["self", "tick", "past", "known"] rfl rfl (by decide +kernel)) (pi_dictK P w (pe_fldK K (pv 0) (by rfl))) (fun C fp s H => ⟨(pg_name (i := 0) (show (["known", "tick"] : List Str).Nodup by decide +kernel) rfl (Or.inl rfl)), (pts_one (pt_cmpR op_lt (pv 0) (pv 1) (nomark _))), (pv 0)⟩)))
      (pss_cons (PS.nox (ps_for PassesOwn.never rfl (pi_listK K (pv 2)) (pg_name (i := 3) sc_come.nd rfl (Or.inl rfl))
        (pss_one (ps_expr (pe_dpop1 (pe_fldK K (pv 0) (by rfl)) (pv 3) ⟨rfl, rfl, rfl, rfl⟩)))))
      (pss_one (ps_ret (pe_lc rfl (Nc := ["cell"]) (ix := [none]) (cscope (defScope s_come) ["self", "tick", "past", "known"] rfl rfl (by decide +kernel)) (pi_listK K (pe_dget2 (hu_of hr) (pe_fldK K (pv 0) (by rfl)) (pv 1) (pe_lst pa_nil) ⟨rfl, rfl, rfl, rfl⟩)) (fun C fp s H => ⟨(pg_name (i := 0) (show (["cell"] : List Str).Nodup by decide +kernel) rfl (Or.inl rfl)), pts_nil, (pe_callTy (call_listK K) (by rfl) T.n_list boot_list (pa_cons (pv 0) pa_nil))⟩)))))), ?_⟩
    have hsz : (2000000 : Nat) ≤ sizeLine := by decide
    have nd1 := List.nodup_cons.mp hA.nd
    have nd2 := List.nodup_cons.mp nd1.2
    have nxd : x ≠ d := fun z => nd1.1 (by rw [z]; exact List.mem_cons_of_mem _ List.mem_cons_self)
    have hnl := few.n
    refine ⟨_, rfl, _, rfl, x, t.Air, dx, _, rfl, hA.at_, T.cAir, T.na_asked, by show 3 < 1000; decide, ?_⟩
    rw [put_asked]
    have hA1 : AirAt t.Air (upd H x (.ins t.Air dx [("late", .int late), ("asked", .int tick), ("coming", .ref d)])) x dx d late tick bs :=
      ⟨upd_same, (upd_ne fun z => nd1.1 (by rw [← z]; exact List.mem_cons_self)).trans hA.ox, hA.da.keep fun y hy => upd_ne fun z => nd1.1 (by rw [← z]; exact List.mem_cons_of_mem _ hy), hA.nd⟩
    have k1 : ∀ y, y ≠ x → (upd H x (.ins t.Air dx [("late", .int late), ("asked", .int tick), ("coming", .ref d)])) y = H y := fun y ny => upd_ne ny
    generalize upd H x (.ins t.Air dx [("late", .int late), ("asked", .int tick), ("coming", .ref d)]) = H1 at *
    refine ⟨_, rfl, x, t.Air, dx, _, _, rfl, hA1.at_, T.cAir, T.na_coming, fl_coming, d, kvsB bs, rfl, hA1.da.at_, fun u hu D hD => ?_⟩
    have nDd : D ≠ d := fun z => by rw [z, upd_same] at hD; cases hD
    have hD1 : H1 D = none := by rw [upd_ne nDd] at hD; exact hD
    have hkl : (kvsB bs).length = bs.length := by unfold kvsB; rw [List.length_map]
    refine lc_dict (d := d) (u := u) (kvs := kvsB bs) (fun i σ H' => (∃ v0 : Option V, σ = [v0, some (.int tick)]) ∧ H' = upd (upd H1 d u) D (.lst ((pastA (bs.take i) tick).map V.int))) ⟨⟨none, rfl⟩, rfl⟩ (fun i σ H' _ p => by rw [p.2, upd_ne (Ne.symm nDd), upd_same]) ?_ ?_
    · rintro i k v σ H' Nx hNx hkv ⟨⟨v0, rfl⟩, rfl⟩
      obtain ⟨b, hb, rfl, rfl⟩ := kvs_at hkv
      have tk : bs.take (i + 1) = bs.take i ++ [b] := by rw [List.take_add_one, hb]; rfl
      have hpt : pastA (bs.take (i + 1)) tick = pastA (bs.take i) tick ++ if b.1 < tick then [b.1] else [] := by
        rw [tk]; unfold pastA; rw [List.filter_append, List.map_append]
        by_cases z : b.1 < tick
        · rw [if_pos z, List.filter_cons, if_pos (by simpa using z)]; rfl
        · rw [if_neg z, List.filter_cons, if_neg (by simpa using z)]; rfl
      refine ⟨_, rfl, _, rfl, _, _, rfl, rfl, _, rfl, ?_⟩
      by_cases z : b.1 < tick
      · refine iteY z ?_
        rw [if_pos z] at hpt
        refine ⟨_, rfl, _, upd_same, ?_, hNx _ _ ⟨⟨_, rfl⟩, ?_⟩⟩
        · rw [List.length_map]
          have : (pastA (bs.take i) tick).length ≤ bs.length := by
            unfold pastA; rw [List.length_map]
            have h1 := List.length_filter_le (fun b : Bx => decide (b.1 < tick)) (bs.take i)
            rw [List.length_take] at h1; omega
          omega
        · rw [upd_upd, hpt, List.map_append]; rfl
      · refine iteN z ?_
        rw [if_neg z, List.append_nil] at hpt
        exact hNx _ _ ⟨⟨_, rfl⟩, by rw [hpt]⟩
    · rintro σ H' ⟨⟨v0, rfl⟩, rfl⟩
      rw [hkl, List.take_length]
      refine ⟨d, kvsB bs, u, hu, by rw [upd_ne (Ne.symm nDd), upd_same], ?_⟩
      have hP2 : (upd (upd (upd H1 d u) D (.lst ((pastA bs tick).map V.int))) d (.dK (kvsB bs))) D = some (.lst ((pastA bs tick).map V.int)) := (upd_ne nDd).trans upd_same
      have k2 : ∀ y, y ≠ D → (upd (upd (upd H1 d u) D (.lst ((pastA bs tick).map V.int))) d (.dK (kvsB bs))) y = H1 y := fun y ny => by
        by_cases z : y = d
        · rw [z, upd_same, hA1.da.at_]
        · rw [upd_ne z, upd_ne ny, upd_ne z]
      generalize upd (upd (upd H1 d u) D (.lst ((pastA bs tick).map V.int))) d (.dK (kvsB bs)) = H2 at *
      have nxD : x ≠ D := ne_of_none hA1.at_ hD1
      have ndD : dx ≠ D := ne_of_none hA1.ox hD1
      have nxdd : dx ≠ d := fun z => nd2.1 (by rw [z]; exact List.mem_cons_self)
      have oD : ∀ y ∈ ownB d bs, y ≠ D := fun y hy z => by obtain ⟨o, e⟩ := hA1.da.has y hy; rw [z, hD1] at e; cases e
      have pnd : (pastA bs tick).Nodup := (List.Sublist.map _ List.filter_sublist).nodup hA1.da.ky
      refine ⟨_, rfl, D, rfl, ⟨_, SqL.of hP2⟩, ?_⟩
      refine for_list (K := K) (a := D) (xs := (pastA bs tick).map V.int) (fun i σ H' => (∃ v3 : Option V, σ = [some (.ref x), some (.int tick), some (.ref D), v3]) ∧ (∀ y, y ≠ d → H' y = H2 y) ∧ H' d = some (.dK (kvsB (bs.filter fun b => decide (b.1 ∉ (pastA bs tick).take i))))) ⟨⟨none, rfl⟩, fun _ _ => rfl, ?_⟩ (fun i σ H' _ p => SqL.of ((p.2.1 D nDd).trans hP2)) ?_ ?_
      · rw [k2 d (Ne.symm nDd), hA1.da.at_]
        congr 3
        exact (List.filter_eq_self.mpr fun b _ => by simp).symm
      · rintro i v σ H' hv ⟨⟨v3, rfl⟩, k3, hd3⟩
        rw [List.getElem?_map] at hv
        cases ek : (pastA bs tick)[i]? with
        | none => rw [ek] at hv; cases hv
        | some k =>
          rw [ek] at hv
          obtain rfl := (Option.some.inj hv)
          have kin : k ∈ pastA bs tick := List.mem_of_getElem? ek
          obtain ⟨b, hb, hbk⟩ := List.mem_map.mp kin
          have hbs := (List.mem_filter.mp hb).1
          have hil : i < (pastA bs tick).length := (List.getElem?_eq_some_iff.mp ek).1
          have tk : (pastA bs tick).take (i + 1) = (pastA bs tick).take i ++ [k] := by rw [List.take_add_one, ek]; rfl
          have knot : k ∉ (pastA bs tick).take i := fun z => by
            have h1 := (List.take_sublist (i + 1) (pastA bs tick)).nodup pnd
            rw [tk, List.nodup_append] at h1
            exact h1.2.2 k z k (List.mem_singleton.mpr rfl) rfl
          have hbf : b ∈ bs.filter fun b => decide (b.1 ∉ (pastA bs tick).take i) := List.mem_filter.mpr ⟨hbs, by rw [decide_eq_true_iff, hbk]; exact knot⟩
          have kyf : ((bs.filter fun b => decide (b.1 ∉ (pastA bs tick).take i)).map (·.1)).Nodup := (List.Sublist.map _ List.filter_sublist).nodup hA1.da.ky
          have hval := val_kvs kyf hbf
          rw [hbk] at hval
          refine ⟨_, rfl, x, t.Air, dx, _, _, rfl, (k3 x nxd).trans ((k2 x nxD).trans hA1.at_), T.cAir, T.na_coming, fl_coming, d, rfl, .inl ⟨_, .inl hd3⟩, _, rfl, _, _, _, hd3, rfl, hval, ?_⟩
          refine ⟨⟨_, rfl⟩, fun y ny => (upd_ne ny).trans (k3 y ny), ?_⟩
          rw [upd_same, drop_kvs, List.filter_filter, tk]
          congr 3
          apply List.filter_congr
          intro c _
          by_cases z : c.1 = k <;> simp [z]
      · rintro σ H3 ⟨⟨v3, rfl⟩, k3, hd3⟩
        rw [List.length_map, List.take_length] at hd3
        have hfe : (bs.filter fun b => decide (b.1 ∉ pastA bs tick)) = bs.filter fun b => decide (tick ≤ b.1) := by
          apply List.filter_congr
          intro b hb
          rw [decide_eq_decide]
          constructor
          · intro h
            by_cases z : tick ≤ b.1
            · exact z
            · exact absurd (List.mem_map.mpr ⟨b, List.mem_filter.mpr ⟨hb, by rw [decide_eq_true_iff]; omega⟩, rfl⟩) h
          · intro h z
            obtain ⟨c, hc, e⟩ := List.mem_map.mp z
            have := (List.mem_filter.mp hc).2
            rw [decide_eq_true_iff] at this
            have e' : c.1 = b.1 := e
            omega
        rw [hfe] at hd3
        have kA : ∀ y ∈ ownB d bs, y ≠ d → H3 y = H1 y := fun y hy ny => (k3 y ny).trans (k2 y (oD y hy))
        have sub3 : (x :: dx :: ownB d (bs.filter fun b => decide (tick ≤ b.1))).Sublist (x :: dx :: ownB d bs) := ((((flat_sub _ bs).cons₂ d).cons₂ dx).cons₂ x)
        have hA3 : AirAt t.Air H3 x dx d late tick (bs.filter fun b => decide (tick ≤ b.1)) := ⟨(k3 x nxd).trans ((k2 x nxD).trans hA1.at_), (k3 dx nxdd).trans ((k2 dx ndD).trans hA1.ox), hA1.da.drop _ hd3 kA, sub3.nodup hA1.nd⟩
        have free3 : ∀ y, H3 y = none → H y = none := fun y hy => by
          have n1 : y ≠ d := fun z => by rw [z, hd3] at hy; cases hy
          rw [k3 y n1] at hy
          have n2 : y ≠ D := fun z => by rw [z, hP2] at hy; cases hy
          rw [k2 y n2] at hy
          have n3 : y ≠ x := fun z => by rw [z, hA1.at_] at hy; cases hy
          rw [← k1 y n3]; exact hy
        have m3 : Mods [x, d] H H3 := fun y o ny e => by
          rw [List.mem_cons, List.mem_singleton, not_or] at ny
          have e1 := (k1 y ny.1).trans e
          rw [k3 y ny.2, k2 y (fun z => by rw [z, hD1] at e1; cases e1)]; exact e1
        refine ⟨_, rfl, x, t.Air, dx, _, _, rfl, hA3.at_, T.cAir, T.na_coming, fl_coming, d, rfl, .inl ⟨_, .inl hA3.da.at_⟩, _, rfl, by show 0 ≤ sizeLine; decide, fun e he => ?_⟩
        have s4 := (Same.refl H3).new (o := .lst []) he
        have he4 : (upd H3 e (.lst [])) e = some (.lst []) := upd_same
        have free4 : ∀ y, (upd H3 e (.lst [])) y = none → H3 y = none := fun y hy => s4.free hy
        generalize upd H3 e (.lst []) = H4 at *
        have hA4 : AirAt t.Air H4 x dx d late tick (bs.filter fun b => decide (tick ≤ b.1)) := hA3.mods (S := []) (Mods.same s4) fun y _ z => by cases z
        have found : ∃ (a : Addr) (cs : List (Addr × List Int)), (valV (kvsB (bs.filter fun b => decide (tick ≤ b.1))) (.inl tick)).getD (.ref e) = .ref a ∧ H4 a = some (.lst (cs.map fun c => V.ref c.1)) ∧ (∀ c ∈ cs, H4 c.1 = some (.lst (c.2.map V.int)) ∧ c.2.length = 24) ∧ cs.map (·.2) = lkA (ctB bs) tick ∧ cs.length ≤ N := by
          by_cases z : tick ∈ bs.map (·.1)
          · obtain ⟨b, hb, hbk⟩ := box_of z
            have hbf : b ∈ bs.filter fun b => decide (tick ≤ b.1) := List.mem_filter.mpr ⟨hb, by rw [decide_eq_true_iff]; omega⟩
            have hv := val_kvs hA4.da.ky hbf
            rw [hbk] at hv
            refine ⟨b.2.1, b.2.2, by rw [hv]; rfl, hA4.da.ls b hbf, hA4.da.cs b hbf, ?_, few.c b hb⟩
            rw [← hbk]; exact (look_ct hA.da.ky hb).symm
          · have z' : tick ∉ (bs.filter fun b => decide (tick ≤ b.1)).map (·.1) := fun y => z ((List.Sublist.map _ List.filter_sublist).subset y)
            exact ⟨e, [], by rw [val_no z']; rfl, he4, fun c hc => (by cases hc), (look_no z).symm, Nat.zero_le _⟩
        obtain ⟨a, cs, ea, ha, hcs, hlk, hcl⟩ := found
        refine ⟨_, .inl ⟨_, .inl tick, .inl hA4.da.at_, rfl, rfl⟩, ?_⟩
        rw [ea]
        refine ⟨a, rfl, ⟨_, SqL.of ha⟩, fun D2 hD2 => ?_⟩
        refine lc_list (K := K) (a := a) (xs := cs.map fun c => V.ref c.1) (fun i σ H' => (∃ v0 : Option V, σ = [v0]) ∧ Same H4 H' ∧ ∃ rs : List (Addr × List Int), rs.map (·.2) = (cs.take i).map (·.2) ∧ Told H4 H' D2 rs) ⟨⟨none, rfl⟩, (Same.refl H4).new hD2, [], rfl, ⟨upd_same, fun c hc => (by cases hc), fun y hy => ?_, by simp⟩⟩ (fun i σ H' _ p => SqL.of (p.2.1 _ _ ha)) ?_ ?_
        · rw [List.mem_singleton.mp hy]; exact hD2
        · rintro i v σ H' Nx hNx hv ⟨⟨v0, rfl⟩, s5, rs, ers, td⟩
          rw [List.getElem?_map] at hv
          cases ec : cs[i]? with
          | none => rw [ec] at hv; cases hv
          | some c =>
            rw [ec] at hv
            obtain rfl := (Option.some.inj hv)
            have hcm : c ∈ cs := List.mem_of_getElem? ec
            have hic : i < cs.length := (List.getElem?_eq_some_iff.mp ec).1
            have hc5 := s5 _ _ (hcs c hcm).1
            refine turn_do ?_
            refine ⟨_, rfl, c.1, _, rfl, .inl (SqL.of hc5), fun r hr => ?_⟩
            have nrD : r ≠ D2 := fun z => by rw [z, td.at_] at hr; cases hr
            have rnot : r ∉ rs.map (·.1) := fun z => by
              obtain ⟨c', hc', e'⟩ := List.mem_map.mp z
              rw [← e', (td.cs c' hc').1] at hr; cases hr
            refine ⟨_, (upd_ne (Ne.symm nrD)).trans td.at_, ?_, hNx _ _ ⟨⟨_, rfl⟩, ?_, rs ++ [(r, c.2)], ?_, ⟨?_, fun c' hc' => ?_, fun y hy => ?_, ?_⟩⟩⟩
            · rw [List.length_map]
              have : rs.length = (cs.take i).length := by have := congrArg List.length ers; rwa [List.length_map, List.length_map] at this
              rw [List.length_take] at this; omega
            · exact fun y o w => by
                have w5 := s5 _ _ w
                rw [upd_ne (fun z => by rw [z, hD2] at w; cases w), upd_ne (fun z => by rw [z, hr] at w5; cases w5)]; exact w5
            · rw [List.map_append, ers, List.take_add_one, ec, List.map_append]; rfl
            · rw [upd_same, List.map_append]; rfl
            · rcases List.mem_append.mp hc' with hc' | hc'
              · have w := (td.cs c' hc').1
                have nD : c'.1 ≠ D2 := fun z => (List.nodup_cons.mp td.nd).1 (by rw [← z]; exact List.mem_map.mpr ⟨c', hc', rfl⟩)
                exact ⟨by rw [upd_ne nD, upd_ne (fun z => by rw [z, hr] at w; cases w)]; exact w, (td.cs c' hc').2⟩
              · rw [List.mem_singleton.mp hc']
                exact ⟨by rw [upd_ne nrD, upd_same], (hcs c hcm).2⟩
            · rw [List.map_append, ← List.cons_append] at hy
              rcases List.mem_append.mp hy with hy | hy
              · exact td.nw y hy
              · rw [List.mem_singleton.mp hy]; exact s5.free hr
            · rw [List.map_append, ← List.cons_append, List.nodup_append]
              refine ⟨td.nd, by simp, fun y hy z hz w => ?_⟩
              rw [List.mem_singleton.mp hz] at w
              have w' : y = r := w
              rw [w'] at hy
              rcases List.mem_cons.mp hy with e' | hy
              · exact nrD e'
              · exact rnot hy
        · rintro σ H' ⟨⟨v0, rfl⟩, s5, rs, ers, td⟩
          rw [List.length_map, List.take_length] at ers
          have hfr : ∀ y, H4 y = none → H y = none := fun y hy => free3 y (free4 y hy)
          exact q H' D2 rs (hA4.mods (S := []) (Mods.same s5) fun y _ z => by cases z) ⟨td.at_, td.cs, fun y hy => hfr y (td.nw y hy), td.nd⟩ (ers.trans hlk) fun y o ny w => s5 _ _ (s4 _ _ (m3 _ _ ny w))
end
end K19
namespace K19
open PySem L2 PyProof.Rows
section
variable {P : Program} {w : World} {K : PySem.W.Frag} {mg : Str → Option Value} {base : Heap} {t : Ad}
/-! _law_bad_cell -/
theorem cut_take {xs : List V} {n : Nat} (h : n ≤ xs.length) : (cutV xs none (some (n : Int))).length = n := by
  unfold cutV
  rw [HT.sIx_none, HT.sIx_nat, List.length_take, List.length_drop]
  omega
def sp__law_bad_cell : Sp := fun vs H Q _ => ∃ (B : Hp) (l p : Addr) (ns : List Int) (far r k m : Int), vs = [.ref l, .ref p, .int far] ∧ Pot B H p r k m ∧ k ≤ 800000 ∧ B l = some (.lst (ns.map V.int)) ∧ IsRow 24 ns ∧ 0 ≤ far ∧ far < 2 ^ 200 ∧
  ∀ (H' : Hp) (l' : Addr) (ns' : List Int) (r' k' : Int), Pot B H' p r' k' m → k' ≤ k + 3 → H' l' = some (.lst (ns'.map V.int)) → H l' = none → ¬ IsRow 24 ns' → (∀ n ∈ ns', n.natAbs < 2 ^ 1000) → Q (.ref l') H'
theorem sc__law_bad_cell : FnScope ["signs", "pot", "far", "way", "at"] ["signs", "pot", "far"] (defScope s__law_bad_cell) := ⟨rfl, rfl, rfl, by decide +kernel, rfl, by decide +kernel, by decide +kernel⟩
set_option maxHeartbeats 0 in
theorem ok__law_bad_cell (F : Site K mg "_law_bad_cell" s__law_bad_cell) (T : Txt K mg t) (D__law_take : Def P w K mg base 1 "_law_take" ["pot", "size"] sp__law_take) : Def P w K mg base 2 "_law_bad_cell" ["signs", "pot", "far"] sp__law_bad_cell := by
  refine F.def sc__law_bad_cell (fun _ _ _ _ _ _ us hl => match us, hl with | [_, _, _], _ => rfl) (fun vs H Q E h => ?_) (fun f cdv A outer s H vs Q E hr h => ?_)
  · obtain ⟨B, l, p, ns, far, r, k, m, rfl, _⟩ := h
    rfl
  · obtain ⟨B, l, p, ns, far, r, k, m, rfl, hP, hk, hl, hrow, f0, f1, q⟩ := h
    refine ⟨_, pss_cons (ps_set (i := 3) sc__law_bad_cell.nd rfl (Or.inl rfl) (pe_def (D__law_take.mono (by decide)) hr passN (pa_cons (pv 1) (pa_cons pe_int pa_nil))))
      (pss_cons (ps_set (i := 4) sc__law_bad_cell.nd rfl (Or.inl rfl) (pe_def (D__law_take.mono (by decide)) hr passN (pa_cons (pv 1) (pa_cons pe_int pa_nil))))
      (pss_cons (ps_if (pt_cmpR op_eq (pv 3) pe_int (nomark _))
        (pss_one (ps_ret (pe_slice (sl_listK K) (pv 0) po_none (po_some (pv 4)))))
        (pss_nil))
      (pss_cons (ps_if (pt_cmpR op_eq (pv 3) pe_int (nomark _))
        (pss_one (ps_ret (pe_op (op_catK K) (pv 0) (pe_lst (pa_cons (pv 4) pa_nil)))))
        (pss_nil))
      (pss_one (ps_ret (pe_op (op_catK K) (pe_op (op_catK K) (pe_slice (sl_listK K) (pv 0) po_none (po_some (pv 4))) (pe_lst (pa_cons (pe_ix (ix_listK K) (pe_lst (pa_cons pe_int (pa_cons (pe_un un_neg pe_int) (pa_cons (pe_op op_add pe_int (pv 2)) (pa_cons (pe_op op_sub (pe_un un_neg pe_int) (pv 2)) pa_nil))))) (pe_def (D__law_take.mono (by decide)) hr passN (pa_cons (pv 1) (pa_cons pe_int pa_nil))) (fun _ _ => rfl)) pa_nil))) (pe_slice (sl_listK K) (pv 0) (po_some (pe_op op_add (pv 4) pe_int)) po_none))))))), ?_⟩
    have hsz : (2000 : Nat) ≤ sizeLine := by decide
    have hlen : ns.length = 24 := by have := hrow.1; omega
    have small : ∀ n ∈ ns, n.natAbs < 2 ^ 1000 := fun n hn => by have := hrow.2 n hn; exact small_abs (by omega) (by omega)
    have p200 : (2 : Int) ^ 200 + 97 < 2 ^ 201 := by decide
    have bigs : ∀ z : Int, -(2 ^ 201) < z → z < 2 ^ 201 → z.natAbs < 2 ^ 1000 := fun z h1 h2 => by
      have h3 : z.natAbs < 2 ^ 201 := by omega
      exact Nat.lt_of_lt_of_le h3 (Nat.pow_le_pow_right (by decide) (by decide))
    refine ⟨_, rfl, p, 4, r, k, m, rfl, by decide, by decide, hP.at_, hP.r0, hP.k0, by omega, hP.m0, hP.m1, fun way r1 k1 w0 w1 hr1 hk1 hk1' => ?_⟩
    have hP1 := hP.turn hr1 hk1
    have fr1 : ∀ y, (upd H p (.lst [.int r1, .int k1, .int m])) y = none → H y = none := fun y hy => by
      rwa [upd_ne (fun z => by rw [z, upd_same] at hy; cases hy)] at hy
    generalize upd H p (.lst [.int r1, .int k1, .int m]) = H1 at *
    refine ⟨_, rfl, p, 24, r1, k1, m, rfl, by decide, by decide, hP1.at_, hP1.r0, hP1.k0, by omega, hP1.m0, hP1.m1, fun at_ r2 k2 a0 a1 hr2 hk2 hk2' => ?_⟩
    have hP2 := hP1.turn hr2 hk2
    have fr2 : ∀ y, (upd H1 p (.lst [.int r2, .int k2, .int m])) y = none → H y = none := fun y hy => by
      rw [upd_ne (fun z => by rw [z, upd_same] at hy; cases hy)] at hy; exact fr1 y hy
    generalize upd H1 p (.lst [.int r2, .int k2, .int m]) = H2 at *
    have hl2 := SqL.of (K := K) (hP2.sm _ _ hl)
    have ea : ((at_.toNat : Nat) : Int) = at_ := by omega
    refine ⟨_, rfl, rfl, _, rfl, ?_⟩
    by_cases w0 : way = 0
    · refine iteY (by rw [w0]) ?_
      obtain ⟨as, eas, as1, as2⟩ := cut_ints ns none (some at_)
      have eln := cut_take (xs := ns.map V.int) (n := at_.toNat) (by rw [List.length_map]; omega)
      rw [ea, eas, List.length_map] at eln
      refine ⟨_, rfl, _, rfl, _, rfl, l, _, rfl, hl2, fun x hx => ?_⟩
      rw [eas]
      exact q _ x as r2 k2 (hP2.keep ((Same.refl H2).new hx)) (by omega) upd_same (fr2 x hx) (fun z => by have := z.1; omega) fun n hn => small n (as1 n hn)
    · refine iteN (fun z => w0 (V.int.inj z)) ?_
      refine ⟨_, rfl, rfl, _, rfl, ?_⟩
      by_cases w1' : way = 1
      · refine iteY (by rw [w1']) ?_
        refine ⟨_, rfl, _, rfl, by show 1 ≤ sizeLine; decide, fun x hx => ?_⟩
        have s3 := (Same.refl H2).new (o := .lst [V.int at_]) hx
        refine ⟨l, x, _, _, rfl, rfl, s3.seq hl2, SqL.of upd_same, by rw [List.length_map]; show ns.length + 1 ≤ sizeLine; omega, fun y hy => ?_⟩
        refine q _ y (ns ++ [at_]) r2 k2 (hP2.keep (s3.new hy)) (by omega) (by rw [upd_same, List.map_append]; rfl) (fr2 y (s3.free hy)) (fun z => by have := z.1; rw [List.length_append] at this; simp at this; omega) fun n hn => ?_
        rcases List.mem_append.mp hn with hn | hn
        · exact small n hn
        · rw [List.mem_singleton.mp hn]; exact small_abs (by omega) (by omega)
      · refine iteN (fun z => w1' (V.int.inj z)) ?_
        obtain ⟨as, eas, as1, as2⟩ := cut_ints ns none (some at_)
        obtain ⟨cs, ecs, cs1, cs2⟩ := cut_ints ns (some (at_ + 1)) none
        refine ⟨_, rfl, _, rfl, _, rfl, l, _, rfl, hl2, fun x1 hx1 => ?_⟩
        rw [eas]
        have s3 := (Same.refl H2).new (o := .lst (as.map V.int)) hx1
        have e1 : (upd H2 x1 (.lst (as.map V.int))) x1 = some (.lst (as.map V.int)) := upd_same
        generalize upd H2 x1 (.lst (as.map V.int)) = H3 at *
        refine ⟨_, rfl, _, rfl, _, _, rfl, rfl, _, rfl, _, rfl, _, _, rfl, rfl, by show 4 ≤ sizeLine; decide, fun x2 hx2 => ?_⟩
        have s4 := (Same.refl H3).new (o := .lst [V.int 97, V.int (-1), V.int (97 + far), V.int (-1 - far)]) hx2
        have e2 : (upd H3 x2 (.lst [V.int 97, V.int (-1), V.int (97 + far), V.int (-1 - far)])) x2 = some (.lst [V.int 97, V.int (-1), V.int (97 + far), V.int (-1 - far)]) := upd_same
        generalize upd H3 x2 (.lst [V.int 97, V.int (-1), V.int (97 + far), V.int (-1 - far)]) = H4 at *
        have hP4 := hP2.keep (s3.trans s4)
        refine ⟨_, rfl, p, 4, r2, k2, m, rfl, by decide, by decide, hP4.at_, hP4.r0, hP4.k0, by omega, hP4.m0, hP4.m1, fun j r3 k3 j0 j1 hr3 hk3 hk3' => ?_⟩
        have hP5 := hP4.turn hr3 hk3
        have np1 : x1 ≠ p := fun z => by rw [z, hP2.at_] at hx1; cases hx1
        have np2 : x2 ≠ p := fun z => by rw [z, s3 _ _ hP2.at_] at hx2; cases hx2
        have g1 : (upd H4 p (.lst [.int r3, .int k3, .int m])) x1 = some (.lst (as.map V.int)) := (upd_ne np1).trans (s4 _ _ e1)
        have g2 : (upd H4 p (.lst [.int r3, .int k3, .int m])) x2 = some (.lst [V.int 97, V.int (-1), V.int (97 + far), V.int (-1 - far)]) := (upd_ne np2).trans e2
        have fr5 : ∀ y, (upd H4 p (.lst [.int r3, .int k3, .int m])) y = none → H y = none := fun y hy => by
          rw [upd_ne (fun z => by rw [z, upd_same] at hy; cases hy)] at hy; exact fr2 y ((s3.trans s4).free hy)
        generalize upd H4 p (.lst [.int r3, .int k3, .int m]) = H5 at *
        obtain ⟨b, hb, hb1, hb2⟩ : ∃ b : Int, atI [V.int 97, V.int (-1), V.int (97 + far), V.int (-1 - far)] j = some (V.int b) ∧ ¬ (0 ≤ b ∧ b < 97) ∧ b.natAbs < 2 ^ 1000 := by
          have j4 : j = 0 ∨ j = 1 ∨ j = 2 ∨ j = 3 := by omega
          rcases j4 with rfl | rfl | rfl | rfl
          · exact ⟨97, rfl, by omega, bigs _ (by omega) (by omega)⟩
          · exact ⟨-1, rfl, by omega, bigs _ (by omega) (by omega)⟩
          · exact ⟨97 + far, rfl, by omega, bigs _ (by omega) (by omega)⟩
          · exact ⟨-1 - far, rfl, by omega, bigs _ (by omega) (by omega)⟩
        refine ⟨x2, _, _, _, rfl, rfl, SqL.of g2, hb, by show 1 ≤ sizeLine; decide, fun x3 hx3 => ?_⟩
        have s6 := (Same.refl H5).new (o := .lst [V.int b]) hx3
        refine ⟨x1, x3, _, _, rfl, rfl, SqL.of (s6 _ _ g1), SqL.of upd_same, by rw [List.length_map]; show as.length + 1 ≤ sizeLine; omega, fun x4 hx4 => ?_⟩
        have s7 := s6.new (o := .lst (as.map V.int ++ [V.int b])) hx4
        have g4 : (upd (upd H5 x3 (.lst [V.int b])) x4 (.lst (as.map V.int ++ [V.int b]))) x4 = some (.lst (as.map V.int ++ [V.int b])) := upd_same
        generalize upd (upd H5 x3 (.lst [V.int b])) x4 (.lst (as.map V.int ++ [V.int b])) = H6 at *
        have hl6 := (SqL.of (K := K) ((hP5.keep s7).sm _ _ hl))
        refine ⟨_, rfl, _, rfl, _, _, rfl, rfl, _, rfl, l, _, rfl, hl6, fun x5 hx5 => ?_⟩
        rw [ecs]
        have s8 := s7.new (o := .lst (cs.map V.int)) hx5
        have n45 : x4 ≠ x5 := ne_of_none g4 hx5
        refine ⟨x4, x5, _, _, rfl, rfl, SqL.of ((upd_ne n45).trans g4), SqL.of upd_same, by rw [List.length_append, List.length_map, List.length_map]; show as.length + 1 + cs.length ≤ sizeLine; omega, fun x6 hx6 => ?_⟩
        refine q _ x6 (as ++ [b] ++ cs) r3 k3 (hP5.keep (s8.new hx6)) (by omega) (by rw [upd_same, List.map_append, List.map_append]; rfl) (fr5 x6 (s8.free hx6)) (fun z => hb1 (z.2 b (by simp))) fun n hn => ?_
        rcases List.mem_append.mp hn with hn | hn
        · rcases List.mem_append.mp hn with hn | hn
          · exact small n (as1 n hn)
          · rw [List.mem_singleton.mp hn]; exact hb2
        · exact small n (cs1 n hn)
end
end K19
namespace K19
open PySem L2 PyProof.Rows
section
variable {P : Program} {w : World} {K : PySem.W.Frag} {mg : Str → Option Value} {base : Heap} {t : Ad}
/-! fates that are none -/
def fA (d : Int) : Ft := ⟨1, fun _ => d, fun _ => 0, fun _ _ => 0, fun _ _ => 0⟩
def fB (pl ad : Int) : Ft := ⟨1, fun _ => 1, fun _ => 1, fun _ _ => pl, fun _ _ => ad⟩
def fC (p1 a1 p2 a2 : Int) : Ft := ⟨1, fun _ => 1, fun _ => 2, fun _ j => if j = 0 then p1 else p2, fun _ j => if j = 0 then a1 else a2⟩
def fD : Ft := ⟨1, fun _ => 1, fun _ => 5, fun _ k => 3 * (k : Nat) + 1, fun _ k => 1 + (k : Nat)⟩
def fR (n : Nat) : Ft := ⟨n, fun _ => 1, fun _ => 0, fun _ _ => 0, fun _ _ => 0⟩
theorem gv_A {K : PySem.W.Frag} {σ : L2.St} {te : TE} {d : Int} {H : Hp} {Q : VK} (h : ∀ H Q, Q (V.int d) H → te σ H Q) (q : ∀ a H', Same H H' → IsFate K H' a (fA d) → Q (.ref a) H') :
    tTup (tCons (tTup (tCons te (tCons (tTup tNil) tNil))) tNil) σ H Q := by
  refine h _ _ ⟨by show 0 ≤ sizeLine; decide, fun p1 h1 => ⟨by show 2 ≤ sizeLine; decide, fun p2 h2 => ⟨by show 1 ≤ sizeLine; decide, fun p3 h3 => ?_⟩⟩⟩
  have s1 := (Same.refl (upd H p1 (.tup []))).new (o := .tup [V.int d, V.ref p1]) h2
  have s2 := s1.new (o := .tup [V.ref p2]) h3
  refine q p3 _ ((((Same.refl H).new h1).new h2).new h3) ⟨fun _ => p2, fun _ => p1, SqT.of (by rw [upd_same]; rfl), fun k hk => ⟨SqT.of ?_, fun _ => 0, SqT.of (s2 _ _ upd_same), fun j hj => absurd hj (Nat.not_lt_zero _)⟩⟩
  rw [upd_ne (ne_of_none upd_same h3), upd_same]; rfl
theorem gv_B {K : PySem.W.Frag} {σ : L2.St} {tp ta : TE} {pl ad : Int} {H : Hp} {Q : VK} (hp : ∀ H Q, Q (V.int pl) H → tp σ H Q) (ha : ∀ H Q, Q (V.int ad) H → ta σ H Q) (q : ∀ a H', Same H H' → IsFate K H' a (fB pl ad) → Q (.ref a) H') :
    tTup (tCons (tTup (tCons (tC (V.int 1)) (tCons (tTup (tCons (tTup (tCons tp (tCons ta tNil))) tNil)) tNil))) tNil) σ H Q := by
  refine hp _ _ (ha _ _ ⟨by show 2 ≤ sizeLine; decide, fun p0 h0 => ⟨by show 1 ≤ sizeLine; decide, fun p1 h1 => ⟨by show 2 ≤ sizeLine; decide, fun p2 h2 => ⟨by show 1 ≤ sizeLine; decide, fun p3 h3 => ?_⟩⟩⟩⟩)
  have e3 : (upd (upd (upd (upd H p0 (.tup [V.int pl, V.int ad])) p1 (.tup [V.ref p0])) p2 (.tup [V.int 1, V.ref p1])) p3 (.tup [V.ref p2])) p3 = some (.tup [V.ref p2]) := upd_same
  have e2 : (upd (upd (upd (upd H p0 (.tup [V.int pl, V.int ad])) p1 (.tup [V.ref p0])) p2 (.tup [V.int 1, V.ref p1])) p3 (.tup [V.ref p2])) p2 = some (.tup [V.int 1, V.ref p1]) := (Same.refl _).new h3 _ _ upd_same
  have e1 : (upd (upd (upd (upd H p0 (.tup [V.int pl, V.int ad])) p1 (.tup [V.ref p0])) p2 (.tup [V.int 1, V.ref p1])) p3 (.tup [V.ref p2])) p1 = some (.tup [V.ref p0]) := ((Same.refl _).new h2).new h3 _ _ upd_same
  have e0 : (upd (upd (upd (upd H p0 (.tup [V.int pl, V.int ad])) p1 (.tup [V.ref p0])) p2 (.tup [V.int 1, V.ref p1])) p3 (.tup [V.ref p2])) p0 = some (.tup [V.int pl, V.int ad]) := (((Same.refl _).new h1).new h2).new h3 _ _ upd_same
  have s : Same H (upd (upd (upd (upd H p0 (.tup [V.int pl, V.int ad])) p1 (.tup [V.ref p0])) p2 (.tup [V.int 1, V.ref p1])) p3 (.tup [V.ref p2])) := ((((Same.refl H).new h0).new h1).new h2).new h3
  exact q p3 _ s ⟨fun _ => p2, fun _ => p1, SqT.of e3, fun k hk => ⟨SqT.of e2, fun _ => p0, SqT.of e1, fun j hj => SqT.of e0⟩⟩
theorem gv_C {K : PySem.W.Frag} {σ : L2.St} {a b c d : Int} {H : Hp} {Q : VK} (q : ∀ x H', Same H H' → IsFate K H' x (fC a b c d) → Q (.ref x) H') :
    tTup (tCons (tTup (tCons (tC (V.int 1)) (tCons (tTup (tCons (tTup (tCons (tC (V.int a)) (tCons (tC (V.int b)) tNil))) (tCons (tTup (tCons (tC (V.int c)) (tCons (tC (V.int d)) tNil))) tNil))) tNil))) tNil) σ H Q := by
  refine ⟨by show 2 ≤ sizeLine; decide, fun p0 h0 => ⟨by show 2 ≤ sizeLine; decide, fun p4 h4 => ⟨by show 2 ≤ sizeLine; decide, fun p1 h1 => ⟨by show 2 ≤ sizeLine; decide, fun p2 h2 => ⟨by show 1 ≤ sizeLine; decide, fun p3 h3 => ?_⟩⟩⟩⟩⟩
  have e3 : (upd (upd (upd (upd (upd H p0 (.tup [V.int a, V.int b])) p4 (.tup [V.int c, V.int d])) p1 (.tup [V.ref p0, V.ref p4])) p2 (.tup [V.int 1, V.ref p1])) p3 (.tup [V.ref p2])) p3 = some (.tup [V.ref p2]) := upd_same
  have e2 : (upd (upd (upd (upd (upd H p0 (.tup [V.int a, V.int b])) p4 (.tup [V.int c, V.int d])) p1 (.tup [V.ref p0, V.ref p4])) p2 (.tup [V.int 1, V.ref p1])) p3 (.tup [V.ref p2])) p2 = some (.tup [V.int 1, V.ref p1]) := (Same.refl _).new h3 _ _ upd_same
  have e1 : (upd (upd (upd (upd (upd H p0 (.tup [V.int a, V.int b])) p4 (.tup [V.int c, V.int d])) p1 (.tup [V.ref p0, V.ref p4])) p2 (.tup [V.int 1, V.ref p1])) p3 (.tup [V.ref p2])) p1 = some (.tup [V.ref p0, V.ref p4]) := ((Same.refl _).new h2).new h3 _ _ upd_same
  have e4 : (upd (upd (upd (upd (upd H p0 (.tup [V.int a, V.int b])) p4 (.tup [V.int c, V.int d])) p1 (.tup [V.ref p0, V.ref p4])) p2 (.tup [V.int 1, V.ref p1])) p3 (.tup [V.ref p2])) p4 = some (.tup [V.int c, V.int d]) := (((Same.refl _).new h1).new h2).new h3 _ _ upd_same
  have e0 : (upd (upd (upd (upd (upd H p0 (.tup [V.int a, V.int b])) p4 (.tup [V.int c, V.int d])) p1 (.tup [V.ref p0, V.ref p4])) p2 (.tup [V.int 1, V.ref p1])) p3 (.tup [V.ref p2])) p0 = some (.tup [V.int a, V.int b]) := ((((Same.refl _).new h4).new h1).new h2).new h3 _ _ upd_same
  have s : Same H (upd (upd (upd (upd (upd H p0 (.tup [V.int a, V.int b])) p4 (.tup [V.int c, V.int d])) p1 (.tup [V.ref p0, V.ref p4])) p2 (.tup [V.int 1, V.ref p1])) p3 (.tup [V.ref p2])) := (((((Same.refl H).new h0).new h4).new h1).new h2).new h3
  refine q p3 _ s ⟨fun _ => p2, fun _ => p1, SqT.of e3, fun k hk => ⟨SqT.of e2, fun j => if j = 0 then p0 else p4, SqT.of e1, fun j hj => ?_⟩⟩
  by_cases z : j = 0
  · show SqT K _ (if j = 0 then p0 else p4) [.int (if j = 0 then a else c), .int (if j = 0 then b else d)]; rw [if_pos z, if_pos z, if_pos z]; exact SqT.of e0
  · show SqT K _ (if j = 0 then p0 else p4) [.int (if j = 0 then a else c), .int (if j = 0 then b else d)]; rw [if_neg z, if_neg z, if_neg z]; exact SqT.of e4
/-- f ahead, then the first of g -/
def catFt (f : Ft) (g : Ft) (n : Nat) : Ft := ⟨f.m + n, fun k => if k < f.m then f.dl k else g.dl (k - f.m), fun k => if k < f.m then f.cn k else g.cn (k - f.m), fun k => if k < f.m then f.pl k else g.pl (k - f.m), fun k => if k < f.m then f.ad k else g.ad (k - f.m)⟩
theorem cat_tab (u v : Nat) (f g : Nat → Addr) : tabR u f ++ tabR v g = tabR (u + v) fun j => if j < u then f j else g (j - u) := by
  apply List.ext_getElem?
  intro j
  by_cases h : j < u
  · rw [List.getElem?_append_left (by rw [tab_len]; exact h), tab_get h, tab_get (by omega)]; show _ = some (V.ref (if j < u then f j else g (j - u))); rw [if_pos h]
  · rw [List.getElem?_append_right (by rw [tab_len]; omega), tab_len]
    by_cases h2 : j < u + v
    · rw [tab_get (by omega), tab_get h2]; show _ = some (V.ref (if j < u then f j else g (j - u))); rw [if_neg h]
    · rw [List.getElem?_eq_none (by rw [tab_len]; omega), List.getElem?_eq_none (by rw [tab_len]; omega)]
theorem cat_fate {K : PySem.W.Frag} {H : Hp} {x : Addr} {f g : Ft} {n : Nat} {as bs tf tg : Nat → Addr} (hx : SqT K H x (tabR f.m as ++ tabR n bs)) (hf : ∀ k, k < f.m → SqT K H (as k) [.int (f.dl k), .ref (tf k)] ∧ IsTurns K H (tf k) (f.cn k) (f.pl k) (f.ad k))
    (hg : ∀ k, k < n → SqT K H (bs k) [.int (g.dl k), .ref (tg k)] ∧ IsTurns K H (tg k) (g.cn k) (g.pl k) (g.ad k)) : IsFate K H x (catFt f g n) := by
  rw [cat_tab] at hx
  refine ⟨_, fun k => if k < f.m then tf k else tg (k - f.m), hx, fun k hk => ?_⟩
  have hk' : k < f.m + n := hk
  unfold catFt
  by_cases h : k < f.m
  · simp only [if_pos h]; exact hf k h
  · simp only [if_neg h]; exact hg (k - f.m) (by omega)
/-- what makes an odd fate one -/
def Odd (late : Int) (f : Ft) (n : Nat) : Prop := FarF f ∧ f.m ≤ 4 ∧ (3 < f.m + n ∨ ∃ k, k < f.m ∧ ¬ (1 ≤ f.dl k ∧ f.dl k ≤ late ∧ GoodT (f.cn k) (f.pl k) (f.ad k)))
theorem Odd.bad {late : Int} {f g : Ft} {n : Nat} (h : Odd late f n) : ¬ GoodF late (catFt f g n) := fun z => by
  rcases h.2.2 with h | ⟨k, hk, h⟩
  · have := z.few; have e : (catFt f g n).m = f.m + n := rfl; omega
  · have hk' : k < (catFt f g n).m := by show k < f.m + n; omega
    have d := z.d k hk'
    have t := z.t k hk'
    unfold catFt at d t
    simp only [if_pos hk] at d t
    exact h ⟨d.1, d.2, t⟩
theorem gv_D {K : PySem.W.Frag} {σ : L2.St} {H : Hp} {Q : VK} (q : ∀ x H', Same H H' → IsFate K H' x fD → Q (.ref x) H') :
    tTup (tCons (tTup (tCons (tC (V.int 1)) (tCons (tCB (fun xs H Q => ∃ p ys, xs = [V.ref p] ∧ ((SqL K H p ys ∧ ∀ l, H l = none → Q (V.ref l) (upd H l (.tup ys))) ∨ SqT K H p ys ∧ Q (V.ref p) H))
      (tCons (tLC (iRng1 (tCons (tC (V.int 5)) tNil)) [none] (gName 0) tYes (tTup (tCons (tOp (rI0 fun i j => V.int (i + j)) (tOp (rI CMul fun i j => V.int (i * j)) (tC (V.int 3)) (tVar 0)) (tC (V.int 1))) (tCons (tOp (rI0 fun i j => V.int (i + j)) (tC (V.int 1)) (tVar 0)) tNil)))) tNil)) tNil))) tNil) σ H Q := by
  refine ⟨5, rfl, by decide, by decide, fun D hD => ?_⟩
  refine lc_range (lo := 0) (n := 5) (fun i σ H' => ∃ (v : Option V) (tps : Nat → Addr), σ = [v] ∧ Same H H' ∧ H' D = some (.lst (tabR i tps)) ∧ ∀ k, k < i → H' (tps k) = some (.tup [.int (3 * (k : Nat) + 1), .int (1 + (k : Nat))])) ⟨none, fun _ => 0, rfl, (Same.refl _).new hD, upd_same, fun k hk => absurd hk (Nat.not_lt_zero _)⟩ ?_ ?_
  · rintro i σ' H' N hN hi ⟨v, tps, rfl, s1, hD1, ht⟩
    refine turn_do ?_
    refine ⟨_, rfl, _, _, rfl, rfl, .inl ⟨by decide, by decide⟩, _, _, rfl, rfl, _, rfl, _, _, rfl, rfl, by show 2 ≤ sizeLine; decide, fun p hp => ?_⟩
    have npD : D ≠ p := ne_of_none hD1 hp
    refine ⟨_, (upd_ne npD).trans hD1, by rw [tab_len]; have : (5 : Nat) < sizeLine := by decide
                                          omega, hN _ _ ⟨_, fun k => if k < i then tps k else p, rfl, (s1.new hp).put hD, ?_, fun k hk => ?_⟩⟩
    · rw [upd_same]
      have e1 : tabR i tps ++ [V.ref p] = tabR i tps ++ tabR 1 fun _ => p := rfl
      rw [e1, cat_tab]
    · have nk : (if k < i then tps k else p) ≠ D := by
        by_cases z : k < i
        · rw [if_pos z]; exact fun y => by have := ht k z; rw [y, hD1] at this; cases this
        · rw [if_neg z]; exact Ne.symm npD
      rw [upd_ne nk]
      by_cases z : k < i
      · rw [if_pos z, upd_ne (ne_of_none (ht k z) hp)]; exact ht k z
      · have e : k = i := by omega
        rw [if_neg z, upd_same, e, Int.zero_add]
  · rintro σ' H' ⟨v, tps, rfl, s1, hD1, ht⟩
    refine ⟨D, _, rfl, .inl ⟨SqL.of hD1, fun p1 h1 => ⟨by show 2 ≤ sizeLine; decide, fun p2 h2 => ⟨by show 1 ≤ sizeLine; decide, fun p3 h3 => ?_⟩⟩⟩⟩
    have s4 : Same H' (upd (upd (upd H' p1 (.tup (tabR 5 tps))) p2 (.tup [V.int 1, V.ref p1])) p3 (.tup [V.ref p2])) := (((Same.refl H').new h1).new h2).new h3
    have e3 : (upd (upd (upd H' p1 (.tup (tabR 5 tps))) p2 (.tup [V.int 1, V.ref p1])) p3 (.tup [V.ref p2])) p3 = some (.tup [V.ref p2]) := upd_same
    have e2 : (upd (upd (upd H' p1 (.tup (tabR 5 tps))) p2 (.tup [V.int 1, V.ref p1])) p3 (.tup [V.ref p2])) p2 = some (.tup [V.int 1, V.ref p1]) := (Same.refl _).new h3 _ _ upd_same
    have e1 : (upd (upd (upd H' p1 (.tup (tabR 5 tps))) p2 (.tup [V.int 1, V.ref p1])) p3 (.tup [V.ref p2])) p1 = some (.tup (tabR 5 tps)) := ((Same.refl _).new h2).new h3 _ _ upd_same
    exact q p3 _ (s1.trans s4) ⟨fun _ => p2, fun _ => p1, SqT.of e3, fun k hk => ⟨SqT.of e2, tps, SqT.of e1, fun j hj => SqT.of (s4 _ _ (ht j hj))⟩⟩
theorem one_abs : (1 : Int).natAbs < 2 ^ 1000 := small_abs (by decide) (by decide)
theorem odd_A {late d : Int} {n : Nat} (h : d.natAbs < 2 ^ 1000) (b : ¬ (1 ≤ d ∧ d ≤ late)) : Odd late (fA d) n :=
  ⟨⟨by show 1 ≤ 1000; decide, fun _ _ => h, fun _ _ => ⟨by show 0 ≤ 1000; decide, fun j hj => absurd hj (Nat.not_lt_zero _)⟩⟩, by show 1 ≤ 4; decide, .inr ⟨0, by show 0 < 1; decide, fun z => b ⟨z.1, z.2.1⟩⟩⟩
theorem odd_B {late pl ad : Int} {n : Nat} (h1 : pl.natAbs < 2 ^ 1000) (h2 : ad.natAbs < 2 ^ 1000) (b : ¬ (0 ≤ pl ∧ pl < 24 ∧ 1 ≤ ad ∧ ad < 97)) : Odd late (fB pl ad) n :=
  ⟨⟨by show 1 ≤ 1000; decide, fun _ _ => one_abs, fun _ _ => ⟨by show 1 ≤ 1000; decide, fun j hj => ⟨h1, h2⟩⟩⟩, by show 1 ≤ 4; decide, .inr ⟨0, by show 0 < 1; decide, fun z => b (z.2.2.b 0 (by show 0 < 1; decide))⟩⟩
theorem odd_C {late p1 a1 p2 a2 : Int} {n : Nat} (h1 : p1.natAbs < 2 ^ 1000) (h2 : a1.natAbs < 2 ^ 1000) (h3 : p2.natAbs < 2 ^ 1000) (h4 : a2.natAbs < 2 ^ 1000) (b : ¬ p1 < p2) : Odd late (fC p1 a1 p2 a2) n :=
  ⟨⟨by show 1 ≤ 1000; decide, fun _ _ => one_abs, fun _ _ => ⟨by show 2 ≤ 1000; decide, fun j hj => by
      show (if j = 0 then p1 else p2).natAbs < 2 ^ 1000 ∧ (if j = 0 then a1 else a2).natAbs < 2 ^ 1000
      by_cases z : j = 0
      · rw [if_pos z, if_pos z]; exact ⟨h1, h2⟩
      · rw [if_neg z, if_neg z]; exact ⟨h3, h4⟩⟩⟩, by show 1 ≤ 4; decide, .inr ⟨0, by show 0 < 1; decide, fun z => b (z.2.2.up 0 (by show 0 + 1 < 2; decide))⟩⟩
theorem odd_D {late : Int} {n : Nat} : Odd late fD n :=
  ⟨⟨by show 1 ≤ 1000; decide, fun _ _ => one_abs, fun _ _ => ⟨by show 5 ≤ 1000; decide, fun j hj => by
      have hj' : j < 5 := hj
      exact ⟨small_abs (by show (-1000 : Int) ≤ 3 * (j : Nat) + 1; omega) (by show 3 * ((j : Nat) : Int) + 1 ≤ 1000; omega), small_abs (by show (-1000 : Int) ≤ 1 + (j : Nat); omega) (by show 1 + ((j : Nat) : Int) ≤ 1000; omega)⟩⟩⟩, by show 1 ≤ 4; decide, .inr ⟨0, by show 0 < 1; decide, fun z => absurd z.2.2.few (by show ¬ 5 ≤ 4; decide)⟩⟩
theorem odd_R {late : Int} {n : Nat} (h : n ≤ 4) : Odd late (fR (4 - n)) n :=
  ⟨⟨by show 4 - n ≤ 1000; omega, fun _ _ => one_abs, fun _ _ => ⟨by show 0 ≤ 1000; decide, fun j hj => absurd hj (Nat.not_lt_zero _)⟩⟩, by show 4 - n ≤ 4; omega, .inl (by show 3 < 4 - n + n; omega)⟩
theorem far_cat {f g : Ft} {n : Nat} (hf : FarF f) (h4 : f.m ≤ 4) (hg : FarF g) (hn : n ≤ g.m) (h2 : n ≤ 2) : FarF (catFt f g n) := by
  refine ⟨by show f.m + n ≤ 1000; omega, fun k hk => ?_, fun k hk => ?_⟩
  · have hk' : k < f.m + n := hk
    unfold catFt
    by_cases z : k < f.m
    · simp only [if_pos z]; exact hf.d k z
    · simp only [if_neg z]; exact hg.d _ (by omega)
  · have hk' : k < f.m + n := hk
    unfold catFt
    by_cases z : k < f.m
    · simp only [if_pos z]; exact hf.t k z
    · simp only [if_neg z]; exact hg.t _ (by omega)
end
end K19
namespace K19
open PySem L2 PyProof.Rows
section
variable {P : Program} {w : World} {K : PySem.W.Frag} {mg : Str → Option Value} {base : Heap} {t : Ad}
/-! one step of a reading at a time -/
section
variable {te ta tb to : TE} {tr : TA} {g : TG} {u : TS} {D : Ends} {σ : L2.St} {H : Hp} {Q : VK} {K : PySem.W.Frag} {r : R2} {T : String} {rm : V → List V → Hp → VK → Prop}
theorem in_asg (h : te σ H fun x H1 => g x σ H1 (u D)) : tSeq (tAsg te g) u D σ H := h
theorem in_drop (h : te σ H fun _ H1 => u D σ H1) : tSeq (tDrop te) u D σ H := h
theorem in_lst (h : tr σ H fun xs H1 => xs.length ≤ sizeLine ∧ ∀ p, H1 p = none → Q (.ref p) (upd H1 p (.lst xs))) : tLst tr σ H Q := h
theorem in_cons {Q : List V → Hp → Prop} (h : te σ H fun x H1 => tr σ H1 fun xs H2 => Q (x :: xs) H2) : tCons te tr σ H Q := h
theorem in_nil {Q : List V → Hp → Prop} (h : Q [] H) : tNil σ H Q := h
theorem in_op (h : ta σ H fun x H1 => tb σ H1 fun y H2 => r x y H2 Q) : tOp r ta tb σ H Q := h
theorem in_bm (h : to σ H fun x H1 => tyV K T x H1 ∧ tr σ H1 fun xs H2 => rm x xs H2 Q) : tBM K T rm to tr σ H Q := h
end
/-! _law_bad_fate -/
theorem cut_two (n : Nat) (f : Nat → Addr) : cutV (tabR n f) none (some 2) = tabR (min 2 n) f := by
  unfold cutV
  have e : (some (2 : Int)) = some ((2 : Nat) : Int) := rfl
  rw [e, HT.sIx_none, HT.sIx_nat, tab_len]
  apply List.ext_getElem?
  intro j
  by_cases h : j < min 2 n
  · rw [List.getElem?_take_of_lt (by omega), List.getElem?_drop, tab_get (by omega), tab_get h, Nat.zero_add]
  · rw [List.getElem?_eq_none (by rw [List.length_take, List.length_drop, tab_len]; omega), List.getElem?_eq_none (by rw [tab_len]; omega)]
def sp__law_bad_fate (K : PySem.W.Frag) : Sp := fun vs H Q _ => ∃ (B : Hp) (a p : Addr) (r k m late : Int) (f : Ft), vs = [.ref a, .ref p, .int late] ∧ 1 ≤ late ∧ late ≤ 6 ∧ Pot B H p r k m ∧ k ≤ 800000 ∧ IsFate K B a f ∧ GoodF late f ∧
  ∀ (H' : Hp) (a' : Addr) (f' : Ft) (r' k' : Int), Pot B H' p r' k' m → k' ≤ k + 1 → (∀ y, H' y = none → H y = none) → IsFate K H' a' f' → FarF f' → ¬ GoodF late f' → Q (.ref a') H'
theorem sc__law_bad_fate : FnScope ["fate", "pot", "late", "odd"] ["fate", "pot", "late"] (defScope s__law_bad_fate) := ⟨rfl, rfl, rfl, by decide +kernel, rfl, by decide +kernel, by decide +kernel⟩
set_option maxHeartbeats 0 in
theorem ok__law_bad_fate (F : Site K mg "_law_bad_fate" s__law_bad_fate) (T : Txt K mg t) (D__law_take : Def P w K mg base 1 "_law_take" ["pot", "size"] sp__law_take) : Def P w K mg base 2 "_law_bad_fate" ["fate", "pot", "late"] (sp__law_bad_fate K) := by
  refine F.def sc__law_bad_fate (fun _ _ _ _ _ _ us hl => match us, hl with | [_, _, _], _ => rfl) (fun vs H Q E h => ?_) (fun f cdv A outer s H vs Q E hr h => ?_)
  · obtain ⟨B, a, p, r, k, m, late, f, rfl, _⟩ := h
    rfl
  · obtain ⟨B, a, p, r, k, m, late, f, rfl, l0, l1, hP, hk, hF, gF, q⟩ := h
    refine ⟨_, pss_cons (ps_setL (i := 3) sc__law_bad_fate.nd rfl (Or.inl rfl) (x_consT (x_tup (x_consT (x_tup (x_consB (x_of (pe_op op_add (pv 2) pe_int)) (x_consT (x_tup x_nil) x_nil))) x_nil)) (x_consT (x_tup (x_consT (x_tup (x_consC x_int (x_consT (x_tup x_nil) x_nil))) x_nil)) (x_consT (x_tup (x_consT (x_tup (x_consC x_int (x_consT (x_tup (x_consT (x_tup (x_consC x_int (x_consC x_int x_nil))) x_nil)) x_nil))) x_nil)) (x_consT (x_tup (x_consT (x_tup (x_consC x_int (x_consT (x_tup (x_consT (x_tup (x_consC x_int (x_consC x_int x_nil))) x_nil)) x_nil))) x_nil)) (x_consT (x_tup (x_consT (x_tup (x_consU x_neg (x_consT (x_tup x_nil) x_nil))) x_nil)) (x_consT (x_tup (x_consT (x_tup (x_consC x_int (x_consT (x_tup (x_consT (x_tup (x_consC x_int (x_consC x_int x_nil))) x_nil)) x_nil))) x_nil)) x_nil)))))))
      (pss_cons (ps_catL K (i := 3) sc__law_bad_fate.nd rfl (Or.inl rfl) (pv 3) (x_consB (x_rep K (x_tup (x_consT (x_tup (x_consC x_int (x_consT (x_tup x_nil) x_nil))) x_nil)) (pe_op op_sub pe_int (pe_callB (call_lenK K) (by rfl) T.n_len boot_len (pa_cons (pe_slice (sl_tupA K) (pv 0) po_none (po_some pe_int)) pa_nil)))) (x_consT (x_tup (x_consT (x_tup (x_consC x_int (x_consT (x_tup (x_consT (x_tup (x_consU x_neg (x_consC x_int x_nil))) x_nil)) x_nil))) x_nil)) (x_consT (x_tup (x_consT (x_tup (x_consC x_int (x_consT (x_tup (x_consT (x_tup (x_consC x_int (x_consC x_int x_nil))) (x_consT (x_tup (x_consC x_int (x_consC x_int x_nil))) x_nil))) x_nil))) x_nil)) x_nil))))
      (pss_cons (ps_appT K (pv 3) (x_tup (x_consT (x_tup (x_consC x_int (x_consT (x_tup (x_consT (x_tup (x_consC x_int (x_consC x_int x_nil))) (x_consT (x_tup (x_consC x_int (x_consC x_int x_nil))) x_nil))) x_nil))) x_nil)))
      (pss_cons (ps_appT K (pv 3) (x_tup (x_consT (x_tup (x_consC x_int (x_consL (x_of (pe_callTy (call_tupleK K) (by rfl) T.n_tuple boot_tuple (pa_cons (pe_lc rfl (Nc := ["k"]) (ix := [none]) (cscope (defScope s__law_bad_fate) ["fate", "pot", "late", "odd"] rfl rfl (by decide +kernel)) (pi_range1 (by rfl) T.n_range (pa_cons pe_int pa_nil)) (fun C fp s H => ⟨(pg_name (i := 0) (show (["k"] : List Str).Nodup by decide +kernel) rfl (Or.inl rfl)), pts_nil, (pe_tup (pa_cons (pe_op op_add (pe_op op_mul pe_int (pv 0)) pe_int) (pa_cons (pe_op op_add pe_int (pv 0)) pa_nil)))⟩)) pa_nil))) x_nil))) x_nil)))
      (pss_one (ps_ret (pe_op (op_catA K) (pe_ix (ix_listK K) (pv 3) (pe_def (D__law_take.mono (by decide)) hr passN (pa_cons (pv 1) (pa_cons pe_int pa_nil))) (fun _ _ => rfl)) (pe_slice (sl_tupA K) (pv 0) po_none (po_some pe_int)))))))), ?_⟩
    have iC : ∀ {σ : L2.St} (i : Int) (H : Hp) (Q : VK), Q (V.int i) H → tC (V.int i) σ H Q := fun i H Q h => h
    refine in_asg (in_lst (in_cons ?_))
    refine gv_A (K := K) (d := late + 1) (fun H Q h => ⟨_, rfl, _, _, rfl, rfl, h⟩) fun a1 H1 s1 o1 => in_cons ?_
    refine gv_A (K := K) (d := 0) (iC 0) fun a2 H2 s2 o2 => in_cons ?_
    refine gv_B (K := K) (iC 24) (iC 1) fun a3 H3 s3 o3 => in_cons ?_
    refine gv_B (K := K) (iC 0) (iC 97) fun a4 H4 s4 o4 => in_cons ?_
    refine gv_A (K := K) (d := -1) (fun H Q h => ⟨_, rfl, h⟩) fun a5 H5 s5 o5 => in_cons ?_
    refine gv_B (K := K) (iC 3) (iC 0) fun a6 H6 s6 o6 => in_nil ⟨by show 6 ≤ sizeLine; decide, fun l6 hl6 => ?_⟩
    have o1 := Same.fate (((((s2.trans s3).trans s4).trans s5).trans s6).new (o := .lst [V.ref a1, V.ref a2, V.ref a3, V.ref a4, V.ref a5, V.ref a6]) hl6) o1
    have o2 := Same.fate ((((s3.trans s4).trans s5).trans s6).new (o := .lst [V.ref a1, V.ref a2, V.ref a3, V.ref a4, V.ref a5, V.ref a6]) hl6) o2
    have o3 := Same.fate (((s4.trans s5).trans s6).new (o := .lst [V.ref a1, V.ref a2, V.ref a3, V.ref a4, V.ref a5, V.ref a6]) hl6) o3
    have o4 := Same.fate ((s5.trans s6).new (o := .lst [V.ref a1, V.ref a2, V.ref a3, V.ref a4, V.ref a5, V.ref a6]) hl6) o4
    have o5 := Same.fate (s6.new (o := .lst [V.ref a1, V.ref a2, V.ref a3, V.ref a4, V.ref a5, V.ref a6]) hl6) o5
    have o6 := Same.fate ((Same.refl H6).new (o := .lst [V.ref a1, V.ref a2, V.ref a3, V.ref a4, V.ref a5, V.ref a6]) hl6) o6
    have t7 := (((((s1.trans s2).trans s3).trans s4).trans s5).trans s6).new (o := .lst [V.ref a1, V.ref a2, V.ref a3, V.ref a4, V.ref a5, V.ref a6]) hl6
    have e6 : (upd H6 l6 (.lst [V.ref a1, V.ref a2, V.ref a3, V.ref a4, V.ref a5, V.ref a6])) l6 = some (.lst [V.ref a1, V.ref a2, V.ref a3, V.ref a4, V.ref a5, V.ref a6]) := upd_same
    generalize upd H6 l6 (.lst [V.ref a1, V.ref a2, V.ref a3, V.ref a4, V.ref a5, V.ref a6]) = H7 at *
    clear s1 s2 s3 s4 s5 s6 hl6
    refine in_asg ⟨_, rfl, in_lst (in_cons (in_op ?_))⟩
    refine gv_A (K := K) (d := 1) (iC 1) fun b1 H8 s8 b1f => in_op ?_
    obtain ⟨aps, tns, hA, hk2⟩ := id hF
    have n2 : min 2 f.m ≤ 2 := Nat.min_le_left _ _
    have n3 : min 2 f.m ≤ f.m := Nat.min_le_right _ _
    have sB : Same B H7 := hP.sm.trans t7
    refine ⟨_, rfl, _, rfl, a, _, rfl, (sB.trans s8).tup hA, fun r9 H9 s9 hr9 => ?_⟩
    rw [cut_two] at hr9
    refine ⟨r9, _, rfl, .inr hr9, _, _, rfl, rfl, ?_⟩
    obtain ⟨ap1, tn1, hb1, hb2⟩ := Same.fate s9 b1f
    refine ⟨b1, _, _, rfl, rfl, hb1, (fun z => by have := congrArg List.length z; rw [tab_len] at this; cases this), by rw [tab_len]; decide, by rw [tab_len]; omega, by omega, fun b2 hb2' => ?_⟩
    have ek : ((4 : Int) - (((tabR (min 2 f.m) aps).length : Nat) : Int)).toNat = 4 - min 2 f.m := by rw [tab_len]; omega
    rw [ek, show tabR (fA 1).m ap1 = [V.ref (ap1 0)] from rfl, rep_tab]
    have s10 : Same H9 (upd H9 b2 (.tup (tabV (4 - min 2 f.m) fun _ => V.ref (ap1 0)))) := (Same.refl H9).new hb2'
    have bR : IsFate K (upd H9 b2 (.tup (tabV (4 - min 2 f.m) fun _ => V.ref (ap1 0)))) b2 (fR (4 - min 2 f.m)) :=
      ⟨fun _ => ap1 0, fun _ => tn1 0, SqT.of upd_same, fun k hk => ⟨s10.tup (hb2 0 (by decide)).1, Same.turns s10 (hb2 0 (by decide)).2⟩⟩
    generalize upd H9 b2 (.tup (tabV (4 - min 2 f.m) fun _ => V.ref (ap1 0))) = H10 at *
    dsimp only
    refine in_cons ?_
    refine gv_B (K := K) (fun H Q h => ⟨_, rfl, h⟩) (iC 1) fun b3 H11 s11 b3f => in_cons ?_
    refine gv_C (K := K) fun b4 H12 s12 b4f => in_nil ⟨by show 3 ≤ sizeLine; decide, fun l3 hl3 => ?_⟩
    have tA : Same H7 (upd H12 l3 (.lst [V.ref b2, V.ref b3, V.ref b4])) := ((((s8.trans s9).trans s10).trans s11).trans s12).new hl3
    have bR := Same.fate ((s11.trans s12).new (o := .lst [V.ref b2, V.ref b3, V.ref b4]) hl3) bR
    have b3f := Same.fate (s12.new (o := .lst [V.ref b2, V.ref b3, V.ref b4]) hl3) b3f
    have b4f := Same.fate ((Same.refl H12).new (o := .lst [V.ref b2, V.ref b3, V.ref b4]) hl3) b4f
    have e3 : (upd H12 l3 (.lst [V.ref b2, V.ref b3, V.ref b4])) l3 = some (.lst [V.ref b2, V.ref b3, V.ref b4]) := upd_same
    generalize upd H12 l3 (.lst [V.ref b2, V.ref b3, V.ref b4]) = H13 at *
    refine ⟨l6, l3, _, _, rfl, rfl, SqL.of (tA _ _ e6), SqL.of e3, by show 9 ≤ sizeLine; decide, fun l9 hl9 => ?_⟩
    have o1 := Same.fate tA o1
    have o2 := Same.fate tA o2
    have o3 := Same.fate tA o3
    have o4 := Same.fate tA o4
    have o5 := Same.fate tA o5
    have o6 := Same.fate tA o6
    have sB3 : Same H H13 := t7.trans tA
    have s14 : Same H13 (upd H13 l9 (.lst ([V.ref a1, V.ref a2, V.ref a3, V.ref a4, V.ref a5, V.ref a6] ++ [V.ref b2, V.ref b3, V.ref b4]))) := (Same.refl H13).new hl9
    have e9 : (upd H13 l9 (.lst ([V.ref a1, V.ref a2, V.ref a3, V.ref a4, V.ref a5, V.ref a6] ++ [V.ref b2, V.ref b3, V.ref b4]))) l9 = some (.lst [V.ref a1, V.ref a2, V.ref a3, V.ref a4, V.ref a5, V.ref a6, V.ref b2, V.ref b3, V.ref b4]) := upd_same
    dsimp only
    generalize upd H13 l9 (.lst ([V.ref a1, V.ref a2, V.ref a3, V.ref a4, V.ref a5, V.ref a6] ++ [V.ref b2, V.ref b3, V.ref b4])) = H14 at *
    refine in_drop (in_bm ⟨_, rfl, .inl ⟨rfl, _, SqL.of e9⟩, in_cons ?_⟩)
    refine gv_C (K := K) fun b5 H15 s15 b5f => in_nil ⟨l9, _, _, rfl, rfl, s15 _ _ e9, by show 9 < sizeLine; decide, ?_⟩
    have nt15 : NoTup H15 [l9] := fun y hy => by
      rw [List.mem_singleton.mp hy]
      exact ⟨fun xs z => (by rw [s15 _ _ e9] at z; cases z), fun o u z => (by rw [s15 _ _ e9] at z; cases z)⟩
    have m15 : ∀ o, Mods [l9] H15 (upd H15 l9 o) := fun o y x ny e => by rw [upd_ne (by simpa using ny)]; exact e
    have b5f := nt15.fate (m15 (.lst ([V.ref a1, V.ref a2, V.ref a3, V.ref a4, V.ref a5, V.ref a6, V.ref b2, V.ref b3, V.ref b4] ++ [V.ref b5]))) b5f
    have s16 : Same H13 (upd H15 l9 (.lst ([V.ref a1, V.ref a2, V.ref a3, V.ref a4, V.ref a5, V.ref a6, V.ref b2, V.ref b3, V.ref b4] ++ [V.ref b5]))) := (s14.trans s15).put hl9
    have e16 : (upd H15 l9 (.lst ([V.ref a1, V.ref a2, V.ref a3, V.ref a4, V.ref a5, V.ref a6, V.ref b2, V.ref b3, V.ref b4] ++ [V.ref b5]))) l9 = some (.lst [V.ref a1, V.ref a2, V.ref a3, V.ref a4, V.ref a5, V.ref a6, V.ref b2, V.ref b3, V.ref b4, V.ref b5]) := upd_same
    generalize upd H15 l9 (.lst ([V.ref a1, V.ref a2, V.ref a3, V.ref a4, V.ref a5, V.ref a6, V.ref b2, V.ref b3, V.ref b4] ++ [V.ref b5])) = H16 at *
    clear nt15 m15 s15 s14 e9
    refine in_drop (in_bm ⟨_, rfl, .inl ⟨rfl, _, SqL.of e16⟩, in_cons ?_⟩)
    refine gv_D (K := K) fun b6 H17 s17 b6f => in_nil ⟨l9, _, _, rfl, rfl, s17 _ _ e16, by show 10 < sizeLine; decide, ?_⟩
    have nt17 : NoTup H17 [l9] := fun y hy => by
      rw [List.mem_singleton.mp hy]
      exact ⟨fun xs z => (by rw [s17 _ _ e16] at z; cases z), fun o u z => (by rw [s17 _ _ e16] at z; cases z)⟩
    have m17 : ∀ o, Mods [l9] H17 (upd H17 l9 o) := fun o y x ny e => by rw [upd_ne (by simpa using ny)]; exact e
    have b5f := nt17.fate (m17 (.lst ([V.ref a1, V.ref a2, V.ref a3, V.ref a4, V.ref a5, V.ref a6, V.ref b2, V.ref b3, V.ref b4, V.ref b5] ++ [V.ref b6]))) (Same.fate s17 b5f)
    have b6f := nt17.fate (m17 (.lst ([V.ref a1, V.ref a2, V.ref a3, V.ref a4, V.ref a5, V.ref a6, V.ref b2, V.ref b3, V.ref b4, V.ref b5] ++ [V.ref b6]))) b6f
    have s18 : Same H13 (upd H17 l9 (.lst ([V.ref a1, V.ref a2, V.ref a3, V.ref a4, V.ref a5, V.ref a6, V.ref b2, V.ref b3, V.ref b4, V.ref b5] ++ [V.ref b6]))) := (s16.trans s17).put hl9
    have e18 : (upd H17 l9 (.lst ([V.ref a1, V.ref a2, V.ref a3, V.ref a4, V.ref a5, V.ref a6, V.ref b2, V.ref b3, V.ref b4, V.ref b5] ++ [V.ref b6]))) l9 = some (.lst [V.ref a1, V.ref a2, V.ref a3, V.ref a4, V.ref a5, V.ref a6, V.ref b2, V.ref b3, V.ref b4, V.ref b5, V.ref b6]) := upd_same
    generalize upd H17 l9 (.lst ([V.ref a1, V.ref a2, V.ref a3, V.ref a4, V.ref a5, V.ref a6, V.ref b2, V.ref b3, V.ref b4, V.ref b5] ++ [V.ref b6])) = H18 at *
    clear nt17 m17 s17
    have o1 := Same.fate s18 o1
    have o2 := Same.fate s18 o2
    have o3 := Same.fate s18 o3
    have o4 := Same.fate s18 o4
    have o5 := Same.fate s18 o5
    have o6 := Same.fate s18 o6
    have bR := Same.fate s18 bR
    have b3f := Same.fate s18 b3f
    have b4f := Same.fate s18 b4f
    have hP18 : Pot B H18 p r k m := hP.keep (sB3.trans s18)
    refine in_op (in_op ⟨_, rfl, _, rfl, p, 11, r, k, m, rfl, by decide, by decide, hP18.at_, hP18.r0, hP18.k0, by omega, hP18.m0, hP18.m1, fun j r1 k1 j0 j1 hr1 hk1 hk1' => ?_⟩)
    have hP19 := hP18.turn hr1 hk1
    have npl : l9 ≠ p := fun z => by rw [z, sB3 _ _ hP.at_] at hl9; cases hl9
    have nt18 : NoTup H18 [p] := fun y hy => by
      rw [List.mem_singleton.mp hy]
      exact ⟨fun xs z => (by rw [hP18.at_] at z; cases z), fun o u z => (by rw [hP18.at_] at z; cases z)⟩
    have m18 : Mods [p] H18 (upd H18 p (.lst [.int r1, .int k1, .int m])) := fun y x ny e => by rw [upd_ne (by simpa using ny)]; exact e
    have fr19 : ∀ y, (upd H18 p (.lst [.int r1, .int k1, .int m])) y = none → H y = none := fun y hy => by
      rw [upd_ne (fun z => by rw [z, upd_same] at hy; cases hy)] at hy; exact (sB3.trans s18).free hy
    have e19 := (upd_ne (o := .lst [.int r1, .int k1, .int m]) npl).trans e18
    have oo : ∃ (x : Addr) (g : Ft), atI [V.ref a1, V.ref a2, V.ref a3, V.ref a4, V.ref a5, V.ref a6, V.ref b2, V.ref b3, V.ref b4, V.ref b5, V.ref b6] j = some (V.ref x) ∧ IsFate K H18 x g ∧ Odd late g (min 2 f.m) := by
      have jj : j = 0 ∨ j = 1 ∨ j = 2 ∨ j = 3 ∨ j = 4 ∨ j = 5 ∨ j = 6 ∨ j = 7 ∨ j = 8 ∨ j = 9 ∨ j = 10 := by omega
      rcases jj with rfl | rfl | rfl | rfl | rfl | rfl | rfl | rfl | rfl | rfl | rfl
      · exact ⟨a1, _, rfl, o1, odd_A (small_abs (by omega) (by omega)) (by omega)⟩
      · exact ⟨a2, _, rfl, o2, odd_A (small_abs (by omega) (by omega)) (by omega)⟩
      · exact ⟨a3, _, rfl, o3, odd_B (small_abs (by omega) (by omega)) (small_abs (by omega) (by omega)) (by omega)⟩
      · exact ⟨a4, _, rfl, o4, odd_B (small_abs (by omega) (by omega)) (small_abs (by omega) (by omega)) (by omega)⟩
      · exact ⟨a5, _, rfl, o5, odd_A (small_abs (by omega) (by omega)) (by omega)⟩
      · exact ⟨a6, _, rfl, o6, odd_B (small_abs (by omega) (by omega)) (small_abs (by omega) (by omega)) (by omega)⟩
      · exact ⟨b2, _, rfl, bR, odd_R (by omega)⟩
      · exact ⟨b3, _, rfl, b3f, odd_B (small_abs (by omega) (by omega)) (small_abs (by omega) (by omega)) (by omega)⟩
      · exact ⟨b4, _, rfl, b4f, odd_C (small_abs (by omega) (by omega)) (small_abs (by omega) (by omega)) (small_abs (by omega) (by omega)) (small_abs (by omega) (by omega)) (by omega)⟩
      · exact ⟨b5, _, rfl, b5f, odd_C (small_abs (by omega) (by omega)) (small_abs (by omega) (by omega)) (small_abs (by omega) (by omega)) (small_abs (by omega) (by omega)) (by omega)⟩
      · exact ⟨b6, _, rfl, b6f, odd_D⟩
    obtain ⟨x, g, hat, gx, og⟩ := oo
    have gx := nt18.fate m18 gx
    generalize upd H18 p (.lst [.int r1, .int k1, .int m]) = H19 at *
    dsimp only
    refine ⟨l9, _, _, _, rfl, rfl, SqL.of e19, hat, ?_⟩
    refine ⟨_, rfl, _, rfl, a, _, rfl, hP19.sm.tup hA, fun r2 H20 s20 hr20 => ?_⟩
    rw [cut_two] at hr20
    obtain ⟨ga, gt, hgx, hgk⟩ := gx
    have g4 := og.2.1
    have h10 : (10 : Nat) ≤ sizeLine := by decide
    refine ⟨x, r2, _, _, rfl, rfl, s20.tup hgx, hr20, by rw [tab_len, tab_len]; omega, fun r3 H21 s21 h21 => ?_⟩
    have sF := s20.trans s21
    have hfF : FarF f := ⟨by have := gF.few; omega, fun k hk => by have := gF.d k hk; exact small_abs (by omega) (by omega), fun k hk => ⟨by have := (gF.t k hk).few; omega, fun i hi => by have := (gF.t k hk).b i hi; exact ⟨small_abs (by omega) (by omega), small_abs (by omega) (by omega)⟩⟩⟩
    exact q H21 r3 (catFt g f (min 2 f.m)) r1 k1 (hP19.keep sF) hk1' (fun y hy => fr19 y (sF.free hy)) (cat_fate h21 (fun k hk => ⟨sF.tup (hgk k hk).1, Same.turns sF (hgk k hk).2⟩) fun k hk => ⟨(hP19.sm.trans sF).tup (hk2 k (by omega)).1, Same.turns (hP19.sm.trans sF) (hk2 k (by omega)).2⟩) (far_cat og.1 g4 hfF n3 n2) og.bad
end
end K19
namespace K19
open PySem L2 PyProof.Rows
section
variable {P : Program} {w : World} {K : PySem.W.Frag} {mg : Str → Option Value} {base : Heap} {t : Ad}
/-! _law_refused -/
def sp__law_refused (K : PySem.W.Frag) (C : Addr) : Sp := fun vs H Q _ => ∃ (x dx d l a : Addr) (late asked tick : Int) (bs : List Bx) (ns : List Int) (f : Ft) (N : Nat), vs = [.ref x, .ref l, .ref a, .int tick] ∧ AirAt C H x dx d late asked bs ∧ 1 ≤ late ∧ late ≤ 6 ∧
  SqL K H l (ns.map V.int) ∧ l ∉ ownA x dx d bs ∧ (∀ n ∈ ns, n.natAbs < 2 ^ 1000) ∧ IsFate K H a f ∧ FarF f ∧ Few N bs ∧ N ≤ 1000000 ∧ ¬ (IsRow 24 ns ∧ GoodF late f) ∧
  (¬ IsRow 24 ns → ∀ p H', Same H H' → H p = none → H' p = some (.lst [.bl true, .bl false, .bl true]) → Q (.ref p) H') ∧
  (IsRow 24 ns → ∀ p H', Same H H' → H p = none → H' p = some (.lst [.bl false, .bl true, .bl true]) → Q (.ref p) H')
theorem sc__law_refused : FnScope ["air", "signs", "fate", "tick", "kinds", "e"] ["air", "signs", "fate", "tick"] (defScope s__law_refused) := ⟨rfl, rfl, rfl, by decide +kernel, rfl, by decide +kernel, by decide +kernel⟩
set_option maxHeartbeats 0 in
theorem ok__law_refused {fg : FuncData} (F : Site K mg "_law_refused" s__law_refused) (T : Txt K mg t) (F_give : FnOk P w K mg base (CX1 P w) 4 t.m_give fg ["self", "cell", "fate", "tick"] (sp_give K t.Air t.BadCell t.BadFate)) (B_give : Binds K fg ["self", "cell", "fate", "tick"] []) :
    Def P w K mg base 5 "_law_refused" ["air", "signs", "fate", "tick"] (sp__law_refused K t.Air) := by
  refine F.def sc__law_refused (fun _ _ _ _ _ _ us hl => match us, hl with | [_, _, _, _], _ => rfl) (fun vs H Q E h => ?_) (fun f cdv A outer s H vs Q E hr h => ?_)
  · obtain ⟨x, dx, d, l, a, late, asked, tick, bs, ns, f, N, rfl, _⟩ := h
    rfl
  · obtain ⟨x, dx, d, l, a1, late, asked, tick, bs, ns, f, N, rfl, hA, l0, l1, hl, nl, fns, hF, fF, few, hN, bad, q1, q2⟩ := h
    refine ⟨_, pss_cons (ps_set (i := 4) sc__law_refused.nd rfl (Or.inl rfl) (pe_lst pa_nil))
      (pss_cons (ps_try (E := fun c _ H' => ((c = .ref t.BadCell ∧ ¬ IsRow 24 ns) ∨ (c = .ref t.BadFate ∧ IsRow 24 ns)) ∧ Same H H') (i := 5) rfl rfl sc__law_refused.nd rfl rfl rfl T.mPostError T.catchPostError
        (fun pins => pss_one (ps_expr (pe_meth (pv 0) T.cAir T.me_give (F_give.mono (by decide)) hr B_give .nil passTry (pa_cons (pv 1) (pa_cons (pv 2) (pa_cons (pv 3) pa_nil))))))
        (fun a => pss_one (ps_set (i := 4) sc__law_refused.nd rfl (Or.inl rfl) (pe_lst (pa_cons (pe_isi K T.n_isinstance (pa_cons (pv 5) (pa_cons (pe_glob (v := .ref t.BadCell) (by rfl) T.mBadCell rfl) pa_nil))) (pa_cons (pe_isi K T.n_isinstance (pa_cons (pv 5) (pa_cons (pe_glob (v := .ref t.BadFate) (by rfl) T.mBadFate rfl) pa_nil))) (pa_cons (pe_isi K T.n_isinstance (pa_cons (pv 5) (pa_cons (pe_bltn (v := .ty "ValueError") (by rfl) T.n_ValueError boot_ValueError rfl) pa_nil))) pa_nil)))))))
      (pss_one (ps_ret (pv 4)))), ?_⟩
    refine ⟨by show 0 ≤ sizeLine; decide, fun p0 hp0 => ?_⟩
    have s0 := (Same.refl H).new (o := .lst []) hp0
    generalize upd H p0 (.lst []) = H1 at *
    refine ⟨?_, ?_⟩
    · have hA1 := hA.mods (S := []) (Mods.same s0) fun y _ z => by cases z
      refine ⟨_, rfl, x, dx, [("late", .int late), ("asked", .int asked), ("coming", .ref d)], rfl, hA1.at_, rfl, _, rfl, _, rfl, _, rfl, ?_⟩
      refine ⟨x, dx, d, l, a1, late, asked, tick, bs, ns, f, N, rfl, hA1, l0, l1, s0.seq hl, nl, fns, Same.fate s0 hF, fF, few, hN, fun h => ⟨.inl ⟨rfl, h⟩, s0⟩, fun h _ => ⟨.inr ⟨rfl, h⟩, s0⟩, fun h1 h2 => absurd ⟨h1, h2⟩ bad⟩
    · rintro σ' a Cx' H' hl' ⟨hc, s1⟩ hna
      obtain ⟨s0', s1', s2', s3', s4', s5', rfl⟩ : ∃ s0 s1 s2 s3 s4 s5, σ' = [s0, s1, s2, s3, s4, s5] := by
        match σ', hl' with
        | [s0, s1, s2, s3, s4, s5], _ => exact ⟨s0, s1, s2, s3, s4, s5, rfl⟩
      rcases hc with ⟨hc, hr⟩ | ⟨hc, hr⟩
      · cases hc
        refine ⟨T.subBadCell_PostError, ?_⟩
        have ha : (upd H' a (.ext (ExcAt a t.BadCell))) a = some (.ext (ExcAt a t.BadCell)) := upd_same
        have sA : Same H (upd H' a (.ext (ExcAt a t.BadCell))) := s1.new hna
        generalize upd H' a (.ext (ExcAt a t.BadCell)) = H2 at *
        refine ⟨_, rfl, _, _, _, _, true, rfl, rfl, .exc ha T.eBadCell, T.oneBadCell_BadCell, ?_⟩
        refine ⟨_, rfl, _, _, _, _, false, rfl, rfl, .exc ha T.eBadCell, T.oneBadCell_BadFate, ?_⟩
        refine ⟨_, rfl, _, _, _, _, true, rfl, rfl, .exc ha T.eBadCell, T.oneBadCell_ValueError, ?_⟩
        refine ⟨by show 3 ≤ sizeLine; decide, fun p2 hp2 => ?_⟩
        exact ⟨_, rfl, q1 hr p2 _ (sA.new hp2) (sA.free hp2) upd_same⟩
      · cases hc
        refine ⟨T.subBadFate_PostError, ?_⟩
        have ha : (upd H' a (.ext (ExcAt a t.BadFate))) a = some (.ext (ExcAt a t.BadFate)) := upd_same
        have sA : Same H (upd H' a (.ext (ExcAt a t.BadFate))) := s1.new hna
        generalize upd H' a (.ext (ExcAt a t.BadFate)) = H2 at *
        refine ⟨_, rfl, _, _, _, _, false, rfl, rfl, .exc ha T.eBadFate, T.oneBadFate_BadCell, ?_⟩
        refine ⟨_, rfl, _, _, _, _, true, rfl, rfl, .exc ha T.eBadFate, T.oneBadFate_BadFate, ?_⟩
        refine ⟨_, rfl, _, _, _, _, true, rfl, rfl, .exc ha T.eBadFate, T.oneBadFate_ValueError, ?_⟩
        refine ⟨by show 3 ≤ sizeLine; decide, fun p2 hp2 => ?_⟩
        exact ⟨_, rfl, q2 hr p2 _ (sA.new hp2) (sA.free hp2) upd_same⟩
end
end K19
namespace K19
open PySem L2 PyProof.Rows
section
variable {P : Program} {w : World} {K : PySem.W.Frag} {mg : Str → Option Value} {base : Heap} {t : Ad}
/-! what is due, and what is in the air -/
def CtOk (bs es : List Bx) (asked : Int) : Prop := ctB es = (ctB bs).filter fun e => decide (asked < e.1)
theorem ct_filter (p : Int → Bool) (bs : List Bx) : ctB (bs.filter fun b => p b.1) = (ctB bs).filter fun e => p e.1 := by
  unfold ctB
  rw [List.filter_map]
  rfl
theorem ct_came {bs es : List Bx} {asked tick : Int} (h : CtOk bs es asked) (ht : tick = asked + 1 ∨ bs = []) : CtOk (bs.filter fun b => decide (tick ≤ b.1)) (es.filter fun b => decide (b.1 ≠ tick)) tick := by
  unfold CtOk at *
  rw [ct_filter (fun k => decide (k ≠ tick)), ct_filter (fun k => decide (tick ≤ k)), h, List.filter_filter, List.filter_filter]
  rcases ht with rfl | rfl
  · apply List.filter_congr
    intro e _
    rw [← Bool.decide_and, ← Bool.decide_and, decide_eq_decide]
    omega
  · rfl
theorem look_filter (p : Int → Bool) {k : Int} (h : p k = true) : ∀ (L : Ct), lkA (L.filter fun e => p e.1) k = lkA L k
  | [] => rfl
  | e :: L => by
    have ih := look_filter p h L
    unfold lkA at *
    rw [List.filter_cons, List.lookup_cons]
    by_cases z : k = e.1
    · rw [z] at h
      rw [if_pos h, List.lookup_cons, show (k == e.1) = true by rw [z]; exact beq_self_eq_true _]
    · have z' : (k == e.1) = false := beq_eq_false_iff_ne.mpr z
      rw [z']
      by_cases hp : p e.1 = true
      · rw [if_pos hp, List.lookup_cons, z']; exact ih
      · rw [if_neg hp]; exact ih
theorem lk_came {bs es : List Bx} {asked tick : Int} (h : CtOk bs es asked) (ht : tick = asked + 1 ∨ bs = []) : lkA (ctB es) tick = lkA (ctB bs) tick := by
  unfold CtOk at h
  rw [h]
  rcases ht with rfl | rfl
  · exact look_filter (fun k => decide (asked < k)) (decide_eq_true (by omega)) _
  · rfl
theorem fly_due {bs es : List Bx} {asked : Int} (h : CtOk bs es asked) : flyA (ctB bs) asked = (ctB es).map fun e => (e.2.length : Int) := by
  unfold CtOk at h
  rw [h]; rfl
theorem in_pop {i j : Nat} {σ : L2.St} {H : Hp} {Q : VK} (P : V → Hp → Prop) (main : ∀ v H3, P v H3 → Q v H3) (h : tDPop2 (tVar i) (tVar j) (tLst tNil) σ H fun v H3 => P v H3) : tDPop2 (tVar i) (tVar j) (tLst tNil) σ H Q := by
  obtain ⟨v0, e0, a, ea, hd, v1, e1, hz, h⟩ := h
  exact ⟨v0, e0, a, ea, hd, v1, e1, hz, fun p hp => let ⟨kvs, k, h1, h2, h3, h4⟩ := h p hp; ⟨kvs, k, h1, h2, fun v hv => main _ _ (h3 v hv), fun hv => main _ _ (h4 hv)⟩⟩
theorem like_cells {K : PySem.W.Frag} {H : Hp} {rs cs : List (Addr × List Int)} (h1 : ∀ c ∈ rs, H c.1 = some (.lst (c.2.map V.int))) (h2 : ∀ c ∈ cs, H c.1 = some (.lst (c.2.map V.int))) (e : cs.map (·.2) = rs.map (·.2)) :
    ∀ (j : Nat) (u v : V), (rs.map fun c => V.ref c.1)[j]? = some u → (cs.map fun c => V.ref c.1)[j]? = some v → Like K H 8 u v := by
  intro j u v hu hv
  rw [List.getElem?_map] at hu hv
  have e' := congrArg (fun l => l[j]?) e
  simp only [List.getElem?_map] at e'
  cases a : rs[j]? with
  | none => rw [a] at hu; cases hu
  | some p =>
    cases b : cs[j]? with
    | none => rw [b] at hv; cases hv
    | some q =>
      rw [a] at hu e'
      rw [b] at hv e'
      obtain rfl := Option.some.inj hu
      obtain rfl := Option.some.inj hv
      have e2 : q.2 = p.2 := Option.some.inj e'
      refine .lst (SqL.of (h1 p (List.mem_of_getElem? a))) (SqL.of (h2 q (List.mem_of_getElem? b))) (by rw [e2]) fun i x y hx hy => ?_
      rw [e2] at hy
      obtain rfl := Option.some.inj (hx.symm.trans hy)
      rw [List.getElem?_map] at hx
      cases c : p.2[i]? with
      | none => rw [c] at hx; cases hx
      | some n => rw [c] at hx; obtain rfl := Option.some.inj hx; exact .flat _ rfl
/-- sum([len(some) for some in due.values()]) -/
theorem due_sum {P : Program} {w : World} {K : PySem.W.Frag} {i : Nat} {σ : L2.St} {H : Hp} {Q : VK} {e : Addr} {es : List Bx} {N : Nat} (hσ : σ[i]? = some (some (.ref e))) (hE : DAt H e es) (few : Few N es) (hN : N ≤ 1000000)
    (q : ∀ H', Same H H' → Q (.int ((ctB es).map fun c => (c.2.length : Int)).sum) H') :
    tCB (fun xs H Q => ∃ p ns, xs = [V.ref p] ∧ SqL K H p (List.map V.int ns) ∧ Q (V.int ns.sum) H) (tCons (tThaw P w (tLC (iVals P w (tVar i)) [none] (gName 0) tYes
      (tCB (fun xs H Q => ∃ p ys, xs = [V.ref p] ∧ (SqL K H p ys ∨ SqT K H p ys) ∧ Q (V.int ys.length) H) (tCons (tVar 0) tNil)))) tNil) σ H Q := by
  have hsz : (2000000 : Nat) ≤ sizeLine := by decide
  refine ⟨_, hσ, e, kvsB es, rfl, hE.at_, fun u hu D hD => ?_⟩
  have nDe : D ≠ e := fun z => by rw [z, upd_same] at hD; cases hD
  have hD' : H D = none := by rw [upd_ne nDe] at hD; exact hD
  have hkl : (kvsB es).length = es.length := by unfold kvsB; rw [List.length_map]
  refine lc_vals (d := e) (u := u) (kvs := kvsB es) (fun i σ H' => (∃ v0 : Option V, σ = [v0]) ∧ Mods [e] H H' ∧ H' e = some u ∧ H' D = some (.lst (((ctB (es.take i)).map fun c => (c.2.length : Int)).map V.int))) ⟨⟨none, rfl⟩, ?_, ?_, upd_same⟩ (fun i σ H' _ p => p.2.2.1) ?_ ?_
  · intro b o nb w
    rw [upd_ne (fun z => by rw [z, hD'] at w; cases w), upd_ne (by simpa using nb)]; exact w
  · rw [upd_ne (Ne.symm nDe), upd_same]
  · rintro i k v σ' H' Nx hNx hkv ⟨⟨v0, rfl⟩, m1, hd1, hD1⟩
    obtain ⟨b, hb, rfl, rfl⟩ := kvs_at hkv
    have hbm : b ∈ es := List.mem_of_getElem? hb
    have hib : i < es.length := (List.getElem?_eq_some_iff.mp hb).1
    have tk : es.take (i + 1) = es.take i ++ [b] := by rw [List.take_add_one, hb]; rfl
    have hl2 : H' b.2.1 = some (.lst (b.2.2.map fun c => V.ref c.1)) := m1 _ _ (fun w => by
      have := (List.nodup_cons.mp hE.nd).1
      rw [List.mem_singleton] at w
      exact this (by rw [← w]; exact List.mem_flatMap.mpr ⟨b, hbm, List.mem_cons_self⟩)) (hE.ls b hbm)
    have hfn := few.n
    refine turn_do ?_
    refine ⟨_, rfl, _, _, rfl, .inl (SqL.of hl2), _, hD1, ?_, hNx _ _ ⟨⟨_, rfl⟩, ?_, ?_, ?_⟩⟩
    · rw [List.length_map, List.length_map]
      have h2 : (ctB (es.take i)).length ≤ es.length := by unfold ctB; rw [List.length_map, List.length_take]; omega
      omega
    · intro y o ny w
      rw [upd_ne (fun z => by rw [z, hD'] at w; cases w)]; exact m1 _ _ ny w
    · rw [upd_ne (Ne.symm nDe)]; exact hd1
    · rw [upd_same, tk]
      unfold ctB
      simp
  · rintro σ' H' ⟨⟨v0, rfl⟩, m1, hd1, hD1⟩
    rw [hkl, List.take_length] at hD1
    refine ⟨e, kvsB es, u, hu, hd1, ?_⟩
    exact ⟨D, _, rfl, SqL.of ((upd_ne nDe).trans hD1), q _ (thaw_same hE.at_ m1)⟩
def sp__law_came (C : Addr) : Sp := fun vs H Q _ => ∃ (x dx d e : Addr) (late asked tick : Int) (bs es : List Bx) (N : Nat), vs = [.ref x, .int tick, .ref e] ∧ AirAt C H x dx d late asked bs ∧ DAt H e es ∧ (∀ y ∈ ownB e es, y ∉ ownA x dx d bs) ∧ CtOk bs es asked ∧ (tick = asked + 1 ∨ bs = []) ∧ Few N bs ∧ Few N es ∧ N ≤ 1000000 ∧
  ∀ (H' : Hp), AirAt C H' x dx d late tick (bs.filter fun b => decide (tick ≤ b.1)) → DAt H' e (es.filter fun b => decide (b.1 ≠ tick)) → Mods [x, d, e] H H' → Q (.bl true) H'
theorem sc__law_came : FnScope ["air", "tick", "due", "found", "told", "flying"] ["air", "tick", "due"] (defScope s__law_came) := ⟨rfl, rfl, rfl, by decide +kernel, rfl, by decide +kernel, by decide +kernel⟩
set_option maxHeartbeats 0 in
theorem ok__law_came {fc ff : FuncData} (F : Site K mg "_law_came" s__law_came) (T : Txt K mg t) (D__law_whole : Def P w K mg base 1 "_law_whole" ["found"] sp__law_whole)
    (F_come : FnOk P w K mg base (CX1 P w) 1 t.m_come fc ["self", "tick"] (sp_come t.Air)) (B_come : Binds K fc ["self", "tick"] []) (F_flying : FnOk P w K mg base (CX1 P w) 1 t.m_flying ff ["self"] (sp_flying t.Air)) (B_flying : Binds K ff ["self"] []) :
    Def P w K mg base 2 "_law_came" ["air", "tick", "due"] (sp__law_came t.Air) := by
  refine F.def sc__law_came (fun _ _ _ _ _ _ us hl => match us, hl with | [_, _, _], _ => rfl) (fun vs H Q E h => ?_) (fun f cdv A outer s H vs Q E hr h => ?_)
  · obtain ⟨x, dx, d, e, late, asked, tick, bs, es, N, rfl, _⟩ := h
    rfl
  · obtain ⟨x, dx, d, e, late, asked, tick, bs, es, N, rfl, hA, hE, dis, hct, ht, fb, fe, hN, q⟩ := h
    refine ⟨_, pss_cons (ps_set (i := 3) sc__law_came.nd rfl (Or.inl rfl) (pe_meth (pv 0) T.cAir T.me_come (F_come.mono (by decide)) hr B_come .nil passN (pa_cons (pv 1) pa_nil)))
      (pss_cons (ps_if (PW.pt (pw_or (pt_not (pt_val (pe_isi K T.n_isinstance (pa_cons (pv 3) (pa_cons (pe_bltn (v := .ty "list") (by rfl) T.n_list boot_list rfl) pa_nil))))) (pw_or1 (pt_cmpR (op_neGK K (hu16 hr)) (pv 3) (pe_dpop2 (pv 2) (pv 1) (pe_lst pa_nil) ⟨rfl, rfl, rfl, rfl⟩) (nomark _)))))
        (pss_one (ps_ret pe_bl))
        (pss_nil))
      (pss_cons (PS.nox (ps_for PassesOwn.never rfl (pi_listK K (pv 3)) (pg_name (i := 4) sc__law_came.nd rfl (Or.inl rfl))
        (pss_cons (ps_if (PW.pt (pw_or (pt_not (pt_val (pe_isi K T.n_isinstance (pa_cons (pv 4) (pa_cons (pe_bltn (v := .ty "list") (by rfl) T.n_list boot_list rfl) pa_nil))))) (pw_or1 (pt_not (pt_val (pe_callB (call_allK K rfl) (by rfl) T.n_all boot_all (pa_cons (pe_lc rfl (Nc := ["sign"]) (ix := [none]) (cscope (defScope s__law_came) ["air", "tick", "due", "found", "told", "flying"] rfl rfl (by decide +kernel)) (pi_listK K (pv 4)) (fun C fp s H => ⟨(pg_name (i := 0) (show (["sign"] : List Str).Nodup by decide +kernel) rfl (Or.inl rfl)), pts_nil, (pe_def (D__law_whole.mono (by decide)) hr passN (pa_cons (pv 0) pa_nil))⟩)) pa_nil)))))))
          (pss_one (ps_ret pe_bl))
          (pss_nil))
        (pss_one (ps_expr (pe_bmK K PySem.F.plainAttrs_list PySem.F.slot_list_append PySem.F.type_list_append mt_append (pv 4) (pa_cons pe_int pa_nil)))))))
      (pss_cons (ps_expr (pe_bmK K PySem.F.plainAttrs_list PySem.F.slot_list_append PySem.F.type_list_append mt_append (pv 3) (pa_cons (pe_lst pa_nil) pa_nil)))
      (pss_cons (ps_set (i := 5) sc__law_came.nd rfl (Or.inl rfl) (pe_meth0 (pv 0) T.cAir T.me_flying (F_flying.mono (by decide)) hr B_flying .nil passN))
      (pss_one (ps_ret (pe_and (pe_def (D__law_whole.mono (by decide)) hr passN (pa_cons (pv 5) pa_nil)) (pe_one (pe_cmpR op_eq (pv 5) (pe_callB (call_sumK K rfl) (by rfl) T.n_sum boot_sum (pa_cons (pe_thaw P w (pe_lc rfl (Nc := ["some"]) (ix := [none]) (cscope (defScope s__law_came) ["air", "tick", "due", "found", "told", "flying"] rfl rfl (by decide +kernel)) (pi_valuesK P w (pv 2)) (fun C fp s H => ⟨(pg_name (i := 0) (show (["some"] : List Str).Nodup by decide +kernel) rfl (Or.inl rfl)), pts_nil, (pe_callB (call_lenK K) (by rfl) T.n_len boot_len (pa_cons (pv 0) pa_nil))⟩))) pa_nil)) (nomark _)))))))))), ?_⟩
    have hsz : (2000000 : Nat) ≤ sizeLine := by decide
    refine ⟨_, rfl, x, dx, [("late", .int late), ("asked", .int asked), ("coming", .ref d)], rfl, hA.at_, rfl, _, rfl, ?_⟩
    refine ⟨x, dx, d, late, asked, tick, bs, N, rfl, hA, fb, hN, fun H1 r rs hA1 td hrs m1 => ?_⟩
    have neE : ∀ y ∈ ownB e es, y ≠ x ∧ y ≠ d := fun y hy => ⟨fun z => dis y hy (by rw [z]; exact List.mem_cons_self), fun z => dis y hy (by rw [z]; exact List.mem_cons_of_mem _ (List.mem_cons_of_mem _ List.mem_cons_self))⟩
    have hE1 : DAt H1 e es := hE.mods m1 fun y hy z => by
      rcases List.mem_cons.mp z with z | z
      · exact (neE y hy).1 z
      · exact (neE y hy).2 (List.mem_singleton.mp z)
    refine ⟨_, rfl, _, _, _, _, true, rfl, rfl, .of (.lst td.at_), T.isi_list_list, true, rfl, iteF ?_⟩
    have hnr : H r = none := td.nw r List.mem_cons_self
    have ner : r ≠ e := fun z => by rw [z, hE.at_] at hnr; cases hnr
    refine ⟨_, rfl, in_pop (fun v H3 => ∃ (a : Addr) (cs : List (Addr × List Int)), v = .ref a ∧ H3 a = some (.lst (cs.map fun c => V.ref c.1)) ∧ (∀ c ∈ cs, H3 c.1 = some (.lst (c.2.map V.int))) ∧ cs.map (·.2) = rs.map (·.2) ∧ DAt H3 e (es.filter fun b => decide (b.1 ≠ tick)) ∧ Mods [e] H1 H3) (fun v H3 pH => ?_) ?_⟩
    rotate_left
    · refine ⟨_, rfl, e, rfl, .inl ⟨_, .inl hE1.at_⟩, _, rfl, by show 0 ≤ sizeLine; decide, fun z hz => ?_⟩
      have nez : e ≠ z := ne_of_none hE1.at_ hz
      have s2 := (Same.refl H1).new (o := .lst []) hz
      have ez : (upd H1 z (.lst [])) z = some (.lst []) := upd_same
      generalize upd H1 z (.lst []) = H2 at *
      have hE2 : DAt H2 e es := hE1.mods (S := []) (Mods.same s2) fun y _ w => by cases w
      have hlk := (lk_came hct ht).trans hrs.symm
      refine ⟨_, .inl tick, hE2.at_, rfl, fun v hv => ?_, fun hv => ?_⟩
      · by_cases z : tick ∈ es.map (·.1)
        · obtain ⟨b, hb, hbk⟩ := box_of z
          have hv' := val_kvs hE2.ky hb
          rw [hbk, hv] at hv'
          obtain rfl := Option.some.inj hv'
          have nd := List.nodup_cons.mp hE2.nd
          have nbe : ∀ y ∈ es.flatMap (fun b => b.2.1 :: b.2.2.map (·.1)), y ≠ e := fun y hy w => nd.1 (w ▸ hy)
          have mb : b.2.1 ∈ es.flatMap (fun b => b.2.1 :: b.2.2.map (·.1)) := List.mem_flatMap.mpr ⟨b, hb, List.mem_cons_self⟩
          have mc : ∀ c ∈ b.2.2, c.1 ∈ es.flatMap (fun b => b.2.1 :: b.2.2.map (·.1)) := fun c hc => List.mem_flatMap.mpr ⟨b, hb, List.mem_cons_of_mem _ (List.mem_map.mpr ⟨c, hc, rfl⟩)⟩
          refine ⟨b.2.1, b.2.2, rfl, (upd_ne (nbe _ mb)).trans (hE2.ls b hb), fun c hc => (upd_ne (nbe _ (mc c hc))).trans (hE2.cs b hb c hc).1, ?_, hE2.drop _ (by rw [upd_same, drop_kvs]) fun y _ ny => upd_ne ny, fun y o ny w => ?_⟩
          · rw [← hlk, ← hbk]; exact (look_ct hE.ky hb).symm
          · rw [upd_ne (by simpa using ny)]; exact s2 _ _ w
        · rw [val_no z] at hv; cases hv
      · have z' : tick ∉ es.map (·.1) := fun y => by
          obtain ⟨b, hb, hbk⟩ := box_of y
          have hv' := val_kvs hE2.ky hb
          rw [hbk, hv] at hv'; cases hv'
        have ef : (es.filter fun b => decide (b.1 ≠ tick)) = es := List.filter_eq_self.mpr fun b hb => decide_eq_true fun y => z' (List.mem_map.mpr ⟨b, hb, y⟩)
        rw [ef]
        refine ⟨z, [], rfl, ez, fun c hc => (by cases hc), ?_, hE2, Mods.same s2⟩
        rw [← hlk]; exact (look_no z').symm
    · obtain ⟨a, cs, rfl, ha, hcs, ecs, hE3, m3⟩ := pH
      have nE : ∀ y ∈ r :: rs.map (·.1), y ∉ [e] := fun y hy w => by
        have := td.nw y hy
        rw [List.mem_singleton.mp w, hE.at_] at this; cases this
      have hr3 := m3 _ _ (nE r List.mem_cons_self) td.at_
      have hc3 : ∀ c ∈ rs, H3 c.1 = some (.lst (c.2.map V.int)) := fun c hc => m3 _ _ (nE c.1 (List.mem_cons_of_mem _ (List.mem_map.mpr ⟨c, hc, rfl⟩))) (td.cs c hc).1
      have elen : rs.length = cs.length := by have := congrArg List.length ecs; rw [List.length_map, List.length_map] at this; exact this.symm
      refine ⟨r, a, _, _, rfl, rfl, SqL.of hr3, SqL.of ha, .inl ⟨by rw [List.length_map, List.length_map]; exact elen, like_cells hc3 hcs ecs, false, rfl, iteF ?_⟩⟩
      have ndr := List.nodup_cons.mp td.nd
      refine ⟨_, rfl, r, rfl, ⟨_, SqL.of hr3⟩, ?_⟩
      refine for_list (K := K) (a := r) (xs := rs.map fun c => V.ref c.1) (fun i σ H' => (∃ v4 v5 : Option V, σ = [some (.ref x), some (.int tick), some (.ref e), some (.ref r), v4, v5]) ∧ Mods (rs.map (·.1)) H3 H' ∧ ∀ j c, i ≤ j → rs[j]? = some c → H' c.1 = some (.lst (c.2.map V.int))) ⟨⟨none, none, rfl⟩, Mods.refl, fun j c _ hc => hc3 c (List.mem_of_getElem? hc)⟩ (fun i σ H' _ p => SqL.of (p.2.1 _ _ ndr.1 hr3)) ?_ ?_
      · rintro i v σ H4 hv ⟨⟨v4, v5, rfl⟩, m4, hc4⟩
        rw [List.getElem?_map] at hv
        cases ec : rs[i]? with
        | none => rw [ec] at hv; cases hv
        | some c =>
          rw [ec] at hv
          obtain rfl := (Option.some.inj hv)
          have hci := hc4 i c (Nat.le_refl _) ec
          have hcm : c ∈ rs := List.mem_of_getElem? ec
          have hl24 := (td.cs c hcm).2
          refine ⟨_, rfl, _, _, _, _, true, rfl, rfl, .of (.lst hci), T.isi_list_list, true, rfl, iteF ?_⟩
          refine ⟨_, rfl, c.1, rfl, ⟨_, SqL.of hci⟩, fun D hD => ?_⟩
          refine lc_list (K := K) (a := c.1) (xs := c.2.map V.int) (fun k σ H' => (∃ v0 : Option V, σ = [v0]) ∧ Same H4 H' ∧ H' D = some (.lst ((List.replicate k true).map V.bl))) ⟨⟨none, rfl⟩, (Same.refl H4).new hD, upd_same⟩ (fun k σ H' _ p => SqL.of (p.2.1 _ _ hci)) ?_ ?_
          · rintro k v σ H' Nx hNx hvk ⟨⟨v0, rfl⟩, s5, hD5⟩
            rw [List.getElem?_map] at hvk
            cases en : c.2[k]? with
            | none => rw [en] at hvk; cases hvk
            | some n =>
              rw [en] at hvk
              obtain rfl := (Option.some.inj hvk)
              have hk24 : k < c.2.length := (List.getElem?_eq_some_iff.mp en).1
              refine turn_do ?_
              refine ⟨_, rfl, n, rfl, _, hD5, by rw [List.length_map, List.length_replicate]; omega, hNx _ _ ⟨⟨_, rfl⟩, s5.put hD, ?_⟩⟩
              rw [upd_same, List.replicate_succ', List.map_append]; rfl
          · rintro σ H5 ⟨⟨v0, rfl⟩, s5, hD5⟩
            refine ⟨D, _, rfl, SqL.of hD5, _, rfl, ?_⟩
            rw [show (List.replicate (c.2.map V.int).length true).all id = true by rw [List.all_eq_true]; intro b hb; exact List.eq_of_mem_replicate hb]
            refine iteF ?_
            have hc5 := s5 _ _ hci
            refine ⟨_, rfl, .inl ⟨rfl, _, SqL.of hc5⟩, c.1, _, _, rfl, rfl, hc5, by rw [List.length_map]; omega, ?_⟩
            refine ⟨⟨_, _, rfl⟩, fun y o ny w => ?_, fun j c' hj hc' => ?_⟩
            · rw [upd_ne (fun z => ny (by rw [z]; exact List.mem_map.mpr ⟨c, hcm, rfl⟩))]; exact s5 _ _ (m4 _ _ ny w)
            · have nc : c'.1 ≠ c.1 := fun z => by
                have h1 : (rs.map (·.1))[j]? = some c'.1 := by rw [List.getElem?_map, hc']; rfl
                have h2 : (rs.map (·.1))[i]? = some c'.1 := by rw [List.getElem?_map, ec]; show some c.1 = _; rw [z]
                have hji := (List.getElem?_inj (List.getElem?_eq_some_iff.mp h1).1 ndr.2).mp (h1.trans h2.symm)
                omega
              rw [upd_ne nc]; exact s5 _ _ (hc4 j c' (by omega) hc')
      · rintro σ H4 ⟨⟨v4, v5, rfl⟩, m4, _⟩
        have hr4 := m4 _ _ ndr.1 hr3
        refine ⟨_, rfl, .inl ⟨rfl, _, SqL.of hr4⟩, by show 0 ≤ sizeLine; decide, fun z hz => ?_⟩
        have nrz : r ≠ z := ne_of_none hr4 hz
        have elen2 : rs.length ≤ N := by
          have h1 : rs.length = (lkA (ctB bs) tick).length := by rw [← hrs, List.length_map]
          rw [h1]
          by_cases z : tick ∈ bs.map (·.1)
          · obtain ⟨b, hb, hbk⟩ := box_of z
            rw [← hbk, look_ct hA.da.ky hb, List.length_map]; exact fb.c b hb
          · rw [look_no z]; exact Nat.zero_le _
        refine ⟨r, _, _, rfl, rfl, (upd_ne nrz).trans hr4, by rw [List.length_map]; omega, ?_⟩
        have m5 : Mods (r :: rs.map (·.1)) H3 (upd (upd H4 z (.lst [])) r (.lst ((rs.map fun c => V.ref c.1) ++ [V.ref z]))) := fun y o ny w => by
          have w4 := m4 _ _ (fun k => ny (List.mem_cons_of_mem _ k)) w
          rw [upd_ne (fun k => ny (by rw [k]; exact List.mem_cons_self)), upd_ne (fun k => by rw [k, hz] at w4; cases w4)]; exact w4
        generalize upd (upd H4 z (.lst [])) r (.lst ((rs.map fun c => V.ref c.1) ++ [V.ref z])) = H5 at *
        have own' : ∀ y ∈ ownA x dx d (bs.filter fun b => decide (tick ≤ b.1)), y ∈ ownA x dx d bs := fun y hy => by
          rcases List.mem_cons.mp hy with rfl | hy
          · exact List.mem_cons_self
          · rcases List.mem_cons.mp hy with rfl | hy
            · exact List.mem_cons_of_mem _ List.mem_cons_self
            · exact List.mem_cons_of_mem _ (List.mem_cons_of_mem _ (own_filter _ y hy))
        have freshA : ∀ y ∈ ownA x dx d bs, y ∉ r :: rs.map (·.1) := fun y hy w => by
          obtain ⟨o, k⟩ := hA.has y hy
          rw [td.nw y w] at k; cases k
        have freshE : ∀ y ∈ ownB e es, y ∉ r :: rs.map (·.1) := fun y hy w => by
          obtain ⟨o, k⟩ := hE.has y hy
          rw [td.nw y w] at k; cases k
        have hA5 := (hA1.mods m3 fun y hy w => dis e List.mem_cons_self (by rw [← List.mem_singleton.mp w]; exact own' y hy)).mods m5 fun y hy => freshA y (own' y hy)
        have hE5 := hE3.mods m5 fun y hy => freshE y (own_filter _ y hy)
        have fb' : Few N (bs.filter fun b => decide (tick ≤ b.1)) := ⟨Nat.le_trans (List.length_filter_le _ _) fb.n, fun b hb => fb.c b (List.mem_filter.mp hb).1⟩
        have fe' : Few N (es.filter fun b => decide (b.1 ≠ tick)) := ⟨Nat.le_trans (List.length_filter_le _ _) fe.n, fun b hb => fe.c b (List.mem_filter.mp hb).1⟩
        refine ⟨_, rfl, x, dx, [("late", .int late), ("asked", .int tick), ("coming", .ref d)], rfl, hA5.at_, rfl, ?_⟩
        refine ⟨x, dx, d, late, tick, _, N, rfl, hA5, fb', hN, fun H6 s6 => ?_⟩
        have hE6 := hE5.mods (S := []) (Mods.same s6) fun y _ w => by cases w
        have hA6 := hA5.mods (S := []) (Mods.same s6) fun y _ w => by cases w
        refine ⟨_, rfl, _, rfl, true, rfl, iteT ?_⟩
        refine ⟨_, rfl, due_sum rfl hE6 fe' hN fun H7 s7 => ⟨rfl, ?_⟩⟩
        rw [fly_due (ct_came hct ht), decide_eq_true rfl]
        refine q H7 (hA6.mods (S := []) (Mods.same s7) fun y _ w => by cases w) (hE6.mods (S := []) (Mods.same s7) fun y _ w => by cases w) fun y o ny w => ?_
        have n1 : y ∉ [x, d] := fun k => ny (by
          rcases List.mem_cons.mp k with k | k
          · rw [k]; exact List.mem_cons_self
          · rw [List.mem_singleton.mp k]; exact List.mem_cons_of_mem _ List.mem_cons_self)
        have n2 : y ∉ [e] := fun k => ny (by rw [List.mem_singleton.mp k]; exact List.mem_cons_of_mem _ (List.mem_cons_of_mem _ List.mem_cons_self))
        exact s7 _ _ (s6 _ _ (m5 _ _ (fun k => by rw [td.nw y k] at w; cases w) (m3 _ _ n2 (m1 _ _ n1 w))))
end
end K19
namespace K19
open PySem L2 PyProof.Rows
section
variable {P : Program} {w : World} {K : PySem.W.Frag} {mg : Str → Option Value} {base : Heap} {t : Ad}
/-! what is due: one arrival more -/
theorem in_dset {i a b : Nat} {σ : L2.St} {H : Hp} {Q : VK} (P : V → Hp → Prop) (main : ∀ v H3, P v H3 → Q v H3) (h : tDSet (tVar i) (tOp (rI0 fun i j => V.int (i + j)) (tVar a) (tVar b)) (tLst tNil) σ H fun v H3 => P v H3) :
    tDSet (tVar i) (tOp (rI0 fun i j => V.int (i + j)) (tVar a) (tVar b)) (tLst tNil) σ H Q := by
  obtain ⟨v0, e0, p, ep, hd, v1, e1, v2, e2, n1, n2, en1, en2, hz, h⟩ := h
  exact ⟨v0, e0, p, ep, hd, v1, e1, v2, e2, n1, n2, en1, en2, hz, fun z hz => let ⟨kvs, k, h1, h2, h3, h4, h5⟩ := h z hz; ⟨kvs, k, h1, h2, h3, fun v hv => main _ _ (h4 v hv), fun hv => main _ _ (h5 hv)⟩⟩
/-- a tick with nothing yet -/
theorem DAt.new0 {H H' : Hp} {d : Addr} {bs : List Bx} {k : Int} {l : Addr} (h : DAt H d bs) (hk : k ∉ bs.map (·.1)) (hl : l ∉ ownB d bs)
    (e0 : H' d = some (.dK (kvsB bs ++ [(.inl k, .ref l)]))) (e1 : H' l = some (.lst [])) (k1 : ∀ x ∈ ownB d bs, x ≠ d → H' x = H x) : DAt H' d (bs ++ [(k, l, [])]) := by
  have nd := List.nodup_cons.mp h.nd
  have nx : ∀ x ∈ bs.flatMap (fun b => b.2.1 :: b.2.2.map (·.1)), x ≠ d := fun x hx z => nd.1 (z ▸ hx)
  refine ⟨?_, fun b hb => ?_, fun b hb x hx => ?_, ?_, ?_⟩
  · rw [e0]; unfold kvsB; rw [List.map_append]; rfl
  · rcases List.mem_append.mp hb with hb | hb
    · rw [k1 _ (mem_own_l hb) (nx _ (List.mem_flatMap.mpr ⟨b, hb, List.mem_cons_self⟩))]; exact h.ls b hb
    · rw [List.mem_singleton.mp hb]; exact e1
  · rcases List.mem_append.mp hb with hb | hb
    · rw [k1 _ (mem_own_c hb hx) (nx _ (List.mem_flatMap.mpr ⟨b, hb, List.mem_cons_of_mem _ (List.mem_map.mpr ⟨x, hx, rfl⟩)⟩))]; exact h.cs b hb x hx
    · rw [List.mem_singleton.mp hb] at hx; cases hx
  · have e : ownB d (bs ++ [(k, l, [])]) = ownB d bs ++ [l] := by unfold ownB; rw [List.flatMap_append]; rfl
    rw [e, List.nodup_append]
    refine ⟨h.nd, by simp, fun x hx y hy z => ?_⟩
    rw [List.mem_singleton.mp hy] at z
    exact hl (z ▸ hx)
  · rw [List.map_append, List.nodup_append]
    refine ⟨h.ky, by simp, fun x hx y hy z => hk ?_⟩
    rw [List.mem_singleton.mp hy] at z
    have z' : x = k := z
    exact z' ▸ hx
theorem put_new0 {bs : List Bx} {k : Int} {l : Addr} (hk : k ∉ bs.map (·.1)) (c : List Int) : putA (ctB (bs ++ [(k, l, [])])) k c = putA (ctB bs) k c := by
  have e1 : ctB (bs ++ [(k, l, [])]) = ctB bs ++ [(k, [])] := by unfold ctB; rw [List.map_append]; rfl
  have hk' : k ∉ (ctB bs).map (·.1) := by rw [ct_keys]; exact hk
  unfold putA
  rw [e1, if_pos (by rw [List.map_append]; exact List.mem_append_right _ (List.mem_singleton.mpr rfl)), if_neg hk', List.map_append]
  congr 1
  · refine (List.map_congr_left fun e he => ?_).trans (List.map_id _)
    rw [if_neg fun z => hk' (List.mem_map.mpr ⟨e, he, z⟩)]; rfl
  · simp
theorem due_turn {K : PySem.W.Frag} {σ : L2.St} {H : Hp} {D : Ends} {e l tn : Addr} {es : List Bx} {N n : Nat} {ns : List Int} {tick dl : Int} {pl ad : Nat → Int} (h3 : σ[3]? = some (some (.int tick))) (h4 : σ[4]? = some (some (.ref e))) (h5 : σ[5]? = some (some (.ref l))) (h8 : σ[8]? = some (some (.int dl))) (h9 : σ[9]? = some (some (.ref tn)))
    (hE : DAt H e es) (few : Few N es) (hN : N ≤ 1000000) (hl : SqL K H l (ns.map V.int)) (hlen : ns.length = 24) (nl : l ∉ ownB e es) (hT : IsTurns K H tn n pl ad) (gT : GoodT n pl ad)
    (q : ∀ H' es', DAt H' e es' → ctB es' = putA (ctB es) (tick + dl) (turnN ns pl ad n) → Mods (ownB e es) H H' → (∀ y ∈ ownB e es', y ∈ ownB e es ∨ H y = none) → Few (N + 1) es' → D.nx σ H') :
    tSeq (tDrop (tDSet (tVar 4) (tOp (rI0 fun i j => V.int (i + j)) (tVar 3) (tVar 8)) (tLst tNil))) (tDrop (tBM K "list" rAppend (tDGet (tVar 4) (tOp (rI0 fun i j => V.int (i + j)) (tVar 3) (tVar 8))) (tCons (tCall (sp_turned K) [] E0 (tCons (tVar 5) (tCons (tVar 9) tNil))) tNil))) D σ H := by
  have hsz : (2000000 : Nat) ≤ sizeLine := by decide
  have hfn := few.n
  refine in_dset (fun v H2 => ∃ es2, DAt H2 e es2 ∧ (tick + dl) ∈ es2.map (·.1) ∧ (∀ c, putA (ctB es2) (tick + dl) c = putA (ctB es) (tick + dl) c) ∧ Mods (ownB e es) H H2 ∧ (∀ y ∈ ownB e es2, y ∈ ownB e es ∨ H y = none) ∧ es2.length ≤ N + 1 ∧ ∀ b ∈ es2, b.2.2.length ≤ N) (fun v H2 pH => ?_) ?_
  · obtain ⟨es2, hE2, hk2, hput, m2, own2, f1, f2⟩ := pH
    obtain ⟨b0, hb0, hk0⟩ := box_of hk2
    have hv0 := val_kvs hE2.ky hb0
    rw [hk0] at hv0
    have hl0 := hE2.ls b0 hb0
    refine ⟨_, h4, _, h3, _, h8, _, _, rfl, rfl, e, _, rfl, .inl ⟨_, .inl (tick + dl), .inl hE2.at_, rfl, hv0.symm⟩, .inl ⟨rfl, _, SqL.of hl0⟩, ?_⟩
    refine ⟨_, h5, _, h9, l, tn, ns, n, pl, ad, rfl, m2.sq nl hl, hlen, hE.notup.turns m2 hT, gT, fun r H3 s3 hr hr3 => ?_⟩
    have hl3 := s3 _ _ hl0
    have rown : ∀ y ∈ ownB e es2, y ≠ r := fun y hy z => by obtain ⟨o, k⟩ := hE2.has y hy; rw [z, hr] at k; cases k
    have nlr : b0.2.1 ≠ r := rown _ (mem_own_l hb0)
    refine ⟨b0.2.1, _, _, rfl, rfl, hl3, by rw [List.length_map]; have := f2 b0 hb0; omega, ?_⟩
    have k3 : ∀ y ∈ ownB e es2, y ≠ b0.2.1 → (upd H3 b0.2.1 (.lst ((b0.2.2.map fun c => V.ref c.1) ++ [V.ref r]))) y = H2 y := fun y hy ny => by
      obtain ⟨o, k⟩ := hE2.has y hy
      rw [upd_ne ny, k]; exact s3 _ _ k
    have hrn : ∀ y, H2 y = none → y ∈ ownB e es ∨ H y = none := fun y hy => by
      by_cases z : y ∈ ownB e es
      · exact .inl z
      · refine .inr ?_
        cases k : H y with
        | none => rfl
        | some o => rw [m2 _ _ z k] at hy; cases hy
    refine q _ (putB es2 (tick + dl) (r, turnN ns pl ad n)) (hE2.put hb0 hk0 (fun z => rown r z rfl) ((turn_len _ _ _ _).trans hlen) upd_same ((upd_ne (Ne.symm nlr)).trans hr3) k3) ((ct_put hk2).trans (hput _)) (fun y o ny w => ?_) (fun y hy => ?_) ⟨?_, fun b hb => ?_⟩
    · have w2 := m2 _ _ ny w
      by_cases z : y = b0.2.1
      · rcases own2 _ (mem_own_l hb0) with h | h
        · exact absurd (z ▸ h) ny
        · rw [z, h] at w; cases w
      · rw [upd_ne z]; exact s3 _ _ w2
    · rcases List.mem_cons.mp ((own_put hE2.ky hk2).mem_iff.mp hy) with z | hy
      · rw [z]; exact hrn r hr
      · exact own2 y hy
    · unfold putB; rw [List.length_map]; exact f1
    · obtain ⟨b1, hb1, rfl⟩ := mem_put hb
      have := f2 b1 hb1
      by_cases z : b1.1 = tick + dl
      · rw [if_pos z]; show (b1.2.2 ++ [_]).length ≤ _; rw [List.length_append]; show _ + 1 ≤ _; omega
      · rw [if_neg z]; omega
  · refine ⟨_, h4, e, rfl, .inl ⟨_, .inl hE.at_⟩, _, h3, _, h8, _, _, rfl, rfl, by show 0 ≤ sizeLine; decide, fun z hz => ?_⟩
    have nez : e ≠ z := ne_of_none hE.at_ hz
    have s2 := (Same.refl H).new (o := .lst []) hz
    have ez : (upd H z (.lst [])) z = some (.lst []) := upd_same
    have k2 : ∀ y ∈ ownB e es, (upd H z (.lst [])) y = H y := fun y hy => upd_ne fun w => by obtain ⟨o, k⟩ := hE.has y hy; rw [w, hz] at k; cases k
    generalize upd H z (.lst []) = H2 at *
    have hE2 : DAt H2 e es := hE.keep k2
    refine ⟨_, .inl (tick + dl), hE2.at_, rfl, by unfold kvsB; rw [List.length_map]; omega, fun v hv => ?_, fun hv => ?_⟩
    · have hm : (tick + dl) ∈ es.map (·.1) := by
        by_cases w : (tick + dl) ∈ es.map (·.1)
        · exact w
        · rw [val_no w] at hv; cases hv
      exact ⟨es, hE2, hm, fun _ => rfl, Mods.same s2, fun y hy => .inl hy, by omega, fun b hb => few.c b hb⟩
    · have hm : (tick + dl) ∉ es.map (·.1) := fun w => by
        obtain ⟨b, hb, hbk⟩ := box_of w
        have hv' := val_kvs hE2.ky hb
        rw [hbk, hv] at hv'; cases hv'
      rw [putK_new _ hv]
      have zo : z ∉ ownB e es := fun w => by obtain ⟨o, k⟩ := hE.has z w; rw [hz] at k; cases k
      refine ⟨es ++ [(tick + dl, z, [])], hE2.new0 hm zo upd_same ((upd_ne (Ne.symm nez)).trans ez) (fun y _ ny => upd_ne ny), by rw [List.map_append]; exact List.mem_append_right _ (List.mem_singleton.mpr rfl), put_new0 hm, fun y o ny w => ?_, fun y hy => ?_, by rw [List.length_append]; show es.length + 1 ≤ _; omega, fun b hb => ?_⟩
      · rw [upd_ne (fun k => ny (by rw [k]; exact List.mem_cons_self))]; exact s2 _ _ w
      · have eo : ownB e (es ++ [(tick + dl, z, [])]) = ownB e es ++ [z] := by unfold ownB; rw [List.flatMap_append]; rfl
        rw [eo] at hy
        rcases List.mem_append.mp hy with hy | hy
        · exact .inl hy
        · rw [List.mem_singleton.mp hy]; exact .inr hz
      · rcases List.mem_append.mp hb with hb | hb
        · exact few.c b hb
        · rw [List.mem_singleton.mp hb]; exact Nat.zero_le _
end
end K19
namespace K19
open PySem L2 PyProof.Rows
section
variable {P : Program} {w : World} {K : PySem.W.Frag} {mg : Str → Option Value} {base : Heap} {t : Ad}
/-! _law_given -/
theorem put_filter (p : Int → Bool) {k : Int} (h : p k = true) (L : Ct) (c : List Int) : putA (L.filter fun e => p e.1) k c = (putA L k c).filter fun e => p e.1 := by
  unfold putA
  by_cases z : k ∈ L.map (·.1)
  · have z' : k ∈ (L.filter fun e => p e.1).map (·.1) := by
      obtain ⟨e, he, hk⟩ := List.mem_map.mp z
      exact List.mem_map.mpr ⟨e, List.mem_filter.mpr ⟨he, by rw [hk]; exact h⟩, hk⟩
    rw [if_pos z, if_pos z', List.filter_map]
    congr 1
    apply List.filter_congr
    intro e _
    by_cases w : e.1 = k <;> simp [Function.comp, w]
  · have z' : k ∉ (L.filter fun e => p e.1).map (·.1) := fun w => z (by
      obtain ⟨e, he, hk⟩ := List.mem_map.mp w
      exact List.mem_map.mpr ⟨e, (List.mem_filter.mp he).1, hk⟩)
    rw [if_neg z, if_neg z', List.filter_append]
    congr 1
    rw [List.filter_cons, if_pos h]; rfl
theorem add_filter {L : Ct} {ns : List Int} {f : Ft} {tick : Int} (h : ∀ k, k < f.m → 1 ≤ f.dl k) : ∀ i, i ≤ f.m → addF (L.filter fun e => decide (tick < e.1)) ns f tick i = (addF L ns f tick i).filter fun e => decide (tick < e.1)
  | 0, _ => rfl
  | i + 1, hi => by
    show putA (addF _ ns f tick i) _ _ = (putA (addF L ns f tick i) _ _).filter _
    rw [add_filter h i (by omega)]
    exact put_filter (fun k => decide (tick < k)) (decide_eq_true (by have := h i (by omega); omega)) _ _
theorem put_keys' {L : Ct} {k : Int} {c : List Int} : ∀ y ∈ (putA L k c).map (·.1), y ∈ L.map (·.1) ∨ y = k := fun y hy => by
  unfold putA at hy
  by_cases z : k ∈ L.map (·.1)
  · rw [if_pos z, List.map_map] at hy
    obtain ⟨e, he, rfl⟩ := List.mem_map.mp hy
    refine .inl (List.mem_map.mpr ⟨e, he, ?_⟩)
    by_cases w : e.1 = k <;> simp [Function.comp, w]
  · rw [if_neg z, List.map_append] at hy
    rcases List.mem_append.mp hy with hy | hy
    · exact .inl hy
    · exact .inr (List.mem_singleton.mp hy)
theorem add_keys {L : Ct} {ns : List Int} {f : Ft} {tick late : Int} (g : GoodF late f) : ∀ i, i ≤ f.m → ∀ y ∈ (addF L ns f tick i).map (·.1), y ∈ L.map (·.1) ∨ (tick < y ∧ y ≤ tick + late)
  | 0, _, y, hy => .inl hy
  | i + 1, hi, y, hy => by
    rcases put_keys' y hy with h | h
    · exact add_keys g i (by omega) y h
    · have := g.d i (by omega)
      exact .inr ⟨by omega, by omega⟩
def hide (H : Hp) (p : Addr) : Hp := fun y => if y = p then none else H y
theorem hide_ne {H : Hp} {p y : Addr} (h : y ≠ p) : hide H p y = H y := if_neg h
theorem hide_same {H : Hp} {p : Addr} : Same (hide H p) H := fun y o e => by
  by_cases z : y = p
  · unfold hide at e; rw [if_pos z] at e; cases e
  · rwa [hide_ne z] at e
theorem pot_hide {H : Hp} {p : Addr} {r k m : Int} (h : H p = some (.lst [.int r, .int k, .int m])) (r0 : 0 ≤ r) (k0 : 0 ≤ k) (m0 : 0 ≤ m) (m1 : m < 2147483647) : Pot (hide H p) H p r k m := ⟨if_pos rfl, h, hide_same, r0, k0, m0, m1⟩
theorem hide_mods {H H' : Hp} {p : Addr} (s : Same (hide H p) H') : Mods [p] H H' := fun y o ny e => s _ _ ((hide_ne (by simpa using ny)).trans e)
theorem hide_tup {K : PySem.W.Frag} {H : Hp} {p a : Addr} {zs : List V} {xs : List V} (hp : H p = some (.lst zs)) (h : SqT K H a xs) : SqT K (hide H p) a xs := by
  rcases h with (h | ⟨o, h⟩) | h
  · exact .inl (.inl ((hide_ne fun z => by rw [z, hp] at h; cases h).trans h))
  · exact .inl (.inr ⟨o, (hide_ne fun z => by rw [z, hp] at h; cases h).trans h⟩)
  · exact .inr h
theorem hide_fate {K : PySem.W.Frag} {H : Hp} {p a : Addr} {zs : List V} {f : Ft} (hp : H p = some (.lst zs)) (h : IsFate K H a f) : IsFate K (hide H p) a f :=
  let ⟨aps, tns, h1, h2⟩ := h; ⟨aps, tns, hide_tup hp h1, fun k hk => ⟨hide_tup hp (h2 k hk).1, let ⟨tps, g1, g2⟩ := (h2 k hk).2; ⟨tps, hide_tup hp g1, fun j hj => hide_tup hp (g2 j hj)⟩⟩⟩
/-- a list is no tuple -/
theorem no_tup {H : Hp} {p : Addr} {zs : List V} (h : H p = some (.lst zs)) : NoTup H [p] := fun y hy => by
  rw [List.mem_singleton.mp hy]
  exact ⟨fun xs z => (by rw [h] at z; cases z), fun o u z => (by rw [h] at z; cases z)⟩
structure Gst (C : Addr) (H : Hp) (x dx d e p : Addr) (late tick : Int) (bs es : List Bx) (N : Nat) (r k m : Int) : Prop where
  air : AirAt C H x dx d late tick bs
  due : DAt H e es
  dis : ∀ y ∈ ownB e es, y ∉ ownA x dx d bs
  ct : CtOk bs es tick
  fb : Few N bs
  fe : Few N es
  pot : H p = some (.lst [.int r, .int k, .int m])
  r0 : 0 ≤ r
  k0 : 0 ≤ k
  m0 : 0 ≤ m
  m1 : m < 2147483647
theorem alike_ints {K : PySem.W.Frag} {H : Hp} {ns : List Int} : ∀ (j : Nat) (u v : V), (ns.map V.int)[j]? = some u → (ns.map V.int)[j]? = some v → Alike K H 8 u v := fun j u v hu hv => by
  obtain rfl := Option.some.inj (hu.symm.trans hv)
  rw [List.getElem?_map] at hu
  cases c : ns[j]? with
  | none => rw [c] at hu; cases hu
  | some n => rw [c] at hu; obtain rfl := Option.some.inj hu; exact .int _
theorem alike_bls {K : PySem.W.Frag} {H : Hp} {bs : List Bool} : ∀ (j : Nat) (u v : V), (bs.map V.bl)[j]? = some u → (bs.map V.bl)[j]? = some v → Alike K H 8 u v := fun j u v hu hv => by
  obtain rfl := Option.some.inj (hu.symm.trans hv)
  rw [List.getElem?_map] at hu
  cases c : bs[j]? with
  | none => rw [c] at hu; cases hu
  | some n => rw [c] at hu; obtain rfl := Option.some.inj hu; exact .bl _
def sp__law_given (C : Addr) : Sp := fun vs H Q _ => ∃ (x dx d e p : Addr) (late tick : Int) (bs es : List Bx) (N : Nat) (r k m : Int), vs = [.ref x, .ref p, .int late, .int tick, .ref e] ∧ Gst C H x dx d e p late tick bs es N r k m ∧ p ∉ ownA x dx d bs ∧ p ∉ ownB e es ∧ 1 ≤ late ∧ late ≤ 6 ∧ 0 ≤ tick ∧ tick ≤ 100 ∧ k ≤ 600000 ∧ N ≤ 900000 ∧
  ∀ (H' : Hp) (bs' es' : List Bx) (r' k' : Int), Gst C H' x dx d e p late tick bs' es' (N + 3) r' k' m → k' ≤ k + 200 → Mods (p :: (ownA x dx d bs ++ ownB e es)) H H' → (∀ y ∈ ownA x dx d bs', y ∈ p :: (ownA x dx d bs ++ ownB e es) ∨ H y = none) → (∀ y ∈ ownB e es', y ∈ p :: (ownA x dx d bs ++ ownB e es) ∨ H y = none) → p ∉ ownA x dx d bs' → p ∉ ownB e es' → (∀ y ∈ bs'.map (·.1), y ∈ bs.map (·.1) ∨ y ≤ tick + 6) → Q (.bl true) H'
theorem sc__law_given : FnScope ["air", "pot", "late", "tick", "due", "signs", "fate", "handed", "delay", "turns", "far", "wrong", "bad"] ["air", "pot", "late", "tick", "due"] (defScope s__law_given) := ⟨rfl, rfl, rfl, by decide +kernel, rfl, by decide +kernel, by decide +kernel⟩
set_option maxHeartbeats 0 in
theorem ok__law_given {fg ff : FuncData} (F : Site K mg "_law_given" s__law_given) (T : Txt K mg t) (D__law_take : Def P w K mg base 1 "_law_take" ["pot", "size"] sp__law_take) (D__law_fate : Def P w K mg base 3 "_law_fate" ["pot", "late"] (sp__law_fate K)) (D__law_turned : Def P w K mg base 1 "_law_turned" ["signs", "turns"] (sp_turned K))
    (D__law_bad_cell : Def P w K mg base 2 "_law_bad_cell" ["signs", "pot", "far"] sp__law_bad_cell) (D__law_bad_fate : Def P w K mg base 2 "_law_bad_fate" ["fate", "pot", "late"] (sp__law_bad_fate K)) (D__law_refused : Def P w K mg base 5 "_law_refused" ["air", "signs", "fate", "tick"] (sp__law_refused K t.Air))
    (F_give : FnOk P w K mg base (CX1 P w) 4 t.m_give fg ["self", "cell", "fate", "tick"] (sp_give K t.Air t.BadCell t.BadFate)) (B_give : Binds K fg ["self", "cell", "fate", "tick"] []) (F_flying : FnOk P w K mg base (CX1 P w) 1 t.m_flying ff ["self"] (sp_flying t.Air)) (B_flying : Binds K ff ["self"] []) :
    Def P w K mg base 6 "_law_given" ["air", "pot", "late", "tick", "due"] (sp__law_given t.Air) := by
  refine F.def sc__law_given (fun _ _ _ _ _ _ us hl => match us, hl with | [_, _, _, _, _], _ => rfl) (fun vs H Q E h => ?_) (fun f cdv A outer s H vs Q E hr h => ?_)
  · obtain ⟨x, dx, d, e, p, late, tick, bs, es, N, r, k, m, rfl, _⟩ := h
    rfl
  · obtain ⟨x, dx, d, e, p, late, tick, bs, es, N, r, k, m, rfl, g, pA, pE, l0, l1, t0, t1, hk, hN, q⟩ := h
    refine ⟨_, pss_cons (ps_setLC (i := 5) sc__law_given.nd rfl (Or.inl rfl) rfl (Nc := ["k", "pot"]) (ix := [none, some 1]) (cscope (defScope s__law_given) ["air", "pot", "late", "tick", "due", "signs", "fate", "handed", "delay", "turns", "far", "wrong", "bad"] rfl rfl (by decide +kernel)) (pi_range1 (by rfl) T.n_range (pa_cons pe_int pa_nil)) (fun C fp s H => ⟨(pg_name (i := 0) (show (["k", "pot"] : List Str).Nodup by decide +kernel) rfl (Or.inl rfl)), pts_nil, (pe_def (D__law_take.mono (by decide)) hr passN (pa_cons (pv 1) (pa_cons pe_int pa_nil)))⟩))
      (pss_cons (ps_set (i := 6) sc__law_given.nd rfl (Or.inl rfl) (pe_def (D__law_fate.mono (by decide)) hr passN (pa_cons (pv 1) (pa_cons (pv 2) pa_nil))))
      (pss_cons (ps_set (i := 7) sc__law_given.nd rfl (Or.inl rfl) (pe_callTy (call_listK K) (by rfl) T.n_list boot_list (pa_cons (pv 5) pa_nil)))
      (pss_cons (ps_if (PW.pt (pw_or (pt_cmpR op_notN (pe_meth (pv 0) T.cAir T.me_give (F_give.mono (by decide)) hr B_give .nil (pass1 cx1_body) (pa_cons (pv 7) (pa_cons (pv 6) (pa_cons (pv 3) pa_nil)))) pe_non (nomark _)) (pw_or1 (pt_cmpR (op_neLK K (hu16 hr)) (pv 7) (pv 5) (nomark _)))))
        (pss_one (ps_ret pe_bl))
        (pss_nil))
      (pss_cons (ps_asg pe_int (pg_sub (pv 7) (pe_def (D__law_take.mono (by decide)) hr passN (pa_cons (pv 1) (pa_cons pe_int pa_nil))) set_list))
      (pss_cons (ps_expr (pe_bmK K PySem.F.plainAttrs_list PySem.F.slot_list_append PySem.F.type_list_append mt_append (pv 7) (pa_cons pe_int pa_nil)))
      (pss_cons (PS.nox (ps_for PassesOwn.never rfl (pi_tupK K (pv 6)) (pg_twoK K (i := 8) (j := 9) rfl sc__law_given.nd rfl rfl (Or.inl rfl) (Or.inl rfl))
        (pss_cons (ps_expr (pe_dsetd (pv 4) (pe_op op_add (pv 3) (pv 8)) (pe_lst pa_nil) ⟨rfl, rfl, rfl, rfl⟩))
        (pss_one (ps_expr (pe_bmK K PySem.F.plainAttrs_list PySem.F.slot_list_append PySem.F.type_list_append mt_append (pe_dget (hu_of hr) (pv 4) (pe_op op_add (pv 3) (pv 8)) (fun _ _ => rfl)) (pa_cons (pe_def (D__law_turned.mono (by decide)) hr passN (pa_cons (pv 5) (pa_cons (pv 9) pa_nil))) pa_nil)))))))
      (pss_cons (ps_if (pt_cmpR op_ne (pe_meth0 (pv 0) T.cAir T.me_flying (F_flying.mono (by decide)) hr B_flying .nil passN) (pe_callB (call_sumK K rfl) (by rfl) T.n_sum boot_sum (pa_cons (pe_thaw P w (pe_lc rfl (Nc := ["some"]) (ix := [none]) (cscope (defScope s__law_given) ["air", "pot", "late", "tick", "due", "signs", "fate", "handed", "delay", "turns", "far", "wrong", "bad"] rfl rfl (by decide +kernel)) (pi_valuesK P w (pv 4)) (fun C fp s H => ⟨(pg_name (i := 0) (show (["some"] : List Str).Nodup by decide +kernel) rfl (Or.inl rfl)), pts_nil, (pe_callB (call_lenK K) (by rfl) T.n_len boot_len (pa_cons (pv 0) pa_nil))⟩))) pa_nil)) (nomark _))
        (pss_one (ps_ret pe_bl))
        (pss_nil))
      (pss_cons (ps_set (i := 10) sc__law_given.nd rfl (Or.inl rfl) (pe_op op_add (pe_op op_mul (pv 3) (pe_op op_pow pe_int pe_int)) pe_int))
      (pss_cons (ps_set (i := 11) sc__law_given.nd rfl (Or.inl rfl) (pe_def (D__law_bad_cell.mono (by decide)) hr passN (pa_cons (pv 5) (pa_cons (pv 1) (pa_cons (pv 10) pa_nil)))))
      (pss_cons (ps_set (i := 12) sc__law_given.nd rfl (Or.inl rfl) (pe_def (D__law_bad_fate.mono (by decide)) hr passN (pa_cons (pv 6) (pa_cons (pv 1) (pa_cons (pv 2) pa_nil)))))
      (pss_cons (ps_if (pt_cmpR (op_neLK K (hu16 hr)) (pe_def (D__law_refused.mono (by decide)) hr passN (pa_cons (pv 0) (pa_cons (pv 11) (pa_cons (pe_ix (ix_listK K) (pe_lst (pa_cons (pv 6) (pa_cons (pv 12) pa_nil))) (pe_op op_mod (pv 3) pe_int) (fun _ _ => rfl)) (pa_cons (pv 3) pa_nil))))) (pe_lst (pa_cons pe_bl (pa_cons pe_bl (pa_cons pe_bl pa_nil)))) (nomark _))
        (pss_one (ps_ret pe_bl))
        (pss_nil))
      (pss_one (ps_ret (pe_chain (op_eqLK K (hu16 hr)) (op_eqLK K (hu16 hr)) (pe_def (D__law_refused.mono (by decide)) hr passN (pa_cons (pv 0) (pa_cons (pv 5) (pa_cons (pv 12) (pa_cons (pv 3) pa_nil))))) (pe_lst (pa_cons pe_bl (pa_cons pe_bl (pa_cons pe_bl pa_nil)))) (pe_def (D__law_refused.mono (by decide)) hr passN (pa_cons (pv 0) (pa_cons (pe_callTy (call_listK K) (by rfl) T.n_list boot_list (pa_cons (pv 5) pa_nil)) (pa_cons (pv 12) (pa_cons (pv 3) pa_nil))))))))))))))))))), ?_⟩
    have hsz : (2000000 : Nat) ≤ sizeLine := by decide
    have pot0 := pot_hide g.pot g.r0 g.k0 g.m0 g.m1
    refine ⟨24, rfl, by decide, by decide, fun l hl => ?_⟩
    have hlH : H l = none := hl
    have nlp : l ≠ p := fun z => by rw [z, g.pot] at hl; cases hl
    refine lc_range (lo := 0) (n := 24) (fun i σ H' => ∃ (v : Option V) (ns : List Int) (r' k' : Int), σ = [v, some (.ref p)] ∧ Pot (hide H p) H' p r' k' m ∧ k' ≤ k + (i : Nat) ∧ H' l = some (.lst (ns.map V.int)) ∧ ns.length = i ∧ ∀ n ∈ ns, 0 ≤ n ∧ n < 97) ⟨none, [], r, k, rfl, pot0.put ((hide_ne nlp).trans hl) nlp, by omega, upd_same, rfl, fun n hn => (by cases hn)⟩ ?_ ?_
    · rintro i σ H' Nx hNx hi ⟨v, ns, r', k', rfl, hP, hk', hl', hln, hns⟩
      refine turn_do ?_
      refine ⟨_, rfl, p, 97, r', k', m, rfl, by decide, by decide, hP.at_, hP.r0, hP.k0, by omega, hP.m0, hP.m1, fun dg r2 k2 d0 d1 hr2 hk2 hk2' => ?_⟩
      have hP2 := hP.turn hr2 hk2
      refine ⟨_, (upd_ne nlp).trans hl', by rw [List.length_map]; omega, hNx _ _ ⟨_, ns ++ [dg], r2, k2, rfl, hP2.put ((hide_ne nlp).trans hlH) nlp, by omega, by rw [upd_same, List.map_append]; rfl, by rw [List.length_append]; show ns.length + 1 = _; omega, fun n hn => ?_⟩⟩
      rcases List.mem_append.mp hn with hn | hn
      · exact hns n hn
      · rw [List.mem_singleton.mp hn]; exact ⟨d0, d1⟩
    · rintro σ H1 ⟨v, ns, r1, k1, rfl, hP1, hk1, hl1, hln, hns⟩
      have hrow : IsRow 24 ns := ⟨by omega, hns⟩
      have fns : ∀ n ∈ ns, n.natAbs < 2 ^ 1000 := fun n hn => by have := hns n hn; exact small_abs (by omega) (by omega)
      have hlB : hide H p l = none := (hide_ne nlp).trans hlH
      refine ⟨_, rfl, _, rfl, upd (hide H p) l (.lst (ns.map V.int)), p, r1, k1, m, late, rfl, l0, l1, hP1.more hl1 nlp, by omega, fun a B2 H2 r2 k2 f sB hP2 hk2 hF gF => ?_⟩
      have hl2 : H2 l = some (.lst (ns.map V.int)) := hP2.sm _ _ (sB _ _ upd_same)
      have m2 : Mods [p] H H2 := hide_mods (((Same.refl _).new hlB).trans (sB.trans hP2.sm))
      have hF2 := Same.fate hP2.sm hF
      have fF : FarF f := ⟨by have := gF.few; omega, fun k hk => by have := gF.d k hk; exact small_abs (by omega) (by omega), fun k hk => ⟨by have := (gF.t k hk).few; omega, fun i hi => by have := (gF.t k hk).b i hi; exact ⟨small_abs (by omega) (by omega), small_abs (by omega) (by omega)⟩⟩⟩
      refine ⟨_, rfl, l, _, rfl, .inl (SqL.of hl2), fun hd hhd => ?_⟩
      have s3 := (Same.refl H2).new (o := .lst (ns.map V.int)) hhd
      have e3 : (upd H2 hd (.lst (ns.map V.int))) hd = some (.lst (ns.map V.int)) := upd_same
      generalize upd H2 hd (.lst (ns.map V.int)) = H3 at *
      have frH : ∀ y, H2 y = none → H y = none := fun y hy => by
        cases w : H y with
        | none => rfl
        | some o =>
          by_cases z : y = p
          · rw [z, hP2.at_] at hy; cases hy
          · rw [m2 _ _ (by simpa using z) w] at hy; cases hy
      have hdH : H hd = none := frH hd hhd
      have m3 : Mods [p] H H3 := m2.trans (Mods.same s3)
      have pS : ∀ y ∈ ownA x dx d bs, y ∉ [p] := fun y hy w => pA (by rw [← List.mem_singleton.mp w]; exact hy)
      have pT : ∀ y ∈ ownB e es, y ∉ [p] := fun y hy w => pE (by rw [← List.mem_singleton.mp w]; exact hy)
      have hA3 := g.air.mods m3 pS
      have hE3 := g.due.mods m3 pT
      have noA : ∀ y, H y = none → y ∉ ownA x dx d bs := fun y hy w => by obtain ⟨o, k⟩ := g.air.has y w; rw [hy] at k; cases k
      have noE : ∀ y, H y = none → y ∉ ownB e es := fun y hy w => by obtain ⟨o, k⟩ := g.due.has y w; rw [hy] at k; cases k
      have hl3 := s3 _ _ hl2
      have hF3 := Same.fate s3 hF2
      have hp3 := s3 _ _ hP2.at_
      refine ⟨_, rfl, x, dx, [("late", .int late), ("asked", .int tick), ("coming", .ref d)], rfl, hA3.at_, rfl, _, rfl, _, rfl, _, rfl, ?_⟩
      refine ⟨x, dx, d, hd, a, late, tick, tick, bs, ns, f, N, rfl, hA3, l0, l1, SqL.of e3, noA hd hdH, fns, hF3, fF, g.fb, by omega, fun z => absurd hrow z, fun _ z => absurd gF z, fun _ _ H4 bs' hA4 hct4 m4 own4 few4 => ?_⟩
      refine ⟨rfl, _, rfl, iteNN rfl ?_⟩
      have e4 : H4 hd = some (.lst (ns.map V.int)) := m4 _ _ (noA hd hdH) e3
      have hl4 : H4 l = some (.lst (ns.map V.int)) := m4 _ _ (noA l hlH) hl3
      have hp4 := m4 _ _ pA hp3
      have hE4 := hE3.mods m4 fun y hy => g.dis y hy
      have hF4 := hA3.notup.fate m4 hF3
      refine ⟨_, rfl, _, rfl, hd, l, _, _, rfl, rfl, SqL.of e4, SqL.of hl4, .inl ⟨rfl, alike_ints, false, rfl, iteF ?_⟩⟩
      have nhp : hd ≠ p := fun z => by rw [z, g.pot] at hdH; cases hdH
      have nhl : hd ≠ l := fun z => by rw [z, hl2] at hhd; cases hhd
      refine ⟨_, rfl, _, rfl, p, 24, r2, k2, m, rfl, by decide, by decide, hp4, hP2.r0, hP2.k0, by omega, hP2.m0, hP2.m1, fun dg r5 k5 d0 d1 hr5 hk5 hk5' => ?_⟩
      refine ⟨hd, _, _, _, rfl, rfl, (upd_ne nhp).trans e4, ix_ints d0 (by omega), ?_⟩
      refine ⟨_, rfl, .inl ⟨rfl, _, SqL.of upd_same⟩, hd, _, _, rfl, rfl, upd_same, by rw [List.length_set, List.length_map]; omega, ?_⟩
      have m6 : Mods [p, hd] H4 (upd (upd (upd H4 p (.lst [.int r5, .int k5, .int m])) hd (.lst ((ns.map V.int).set dg.toNat (.int 7)))) hd (.lst ((ns.map V.int).set dg.toNat (.int 7) ++ [V.int 1]))) := fun y o ny w => by
        rw [List.mem_cons, List.mem_singleton, not_or] at ny
        rw [upd_ne ny.2, upd_ne ny.2, upd_ne ny.1]; exact w
      have hp6 : (upd (upd (upd H4 p (.lst [.int r5, .int k5, .int m])) hd (.lst ((ns.map V.int).set dg.toNat (.int 7)))) hd (.lst ((ns.map V.int).set dg.toNat (.int 7) ++ [V.int 1]))) p = some (.lst [.int r5, .int k5, .int m]) := by
        rw [upd_ne (Ne.symm nhp), upd_ne (Ne.symm nhp), upd_same]
      generalize upd (upd (upd H4 p (.lst [.int r5, .int k5, .int m])) hd (.lst ((ns.map V.int).set dg.toNat (.int 7)))) hd (.lst ((ns.map V.int).set dg.toNat (.int 7) ++ [V.int 1])) = H6 at *
      have nt4 : NoTup H4 [p, hd] := fun y hy => by
        rcases List.mem_cons.mp hy with rfl | hy
        · exact no_tup hp4 _ (List.mem_singleton.mpr rfl)
        · exact no_tup e4 y hy
      have hF6 := nt4.fate m6 hF4
      have hl6 : H6 l = some (.lst (ns.map V.int)) := m6 _ _ (fun w => by
        rcases List.mem_cons.mp w with w | w
        · exact nlp w
        · exact nhl (List.mem_singleton.mp w).symm) hl4
      have hE6 := hE4.mods m6 fun y hy w => by
        rcases List.mem_cons.mp w with w | w
        · exact pE (w ▸ hy)
        · exact noE hd hdH ((List.mem_singleton.mp w) ▸ hy)
      have apart4 : ∀ y ∈ ownA x dx d bs', y ∉ [p, hd] ∧ y ∉ ownB e es := fun y hy => by
        rcases own4 y hy with h | h
        · refine ⟨fun w => ?_, fun w => g.dis y w h⟩
          rcases List.mem_cons.mp w with w | w
          · exact pA (w ▸ h)
          · exact noA hd hdH ((List.mem_singleton.mp w) ▸ h)
        · refine ⟨fun w => ?_, fun w => ?_⟩
          · rcases List.mem_cons.mp w with w | w
            · rw [w, hp3] at h; cases h
            · rw [List.mem_singleton.mp w, e3] at h; cases h
          · obtain ⟨o, k⟩ := hE3.has y w; rw [h] at k; cases k
      have hA6 := hA4.mods m6 fun y hy => (apart4 y hy).1
      obtain ⟨aps, tns, hT, hkf⟩ := id hF6
      have lE : l ∉ ownB e es := noE l hlH
      refine ⟨_, rfl, a, rfl, ⟨_, hT⟩, ?_⟩
      have few3 := gF.few
      refine for_tup (K := K) (a := a) (xs := tabR f.m aps) (fun i σ H' => ∃ (es1 : List Bx) (v8 v9 : Option V), σ = [some (.ref x), some (.ref p), some (.int late), some (.int tick), some (.ref e), some (.ref l), some (.ref a), some (.ref hd), v8, v9, none, none, none] ∧ DAt H' e es1 ∧ ctB es1 = addF (ctB es) ns f tick i ∧ Mods (ownB e es) H6 H' ∧ (∀ y ∈ ownB e es1, y ∈ ownB e es ∨ H6 y = none) ∧ Few (N + i) es1)
        ⟨es, none, none, rfl, hE6, rfl, Mods.refl, fun y hy => .inl hy, g.fe⟩ (fun i σ H' _ ⟨_, _, _, _, _, _, m7, _⟩ => hE6.notup.tup m7 hT) ?_ ?_
      · rintro i z σ H7 hz ⟨es1, v8, v9, rfl, hE7, hct7, m7, own7, few7⟩
        obtain ⟨hi, rfl⟩ := tab_of hz
        refine take_two (hE6.notup.tup m7 (hkf i hi).1) ?_
        refine due_turn rfl rfl rfl rfl rfl hE7 few7 (by omega) (SqL.of (m7 _ _ lE hl6)) (by omega) (fun w => ?_) (hE6.notup.turns m7 (hkf i hi).2) (gF.t i hi) fun H8 es8 hE8 hct8 m8 own8 few8 => ?_
        · rcases own7 l w with h | h
          · exact lE h
          · rw [hl6] at h; cases h
        · refine ⟨es8, _, _, rfl, hE8, by rw [hct8, hct7]; rfl, m7.trans' m8 own7, fun y hy => ?_, few8⟩
          rcases own8 y hy with h | h
          · exact own7 y h
          · by_cases w : y ∈ ownB e es
            · exact .inl w
            · refine .inr ?_
              cases c : H6 y with
              | none => rfl
              | some o => rw [m7 _ _ w c] at h; cases h
      · rintro σ H7 ⟨es', v8, v9, rfl, hE7, hct7, m7, own7, few7⟩
        rw [tab_len] at hct7 few7
        have hA7 := hA6.mods m7 fun y hy => (apart4 y hy).2
        have hct' : CtOk bs' es' tick := by
          unfold CtOk
          rw [hct7, hct4, g.ct]
          exact add_filter (fun k hk => (gF.d k hk).1) f.m (Nat.le_refl _)
        have fe' : Few (N + 3) es' := ⟨Nat.le_trans few7.n (by omega), fun b hb => Nat.le_trans (few7.c b hb) (by omega)⟩
        have hp7 := m7 _ _ pE hp6
        have hl7 := m7 _ _ lE hl6
        have hF7 := hE6.notup.fate m7 hF6
        refine ⟨_, rfl, x, dx, [("late", .int late), ("asked", .int tick), ("coming", .ref d)], rfl, hA7.at_, rfl, ?_⟩
        refine ⟨x, dx, d, late, tick, bs', N + 3, rfl, hA7, few4, by omega, fun H8 s8 => ?_⟩
        have hE8 := hE7.mods (S := []) (Mods.same s8) fun y _ w => by cases w
        refine due_sum rfl hE8 fe' (by omega) fun H9 s9 => ⟨rfl, _, rfl, iteNN (by rw [fly_due hct']) ?_⟩
        have s79 := s8.trans s9
        have hp9 := s79 _ _ hp7
        have hl9 := s79 _ _ hl7
        have hF9 := Same.fate s79 hF7
        have hA9 := hA7.mods (S := []) (Mods.same s79) fun y _ w => by cases w
        have hE9 := hE7.mods (S := []) (Mods.same s79) fun y _ w => by cases w
        refine ⟨_, rfl, _, _, rfl, rfl, ⟨by decide, by decide, by decide⟩, _, _, rfl, rfl, .inl ⟨by omega, by omega⟩, _, _, rfl, rfl, ?_⟩
        have p20 : (10 : Int) ^ (20 : Int).toNat = 100000000000000000000 := by decide
        have far0 : 0 ≤ tick * (10 : Int) ^ (20 : Int).toNat + 5 := by rw [p20]; omega
        have far1 : tick * (10 : Int) ^ (20 : Int).toNat + 5 < 2 ^ 200 := by
          rw [p20]
          have : (2 : Int) ^ 200 = 1606938044258990275541962092341162602522202993782792835301376 := by decide
          omega
        have potH9 := pot_hide hp9 hr5 (by have := hP2.k0; omega) g.m0 g.m1
        refine ⟨_, rfl, _, rfl, _, rfl, hide H9 p, l, p, ns, _, r5, k5, m, rfl, potH9, by omega, (hide_ne nlp).trans hl9, hrow, far0, far1, fun H10 lw nw r10 k10 hP10 hk10 hlw frw badw fw => ?_⟩
        have m10 : Mods [p] H9 H10 := hide_mods hP10.sm
        have hl10 := m10 _ _ (by simpa using nlp) hl9
        have hF10 := (no_tup hp9).fate m10 hF9
        have potH10 := pot_hide hP10.at_ hP10.r0 hP10.k0 hP10.m0 hP10.m1
        refine ⟨_, rfl, _, rfl, _, rfl, hide H10 p, a, p, r10, k10, m, late, f, rfl, l0, l1, potH10, by omega, hide_fate hP10.at_ hF10, gF, fun H11 ab fb r11 k11 hP11 hk11 fr11 hFb fFb badf => ?_⟩
        have m11 : Mods [p] H10 H11 := hide_mods hP11.sm
        have hl11 := m11 _ _ (by simpa using nlp) hl10
        have hF11 := (no_tup hP10.at_).fate m11 hF10
        have nlw : lw ≠ p := fun z => by rw [z, hp9] at frw; cases frw
        have hlw11 := m11 _ _ (by simpa using nlw) hlw
        have mm : Mods [p] H9 H11 := m10.trans m11
        have pA' : p ∉ ownA x dx d bs' := fun w => (apart4 p w).1 List.mem_cons_self
        have pE' : p ∉ ownB e es' := fun w => by
          rcases own7 p w with h | h
          · exact pE h
          · rw [hp6] at h; cases h
        have hA11 := hA9.mods mm fun y hy w => pA' ((List.mem_singleton.mp w) ▸ hy)
        have hE11 := hE9.mods mm fun y hy w => pE' ((List.mem_singleton.mp w) ▸ hy)
        have lA' : l ∉ ownA x dx d bs' := fun w => by
          rcases own4 l w with h | h
          · exact noA l hlH h
          · rw [hl3] at h; cases h
        have lwA' : lw ∉ ownA x dx d bs' := fun w => by obtain ⟨o, c⟩ := hA9.has lw w; rw [frw] at c; cases c
        -- the first refusal
        refine ⟨_, rfl, _, rfl, _, rfl, _, rfl, by show 2 ≤ sizeLine; decide, fun lb hlb => ?_⟩
        have s12 := (Same.refl H11).new (o := .lst [V.ref a, V.ref ab]) hlb
        have e12 : (upd H11 lb (.lst [V.ref a, V.ref ab])) lb = some (.lst [V.ref a, V.ref ab]) := upd_same
        generalize upd H11 lb (.lst [V.ref a, V.ref ab]) = H12 at *
        obtain ⟨af, fz, hat, hFz, fFz⟩ : ∃ af fz, atI [V.ref a, V.ref ab] (tick % 2) = some (.ref af) ∧ IsFate K H12 af fz ∧ FarF fz := by
          have h2 : tick % 2 = 0 ∨ tick % 2 = 1 := by omega
          rcases h2 with h2 | h2
          · rw [h2]; exact ⟨a, f, rfl, Same.fate s12 hF11, fF⟩
          · rw [h2]; exact ⟨ab, fb, rfl, Same.fate s12 hFb, fFb⟩
        have hA12 := hA11.mods (S := []) (Mods.same s12) fun y _ w => by cases w
        refine ⟨_, rfl, _, _, rfl, rfl, (by show (0 : Int) < 2; decide), lb, _, _, _, rfl, rfl, SqL.of e12, hat, _, rfl, ?_⟩
        refine ⟨x, dx, d, lw, af, late, tick, tick, bs', nw, fz, N + 3, rfl, hA12, l0, l1, SqL.of (s12 _ _ hlw11), lwA', fw, hFz, fFz, few4, by omega, fun z => badw z.1, fun _ p13 H13 s13 h13 e13 => ?_, fun z => absurd z badw⟩
        refine ⟨by show 3 ≤ sizeLine; decide, fun q1 hq1 => ?_⟩
        refine ⟨p13, q1, _, _, rfl, rfl, SqL.of ((upd_ne (ne_of_none e13 hq1)).trans e13), SqL.of upd_same, .inl ⟨rfl, alike_bls (bs := [true, false, true]), false, rfl, iteF ?_⟩⟩
        have s14 : Same H11 (upd H13 q1 (.lst [V.bl true, V.bl false, V.bl true])) := (s12.trans s13).new hq1
        generalize upd H13 q1 (.lst [V.bl true, V.bl false, V.bl true]) = H14 at *
        -- the second
        have hA14 := hA11.mods (S := []) (Mods.same s14) fun y _ w => by cases w
        refine ⟨_, rfl, _, rfl, _, rfl, _, rfl, ?_⟩
        refine ⟨x, dx, d, l, ab, late, tick, tick, bs', ns, fb, N + 3, rfl, hA14, l0, l1, SqL.of (s14 _ _ hl11), lA', fns, Same.fate s14 hFb, fFb, few4, by omega, fun z => badf z.2, fun z => absurd hrow z, fun _ p15 H15 s15 h15 e15 => ?_⟩
        refine ⟨by show 3 ≤ sizeLine; decide, fun q2 hq2 => ?_⟩
        have n15 := ne_of_none e15 hq2
        have s16 : Same H11 (upd H15 q2 (.lst [V.bl false, V.bl true, V.bl true])) := (s14.trans s15).new hq2
        refine ⟨p15, q2, _, _, rfl, rfl, SqL.of ((upd_ne n15).trans e15), SqL.of upd_same, .inl ⟨rfl, alike_bls (bs := [false, true, true]), true, rfl, iteT ?_⟩⟩
        have e16 : (upd H15 q2 (.lst [V.bl false, V.bl true, V.bl true])) q2 = some (.lst [V.bl false, V.bl true, V.bl true]) := upd_same
        generalize upd H15 q2 (.lst [V.bl false, V.bl true, V.bl true]) = H16 at *
        -- the third
        refine ⟨_, rfl, _, rfl, l, _, rfl, .inl (SqL.of (s16 _ _ hl11)), fun l2 hl2' => ?_⟩
        have s17 := s16.new (o := .lst (ns.map V.int)) hl2'
        have e17 : (upd H16 l2 (.lst (ns.map V.int))) l2 = some (.lst (ns.map V.int)) := upd_same
        have e16' := (Same.refl H16).new (o := .lst (ns.map V.int)) hl2' _ _ e16
        have l2A : l2 ∉ ownA x dx d bs' := fun w => by obtain ⟨o, c⟩ := hA11.has l2 w; rw [s16.free hl2'] at c; cases c
        generalize upd H16 l2 (.lst (ns.map V.int)) = H17 at *
        have hA17 := hA11.mods (S := []) (Mods.same s17) fun y _ w => by cases w
        refine ⟨_, rfl, _, rfl, ?_⟩
        refine ⟨x, dx, d, l2, ab, late, tick, tick, bs', ns, fb, N + 3, rfl, hA17, l0, l1, SqL.of e17, l2A, fns, Same.fate s17 hFb, fFb, few4, by omega, fun z => badf z.2, fun z => absurd hrow z, fun _ p18 H18 s18 h18 e18 => ?_⟩
        refine ⟨q2, p18, _, _, rfl, rfl, SqL.of (s18 _ _ e16'), SqL.of e18, .inl ⟨rfl, alike_bls (bs := [false, true, true]), ?_⟩⟩
        have sE := s17.trans s18
        have chain6 : ∀ y o, y ∉ p :: (ownA x dx d bs ++ ownB e es) → H y = some o → H6 y = some o := fun y o ny w => by
          rw [List.mem_cons, List.mem_append, not_or, not_or] at ny
          have w3 := m3 _ _ (by simpa using ny.1) w
          have w4 := m4 _ _ ny.2.1 w3
          exact m6 _ _ (fun c => by
            rcases List.mem_cons.mp c with c | c
            · exact ny.1 c
            · rw [List.mem_singleton.mp c, hdH] at w; cases w) w4
        refine q H18 bs' es' r11 k11 ⟨hA17.mods (S := []) (Mods.same s18) fun y _ w => (by cases w), hE11.mods (S := []) (Mods.same sE) fun y _ w => (by cases w), fun y hy w => ?_, hct', few4, fe', sE _ _ hP11.at_, hP11.r0, hP11.k0, hP11.m0, hP11.m1⟩ (by omega) (fun y o ny w => ?_) (fun y hy => ?_) (fun y hy => ?_) pA' pE' fun y hy => ?_
        · rcases own7 y hy with h | h
          · exact (apart4 y w).2 h
          · obtain ⟨o, c⟩ := hA6.has y w; rw [h] at c; cases c
        · have w6 := chain6 y o ny w
          rw [List.mem_cons, List.mem_append, not_or, not_or] at ny
          exact sE _ _ (mm _ _ (by simpa using ny.1) (s79 _ _ (m7 _ _ ny.2.2 w6)))
        · rcases own4 y hy with h | h
          · exact .inl (List.mem_cons_of_mem _ (List.mem_append_left _ h))
          · by_cases z : y = p
            · exact .inl (by rw [z]; exact List.mem_cons_self)
            · refine .inr ?_
              cases c : H y with
              | none => rfl
              | some o => rw [m3 _ _ (by simpa using z) c] at h; cases h
        · rcases own7 y hy with h | h
          · exact .inl (List.mem_cons_of_mem _ (List.mem_append_right _ h))
          · by_cases z : y ∈ p :: (ownA x dx d bs ++ ownB e es)
            · exact .inl z
            · refine .inr ?_
              cases c : H y with
              | none => rfl
              | some o => rw [chain6 y o z c] at h; cases h
        · rw [← ct_keys, hct4] at hy
          rcases add_keys gF f.m (Nat.le_refl _) y hy with h | h
          · rw [ct_keys] at h; exact .inl h
          · exact .inr (by omega)
end
end K19
namespace K19
open PySem L2 PyProof.Rows
section
variable {P : Program} {w : World} {K : PySem.W.Frag} {mg : Str → Option Value} {base : Heap} {t : Ad}
/-! law -/
theorem cell_of {i : Nat} {v : V} {ns : List Int} (h : (ns.map V.int)[i]? = some v) : ∃ c, v = .int c := by
  rw [List.getElem?_map] at h
  cases e : ns[i]? with
  | none => rw [e] at h; cases h
  | some c => rw [e] at h; exact ⟨c, (Option.some.inj h).symm⟩
/-- all that lasts from tick to tick -/
structure Whole (C : Addr) (H : Hp) (x dx d e y dy dd q : Addr) (late asked : Int) (bs es b2 : List Bx) (N : Nat) : Prop where
  a1 : AirAt C H x dx d late asked bs
  du : DAt H e es
  a2 : ∃ as2, AirAt C H y dy dd 1 as2 b2
  d12 : ∀ z ∈ ownB e es, z ∉ ownA x dx d bs
  d13 : ∀ z ∈ ownA y dy dd b2, z ∉ ownA x dx d bs
  d23 : ∀ z ∈ ownA y dy dd b2, z ∉ ownB e es
  q1 : q ∉ ownA x dx d bs
  q2 : q ∉ ownB e es
  q3 : q ∉ ownA y dy dd b2
  ct : CtOk bs es asked
  f1 : Few N bs
  f2 : Few N es
  f3 : Few N b2
  ky : ∀ k ∈ bs.map (·.1), k ≤ asked + 6
theorem ownA_filter {x dx d : Addr} {bs : List Bx} (p : Bx → Bool) : ∀ z ∈ ownA x dx d (bs.filter p), z ∈ ownA x dx d bs := fun z hz => by
  rcases List.mem_cons.mp hz with rfl | hz
  · exact List.mem_cons_self
  · rcases List.mem_cons.mp hz with rfl | hz
    · exact List.mem_cons_of_mem _ List.mem_cons_self
    · exact List.mem_cons_of_mem _ (List.mem_cons_of_mem _ (own_filter _ z hz))
theorem Few.up {N M : Nat} {bs : List Bx} (h : Few N bs) (l : N ≤ M) : Few M bs := ⟨Nat.le_trans h.n l, fun b hb => Nat.le_trans (h.c b hb) l⟩
theorem Few.filter {N : Nat} {bs : List Bx} (h : Few N bs) (p : Bx → Bool) : Few N (bs.filter p) := ⟨Nat.le_trans (List.length_filter_le _ _) h.n, fun b hb => h.c b (List.mem_filter.mp hb).1⟩
theorem lk_new {L : Ct} {k : Int} (h : k ∉ L.map (·.1)) (c : List Int) : lkA (putA L k c) k = [c] := by
  unfold putA
  rw [if_neg h]
  unfold lkA
  induction L with
  | nil => simp
  | cons a r ih =>
    rw [List.map_cons, List.mem_cons, not_or] at h
    rw [List.cons_append, List.lookup_cons, beq_eq_false_iff_ne.mpr h.1]
    exact ih h.2
theorem rep_ints (a : Int) : (List.replicate (24 : Int).toNat [V.int a]).flatten = (List.replicate 24 a).map V.int := rfl
theorem cut_some {z : V} {i : Nat} : cutV [z] none (some ((i : Nat) : Int)) = if i = 0 then [] else [z] := by
  unfold cutV
  rw [HT.sIx_none, HT.sIx_nat]
  by_cases h : i = 0
  · subst h; rfl
  · rw [if_neg h]
    have : min i [z].length = 1 := by show min i 1 = 1; omega
    rw [this]; rfl
theorem sc_law : FnScope ["script", "pot", "late", "air", "second_air", "due", "tick", "cell", "turn"] ["script"] (defScope s_law) := ⟨rfl, rfl, rfl, by decide +kernel, rfl, by decide +kernel, by decide +kernel⟩
set_option maxHeartbeats 0 in
theorem law_fn {f : Addr} {fd fi fg fc ff : FuncData} (T : Txt K mg t) (F : Fun K "law" "law" s_law f fd) (D__law_pot : Def P w K mg base 1 "_law_pot" ["cell"] sp__law_pot) (D__law_cell : Def P w K mg base 1 "_law_cell" ["script", "k"] (sp__law_cell K)) (D__law_take : Def P w K mg base 1 "_law_take" ["pot", "size"] sp__law_take)
    (D__law_came : Def P w K mg base 2 "_law_came" ["air", "tick", "due"] (sp__law_came t.Air)) (D__law_given : Def P w K mg base 6 "_law_given" ["air", "pot", "late", "tick", "due"] (sp__law_given t.Air))
    (F_init : FnOk P w K mg base (CX1 P w) 2 t.init fi ["self", "late"] (sp_init t.Air)) (B_init : Binds K fi ["self", "late"] []) (F_give : FnOk P w K mg base (CX1 P w) 4 t.m_give fg ["self", "cell", "fate", "tick"] (sp_give K t.Air t.BadCell t.BadFate)) (B_give : Binds K fg ["self", "cell", "fate", "tick"] [])
    (F_come : FnOk P w K mg base (CX1 P w) 1 t.m_come fc ["self", "tick"] (sp_come t.Air)) (B_come : Binds K fc ["self", "tick"] []) (F_flying : FnOk P w K mg base (CX1 P w) 1 t.m_flying ff ["self"] (sp_flying t.Air)) (B_flying : Binds K ff ["self"] []) :
    FnOk P w K mg base (CX1 P w) 8 f fd ["script"] (spLaw K) := by
  refine F.ok1 sc_law (fun vs H Q E h => ?_) (fun f cdv A outer s H vs Q E hr h => ?_)
  · obtain ⟨a, ns, rfl, _⟩ := h
    rfl
  · obtain ⟨l, ns, rfl, hl, hlen, q⟩ := h
    refine ⟨_, pss_cons (ps_set (i := 1) sc_law.nd rfl (Or.inl rfl) (pe_def (D__law_pot.mono (by decide)) hr passN (pa_cons (pe_def (D__law_cell.mono (by decide)) hr passN (pa_cons (pv 0) (pa_cons pe_int pa_nil))) pa_nil)))
      (pss_cons (ps_set (i := 2) sc_law.nd rfl (Or.inl rfl) (pe_op op_add pe_int (pe_def (D__law_take.mono (by decide)) hr passN (pa_cons (pv 1) (pa_cons pe_int pa_nil)))))
      (pss_cons (ps_set (i := 3) sc_law.nd rfl (Or.inl rfl) (pe_make T.kAir (F_init.mono (by decide)) hr (by rfl) T.mAir B_init .nil (pass1 cx1_body) (pa_cons (pv 2) pa_nil)))
      (pss_cons (ps_set (i := 4) sc_law.nd rfl (Or.inl rfl) (pe_make T.kAir (F_init.mono (by decide)) hr (by rfl) T.mAir B_init .nil (pass1 cx1_body) (pa_cons pe_int pa_nil)))
      (pss_cons (ps_if (pt_cmpR op_ne (pe_meth0 (pv 3) T.cAir T.me_flying (F_flying.mono (by decide)) hr B_flying .nil passN) pe_int (nomark _))
        (pss_one (ps_ret pe_bl))
        (pss_nil))
      (pss_cons (ps_set (i := 5) sc_law.nd rfl (Or.inl rfl) pe_dnewK)
      (pss_cons (ps_set (i := 6) sc_law.nd rfl (Or.inl rfl) pe_int)
      (pss_cons (PS.nox (ps_for PassesOwn.never rfl (pi_listK K (pe_slice (sl_listK K) (pv 0) (po_some pe_int) po_none)) (pg_name (i := 7) sc_law.nd rfl (Or.inl rfl))
        (pss_cons (ps_set (i := 1) sc_law.nd rfl (Or.inl rfl) (pe_def (D__law_pot.mono (by decide)) hr passN (pa_cons (pv 7) pa_nil)))
        (pss_cons (ps_if (PW.pt (pw_or (pt_not (pt_val (pe_def (D__law_came.mono (by decide)) hr passN (pa_cons (pv 3) (pa_cons (pv 6) (pa_cons (pv 5) pa_nil)))))) (pw_or1 (pt_cmpR (op_neGK K (hu16 hr)) (pe_meth (pv 4) T.cAir T.me_come (F_come.mono (by decide)) hr B_come .nil passN (pa_cons (pv 6) pa_nil)) (pe_slice (sl_listK K) (pe_lst (pa_cons (pe_op op_rep (pe_lst (pa_cons (pe_op op_mod (pv 6) pe_int) pa_nil)) pe_int) pa_nil)) po_none (po_some (pv 6))) (nomark _)))))
          (pss_one (ps_ret pe_bl))
          (pss_nil))
        (pss_cons (ps_expr (pe_meth (pv 4) T.cAir T.me_give (F_give.mono (by decide)) hr B_give .nil passN (pa_cons (pe_op op_rep (pe_lst (pa_cons (pe_op op_mod (pe_op op_add (pv 6) pe_int) pe_int) pa_nil)) pe_int) (pa_cons (pe_tup (pa_cons (pe_tup (pa_cons pe_int (pa_cons (pe_tup pa_nil) pa_nil))) pa_nil)) (pa_cons (pv 6) pa_nil)))))
        (pss_cons (ps_for PassesOwn.never rfl (pi_range1 (by rfl) T.n_range (pa_cons (pe_op op_add pe_int (pe_def (D__law_take.mono (by decide)) hr passN (pa_cons (pv 1) (pa_cons pe_int pa_nil)))) pa_nil)) (pg_name (i := 8) sc_law.nd rfl (Or.inl rfl))
          (pss_one (ps_if (pt_not (pt_val (pe_def (D__law_given.mono (by decide)) hr passN (pa_cons (pv 3) (pa_cons (pv 1) (pa_cons (pv 2) (pa_cons (pv 6) (pa_cons (pv 5) pa_nil))))))))
            (pss_one (ps_ret pe_bl))
            (pss_nil))))
        (pss_one (ps_set (i := 6) sc_law.nd rfl (Or.inl rfl) (pe_op op_add (pv 6) pe_int)))))))))
      (pss_cons (PS.nox (ps_for PassesOwn.never rfl (pi_range1 (by rfl) T.n_range (pa_cons pe_int pa_nil)) (pg_name (i := 8) sc_law.nd rfl (Or.inl rfl))
        (pss_one (ps_if (pt_not (pt_val (pe_def (D__law_came.mono (by decide)) hr passN (pa_cons (pv 3) (pa_cons (pe_op op_add (pv 6) (pv 8)) (pa_cons (pv 5) pa_nil))))))
          (pss_one (ps_ret pe_bl))
          (pss_nil)))))
      (pss_one (ps_ret (pe_and (pe_cmpR (op_eqD0 (hu16 hr)) (pv 5) pe_dnewK (nomark _)) (pe_one (pe_cmpR op_eq (pe_meth0 (pv 3) T.cAir T.me_flying (F_flying.mono (by decide)) hr B_flying .nil passN) pe_int (nomark _)))))))))))))), ?_⟩
    have hsz : (2000000 : Nat) ≤ sizeLine := by decide
    refine ⟨_, rfl, l, ns, 0, rfl, hl, by decide, fun c0 => ⟨c0, rfl, fun p r m hp r0 m0 m1 => ?_⟩⟩
    have s1 : Same H (upd H p (.lst [.int r, .int 0, .int m])) := (Same.refl H).new hp
    refine ⟨_, rfl, p, 6, r, 0, m, rfl, by decide, by decide, upd_same, r0, by decide, by decide, m0, m1, fun d1 r1 k1 d10 d11 hr1 hk1 hk1' => ⟨_, _, rfl, rfl, ?_⟩⟩
    have s2 := s1.put (o := .lst [.int r1, .int k1, .int m]) hp
    generalize upd (upd H p (.lst [.int r, .int 0, .int m])) p (.lst [.int r1, .int k1, .int m]) = H1 at *
    have la0 : 1 ≤ 1 + d1 := by omega
    have la1 : 1 + d1 ≤ 6 := by omega
    dsimp only
    generalize 1 + d1 = late at *
    refine ⟨_, rfl, fun x dx hx hdx ndx => ?_⟩
    refine ⟨x, dx, late, rfl, la0, la1, upd_same, (upd_ne ndx).trans upd_same, Ne.symm ndx, fun d H2 hd2 hA2 m2 => ⟨rfl, ?_⟩⟩
    have s3 : Same H1 H2 := fun z o w => m2 _ _ (fun c => by rw [List.mem_singleton.mp c, hx] at w; cases w) (by rw [upd_ne (fun c => by rw [c, hx] at w; cases w), upd_ne (fun c => by rw [c, hdx] at w; cases w)]; exact w)
    have own1 : ∀ z ∈ ownA x dx d [], H1 z = none := fun z hz => by
      have hz' : z = x ∨ z = dx ∨ z = d := by simpa [ownA, ownB] using hz
      rcases hz' with rfl | rfl | rfl
      · exact hx
      · exact hdx
      · have nx : z ≠ x := fun c => by rw [c, upd_same] at hd2; cases hd2
        rw [upd_ne nx] at hd2
        have nd : z ≠ dx := fun c => by rw [c, upd_same] at hd2; cases hd2
        rwa [upd_ne nd] at hd2
    refine fun y dy hy hdy ndy => ?_
    refine ⟨y, dy, 1, rfl, by decide, by decide, upd_same, (upd_ne ndy).trans upd_same, Ne.symm ndy, fun dd H3 hdd3 hB3 m3 => ⟨rfl, ?_⟩⟩
    have s4 : Same H2 H3 := fun z o w => m3 _ _ (fun c => by rw [List.mem_singleton.mp c, hy] at w; cases w) (by rw [upd_ne (fun c => by rw [c, hy] at w; cases w), upd_ne (fun c => by rw [c, hdy] at w; cases w)]; exact w)
    have own2 : ∀ z ∈ ownA y dy dd [], H2 z = none := fun z hz => by
      have hz' : z = y ∨ z = dy ∨ z = dd := by simpa [ownA, ownB] using hz
      rcases hz' with rfl | rfl | rfl
      · exact hy
      · exact hdy
      · have nx : z ≠ y := fun c => by rw [c, upd_same] at hdd3; cases hdd3
        rw [upd_ne nx] at hdd3
        have nd : z ≠ dy := fun c => by rw [c, upd_same] at hdd3; cases hdd3
        rwa [upd_ne nd] at hdd3
    have hA3 := hA2.mods (S := []) (Mods.same s4) fun y _ w => by cases w
    have fw0 : Few 0 [] := ⟨Nat.le_refl _, fun b hb => by cases hb⟩
    refine ⟨_, rfl, x, dx, [("late", .int late), ("asked", .int 0), ("coming", .ref d)], rfl, hA3.at_, rfl, ?_⟩
    refine ⟨x, dx, d, late, 0, [], 0, rfl, hA3, fw0, by decide, fun H4 s5 => ⟨rfl, _, rfl, iteNN rfl ?_⟩⟩
    refine fun e he => ?_
    have s6 : Same H4 (upd H4 e (.dK [])) := (Same.refl H4).new he
    have ee : (upd H4 e (.dK [])) e = some (.dK []) := upd_same
    generalize upd H4 e (.dK []) = H5 at *
    have sH : Same H H5 := (((s2.trans s3).trans s4).trans s5).trans s6
    have hA5 := hA3.mods (S := []) (Mods.same (s5.trans s6)) fun y _ w => by cases w
    have hB5 := hB3.mods (S := []) (Mods.same (s5.trans s6)) fun y _ w => by cases w
    obtain ⟨as, eas, _, asl⟩ := cut_ints ns (some 1) none
    refine ⟨_, rfl, _, rfl, l, _, rfl, sH.seq hl, fun qq hqq => ?_⟩
    rw [eas]
    have s7 : Same H5 (upd H5 qq (.lst (as.map V.int))) := (Same.refl H5).new hqq
    have eq : (upd H5 qq (.lst (as.map V.int))) qq = some (.lst (as.map V.int)) := upd_same
    generalize upd H5 qq (.lst (as.map V.int)) = H6 at *
    refine ⟨qq, rfl, ⟨_, SqL.of eq⟩, ?_⟩
    have hA4 := hA3.mods (S := []) (Mods.same s5) fun y _ w => by cases w
    have hB4 := hB3.mods (S := []) (Mods.same s5) fun y _ w => by cases w
    have no5 : ∀ {z : Addr} {o : HO}, H5 z = some o → z ≠ qq := fun w c => by rw [c, hqq] at w; cases w
    have W0 : Whole t.Air H6 x dx d e y dy dd qq late 0 [] [] [] 0 := by
      refine ⟨hA5.mods (S := []) (Mods.same s7) fun y _ w => (by cases w), ⟨s7 _ _ ee, fun b hb => (by cases hb), fun b hb => (by cases hb), by simp [ownB], by simp⟩, ⟨0, hB5.mods (S := []) (Mods.same s7) fun y _ w => (by cases w)⟩, fun z hz w => ?_, fun z hz w => ?_, fun z hz w => ?_, fun w => ?_, fun w => ?_, fun w => ?_, rfl, fw0, fw0, fw0, fun k hk => (by cases hk)⟩
      · have hz' : z = e := by simpa [ownB] using hz
        obtain ⟨o, c⟩ := hA4.has z w; rw [hz', he] at c; cases c
      · obtain ⟨o, c⟩ := hA2.has z w; rw [own2 z hz] at c; cases c
      · have hz' : z = e := by simpa [ownB] using w
        obtain ⟨o, c⟩ := hB4.has z hz; rw [hz', he] at c; cases c
      · obtain ⟨o, c⟩ := hA5.has qq w; rw [hqq] at c; cases c
      · have hz' : qq = e := by simpa [ownB] using w
        rw [hz', ee] at hqq; cases hqq
      · obtain ⟨o, c⟩ := hB5.has qq w; rw [hqq] at c; cases c
    refine for_list (K := K) (a := qq) (xs := as.map V.int) (fun i σ H' => ∃ (bs es b2 : List Bx) (asked : Int) (v1 v7 v8 : Option V), σ = [some (.ref l), v1, some (.int late), some (.ref x), some (.ref y), some (.ref e), some (.int (i : Nat)), v7, v8] ∧ Whole t.Air H' x dx d e y dy dd qq late asked bs es b2 (6 * i) ∧ H' qq = some (.lst (as.map V.int)) ∧ 0 ≤ asked ∧ asked ≤ ((i : Nat) : Int) ∧ (((i : Nat) : Int) = asked + 1 ∨ bs = []) ∧ (∀ k ∈ b2.map (·.1), k ≤ ((i : Nat) : Int)) ∧ lkA (ctB b2) ((i : Nat) : Int) = if i = 0 then [] else [List.replicate 24 (((i : Nat) : Int) % 97)])
      ⟨[], [], [], 0, _, none, none, rfl, W0, eq, by decide, by decide, .inr rfl, fun k hk => (by cases hk), rfl⟩ (fun i σ H' _ ⟨_, _, _, _, _, _, _, _, _, hq, _⟩ => SqL.of hq) ?_ ?_
    · rintro i v σ Ha hv ⟨bs, es, b2, asked, v1, v7, v8, rfl, W, hq, as0, as1, hti, kb2, hlk⟩
      obtain ⟨c, rfl⟩ := cell_of hv
      have hi63 : i < 63 := by
        have := (List.getElem?_eq_some_iff.mp hv).1
        rw [List.length_map] at this; omega
      refine ⟨_, rfl, c, rfl, fun p r m hp r0 m0 m1 => ?_⟩
      have sb : Same Ha (upd Ha p (.lst [.int r, .int 0, .int m])) := (Same.refl Ha).new hp
      have ep : (upd Ha p (.lst [.int r, .int 0, .int m])) p = some (.lst [.int r, .int 0, .int m]) := upd_same
      generalize upd Ha p (.lst [.int r, .int 0, .int m]) = Hb at *
      have hAb := W.a1.mods (S := []) (Mods.same sb) fun y _ w => by cases w
      have hEb := W.du.mods (S := []) (Mods.same sb) fun y _ w => by cases w
      obtain ⟨as2, hBa⟩ := W.a2
      have hBb := hBa.mods (S := []) (Mods.same sb) fun y _ w => by cases w
      have pno : ∀ {z : Addr} {o : HO}, Ha z = some o → z ≠ p := fun w c => by rw [c, hp] at w; cases w
      have pA : p ∉ ownA x dx d bs := fun w => by obtain ⟨o, c⟩ := W.a1.has p w; rw [hp] at c; cases c
      have pE : p ∉ ownB e es := fun w => by obtain ⟨o, c⟩ := W.du.has p w; rw [hp] at c; cases c
      have pB : p ∉ ownA y dy dd b2 := fun w => by obtain ⟨o, c⟩ := hBa.has p w; rw [hp] at c; cases c
      refine ⟨_, rfl, _, rfl, _, rfl, ?_⟩
      refine ⟨x, dx, d, e, late, asked, (i : Nat), bs, es, 6 * i, rfl, hAb, hEb, W.d12, W.ct, hti, W.f1, W.f2, by omega, fun Hc hAc hEc mc => ⟨true, rfl, iteF ?_⟩⟩
      have xA : x ∈ ownA x dx d bs := List.mem_cons_self
      have dA : d ∈ ownA x dx d bs := List.mem_cons_of_mem _ (List.mem_cons_of_mem _ List.mem_cons_self)
      have eE : e ∈ ownB e es := List.mem_cons_self
      have n3 : ∀ {z : Addr}, z ∉ ownA x dx d bs → z ∉ ownB e es → z ∉ [x, d, e] := fun h1 h2 w => by
        rcases List.mem_cons.mp w with w | w
        · exact h1 (w ▸ xA)
        · rcases List.mem_cons.mp w with w | w
          · exact h1 (w ▸ dA)
          · exact h2 ((List.mem_singleton.mp w) ▸ eE)
      have hBc := hBb.mods mc fun z hz => n3 (W.d13 z hz) (W.d23 z hz)
      have hpc := mc _ _ (n3 pA pE) ep
      have hqc := mc _ _ (n3 W.q1 W.q2) (sb _ _ hq)
      refine ⟨_, rfl, y, dy, [("late", .int 1), ("asked", .int as2), ("coming", .ref dd)], rfl, hBc.at_, rfl, _, rfl, ?_⟩
      refine ⟨y, dy, dd, 1, as2, (i : Nat), b2, 6 * i, rfl, hBc, W.f3, by omega, fun Hd rr rs hBd td hrs md => ?_⟩
      refine ⟨_, rfl, _, _, rfl, rfl, (by show (0 : Int) < 97; decide), by show 1 ≤ sizeLine; decide, fun z1 hz1 => ?_⟩
      refine ⟨z1, 24, _, rfl, rfl, upd_same, by decide, by decide, by show 1 * 24 ≤ sizeLine; decide, fun z2 hz2 => ?_⟩
      refine ⟨by show 1 ≤ sizeLine; decide, fun z3 hz3 => ⟨_, rfl, _, rfl, z3, _, rfl, SqL.of upd_same, fun z4 hz4 => ?_⟩⟩
      dsimp only at hz2 hz3 hz4 ⊢
      rw [rep_ints] at hz3 hz4 ⊢
      rw [cut_some]
      have sh : Same Hd (upd (upd (upd (upd Hd z1 (.lst [V.int (((i : Nat) : Int) % 97)])) z2 (.lst ((List.replicate 24 (((i : Nat) : Int) % 97)).map V.int))) z3 (.lst [V.ref z2])) z4 (.lst (if i = 0 then [] else [V.ref z2]))) := ((((Same.refl Hd).new hz1).new hz2).new hz3).new hz4
      have eh2 : (upd (upd (upd (upd Hd z1 (.lst [V.int (((i : Nat) : Int) % 97)])) z2 (.lst ((List.replicate 24 (((i : Nat) : Int) % 97)).map V.int))) z3 (.lst [V.ref z2])) z4 (.lst (if i = 0 then [] else [V.ref z2]))) z2 = some (.lst ((List.replicate 24 (((i : Nat) : Int) % 97)).map V.int)) := ((Same.refl _).new hz3).new hz4 _ _ upd_same
      have eh4 : (upd (upd (upd (upd Hd z1 (.lst [V.int (((i : Nat) : Int) % 97)])) z2 (.lst ((List.replicate 24 (((i : Nat) : Int) % 97)).map V.int))) z3 (.lst [V.ref z2])) z4 (.lst (if i = 0 then [] else [V.ref z2]))) z4 = some (.lst ((if i = 0 then [] else [(z2, List.replicate 24 (((i : Nat) : Int) % 97))] : List (Addr × List Int)).map fun c => V.ref c.1)) := by
        rw [upd_same]; by_cases z : i = 0 <;> simp [z]
      generalize upd (upd (upd (upd Hd z1 (.lst [V.int (((i : Nat) : Int) % 97)])) z2 (.lst ((List.replicate 24 (((i : Nat) : Int) % 97)).map V.int))) z3 (.lst [V.ref z2])) z4 (.lst (if i = 0 then [] else [V.ref z2])) = Hh at *
      have ers : (if i = 0 then [] else [(z2, List.replicate 24 (((i : Nat) : Int) % 97))] : List (Addr × List Int)).map (·.2) = rs.map (·.2) := by
        rw [hrs, hlk]; by_cases z : i = 0 <;> simp [z]
      have elen := congrArg List.length ers
      rw [List.length_map, List.length_map] at elen
      refine ⟨rr, z4, _, _, rfl, rfl, SqL.of (sh _ _ td.at_), SqL.of eh4, .inl ⟨by rw [List.length_map, List.length_map]; exact elen.symm, like_cells (fun c hc => sh _ _ (td.cs c hc).1) (fun c hc => ?_) ers, false, rfl, iteF ?_⟩⟩
      · by_cases z : i = 0
        · rw [if_pos z] at hc; cases hc
        · rw [if_neg z] at hc; rw [List.mem_singleton.mp hc]; exact eh2
      have hBh := hBd.mods (S := []) (Mods.same sh) fun y _ w => by cases w
      refine ⟨_, rfl, y, dy, [("late", .int 1), ("asked", .int (i : Nat)), ("coming", .ref dd)], rfl, hBh.at_, rfl, ?_⟩
      refine ⟨_, rfl, _, _, rfl, rfl, _, _, rfl, rfl, (by show (0 : Int) < 97; decide), by show 1 ≤ sizeLine; decide, fun w1 hw1 => ?_⟩
      refine ⟨w1, 24, _, rfl, rfl, upd_same, by decide, by decide, by show 1 * 24 ≤ sizeLine; decide, fun w2 hw2 => ?_⟩
      dsimp only at hw2 ⊢
      rw [rep_ints]
      have si := ((Same.refl Hh).new hw1).new (o := .lst ((List.replicate 24 ((((i : Nat) : Int) + 1) % 97)).map V.int)) hw2
      have ew : (upd (upd Hh w1 (.lst [V.int ((((i : Nat) : Int) + 1) % 97)])) w2 (.lst ((List.replicate 24 ((((i : Nat) : Int) + 1) % 97)).map V.int))) w2 = some (.lst ((List.replicate 24 ((((i : Nat) : Int) + 1) % 97)).map V.int)) := upd_same
      have fw2 : Hh w2 = none := ((Same.refl Hh).new hw1).free hw2
      generalize upd (upd Hh w1 (.lst [V.int ((((i : Nat) : Int) + 1) % 97)])) w2 (.lst ((List.replicate 24 ((((i : Nat) : Int) + 1) % 97)).map V.int)) = Hi at *
      refine in_cons ?_
      refine gv_A (K := K) (d := 1) (fun H Q h => h) fun af Hk sk hf => ⟨_, rfl, ?_⟩
      have hBk := hBh.mods (S := []) (Mods.same (si.trans sk)) fun y _ w => by cases w
      have nsr : IsRow 24 (List.replicate 24 ((((i : Nat) : Int) + 1) % 97)) := ⟨by rw [List.length_replicate]; rfl, fun n hn => by rw [List.eq_of_mem_replicate hn]; omega⟩
      have gA : GoodF 1 (fA 1) := ⟨by show 1 ≤ 3; decide, fun k hk => ⟨by show (1 : Int) ≤ 1; decide, by show (1 : Int) ≤ 1; decide⟩, fun k hk => ⟨by show 0 ≤ 4; decide, fun j hj => absurd hj (Nat.not_lt_zero _), fun j hj => absurd hj (Nat.not_lt_zero _)⟩⟩
      have f3 : Few (6 * i) (b2.filter fun b => decide (((i : Nat) : Int) ≤ b.1)) := ⟨Nat.le_trans (List.length_filter_le _ _) W.f3.n, fun b hb => W.f3.c b (List.mem_filter.mp hb).1⟩
      refine ⟨y, dy, dd, w2, af, 1, (i : Nat), (i : Nat), _, List.replicate 24 ((((i : Nat) : Int) + 1) % 97), fA 1, 6 * i, rfl, hBk, by decide, by decide, SqL.of (sk _ _ ew), (fun w => by obtain ⟨o, c⟩ := hBh.has w2 w; rw [fw2] at c; cases c), fun n hn => (by have := nsr.2 n hn; exact small_abs (by omega) (by omega)), hf, ?_, f3, by omega, fun z => absurd nsr z, fun _ z => absurd gA z, fun _ _ Hl b3 hBl hctl ml ownl fewl => ?_⟩
      · exact ⟨by show 1 ≤ 1000; decide, fun k hk => one_abs, fun k hk => ⟨by show 0 ≤ 1000; decide, fun j hj => absurd hj (Nat.not_lt_zero _)⟩⟩
      -- where all stands now
      have yB : y ∈ ownA y dy dd b2 := List.mem_cons_self
      have ddB : dd ∈ ownA y dy dd b2 := List.mem_cons_of_mem _ (List.mem_cons_of_mem _ List.mem_cons_self)
      have n2 : ∀ {z : Addr}, z ∉ ownA y dy dd b2 → z ∉ [y, dd] := fun h w => by
        rcases List.mem_cons.mp w with w | w
        · exact h (w ▸ yB)
        · exact h ((List.mem_singleton.mp w) ▸ ddB)
      have n4 : ∀ {z : Addr}, z ∉ ownA y dy dd b2 → z ∉ ownA y dy dd (b2.filter fun b => decide (((i : Nat) : Int) ≤ b.1)) := fun h w => h (ownA_filter _ _ w)
      have toL : ∀ {z : Addr} {o : HO}, z ∉ ownA y dy dd b2 → Hc z = some o → Hl z = some o := fun h w => ml _ _ (n4 h) (sk _ _ (si _ _ (sh _ _ (md _ _ (n2 h) w))))
      have mL : Mods (ownA y dy dd b2) Hc Hl := fun z o h w => toL h w
      have hAl := hAc.mods mL fun z hz w => W.d13 z w (ownA_filter _ z hz)
      have hEl := hEc.mods mL fun z hz w => W.d23 z w (own_filter _ z hz)
      have hpl := toL pB hpc
      have hql := toL W.q3 hqc
      have newB : ∀ z ∈ ownA y dy dd b3, z ∈ ownA y dy dd b2 ∨ Hk z = none := fun z hz => (ownl z hz).imp (ownA_filter _ z) id
      have cK : ∀ {z : Addr} {o : HO}, z ∉ ownA y dy dd b2 → Hc z = some o → Hk z ≠ none := fun h w c => by
        rw [sk _ _ (si _ _ (sh _ _ (md _ _ (n2 h) w)))] at c; cases c
      have pB3 : p ∉ ownA y dy dd b3 := fun w => (newB p w).elim pB fun h => cK pB hpc h
      have qB3 : qq ∉ ownA y dy dd b3 := fun w => (newB qq w).elim W.q3 fun h => cK W.q3 hqc h
      have b3A : ∀ z ∈ ownA y dy dd b3, z ∉ ownA x dx d (bs.filter fun b => decide (((i : Nat) : Int) ≤ b.1)) := fun z hz w => by
        have w' := ownA_filter _ z w
        have zB : z ∉ ownA y dy dd b2 := fun h => W.d13 z h w'
        obtain ⟨o, c⟩ := hAc.has z w
        exact (newB z hz).elim zB fun h => cK zB c h
      have b3E : ∀ z ∈ ownA y dy dd b3, z ∉ ownB e (es.filter fun b => decide (b.1 ≠ ((i : Nat) : Int))) := fun z hz w => by
        have w' := own_filter _ z w
        have zB : z ∉ ownA y dy dd b2 := fun h => W.d23 z h w'
        obtain ⟨o, c⟩ := hEc.has z w
        exact (newB z hz).elim zB fun h => cK zB c h
      have hct3 : ctB b3 = putA (ctB (b2.filter fun b => decide (((i : Nat) : Int) ≤ b.1))) (((i : Nat) : Int) + 1) (List.replicate 24 ((((i : Nat) : Int) + 1) % 97)) := hctl
      have kno : (((i : Nat) : Int) + 1) ∉ (ctB (b2.filter fun b => decide (((i : Nat) : Int) ≤ b.1))).map (·.1) := fun w => by
        rw [ct_keys] at w
        have := kb2 _ ((List.Sublist.map _ List.filter_sublist).subset w)
        omega
      have lk3 : lkA (ctB b3) (((i + 1 : Nat)) : Int) = [List.replicate 24 ((((i + 1 : Nat)) : Int) % 97)] := by
        rw [hct3, show (((i + 1 : Nat)) : Int) = ((i : Nat) : Int) + 1 by omega]; exact lk_new kno _
      have kb3 : ∀ k ∈ b3.map (·.1), k ≤ (((i + 1 : Nat)) : Int) := fun k hk => by
        rw [← ct_keys, hct3] at hk
        rcases put_keys' k hk with h | h
        · rw [ct_keys] at h
          have := kb2 _ ((List.Sublist.map _ List.filter_sublist).subset h)
          omega
        · omega
      -- the turns of this tick
      refine ⟨_, rfl, p, 2, r, 0, m, rfl, by decide, by decide, hpl, r0, by decide, by decide, m0, m1, fun dg r2 k2 d0 d1 hr2 hk2 hk2' => ⟨_, _, rfl, rfl, _, rfl, by omega, by omega, ?_⟩⟩
      have mM : Mods [p] Hl (upd Hl p (.lst [.int r2, .int k2, .int m])) := fun z o h w => by rw [upd_ne (by simpa using h)]; exact w
      have epm : (upd Hl p (.lst [.int r2, .int k2, .int m])) p = some (.lst [.int r2, .int k2, .int m]) := upd_same
      generalize upd Hl p (.lst [.int r2, .int k2, .int m]) = Hm at *
      have nqp : qq ≠ p := pno hq
      have pAf : p ∉ ownA x dx d (bs.filter fun b => decide (((i : Nat) : Int) ≤ b.1)) := fun w => pA (ownA_filter _ p w)
      have pEf : p ∉ ownB e (es.filter fun b => decide (b.1 ≠ ((i : Nat) : Int))) := fun w => pE (own_filter _ p w)
      refine for_range (lo := 0) (n := (1 + dg).toNat) (fun j σ H' => ∃ (bs' es' : List Bx) (r' k' : Int) (v8 : Option V), σ = [some (.ref l), some (.ref p), some (.int late), some (.ref x), some (.ref y), some (.ref e), some (.int (i : Nat)), some (.int c), v8] ∧ Gst t.Air H' x dx d e p late (i : Nat) bs' es' (6 * i + 3 * j) r' k' m ∧ p ∉ ownA x dx d bs' ∧ p ∉ ownB e es' ∧ k' ≤ 2 + 200 * ((j : Nat) : Int) ∧ AirAt t.Air H' y dy dd 1 (i : Nat) b3 ∧
          (∀ z ∈ ownA y dy dd b3, z ∉ ownA x dx d bs' ∧ z ∉ ownB e es') ∧ qq ∉ ownA x dx d bs' ∧ qq ∉ ownB e es' ∧ H' qq = some (.lst (as.map V.int)) ∧ ∀ k ∈ bs'.map (·.1), k ≤ ((i : Nat) : Int) + 6) ?_ ?_ ?_
      · refine ⟨_, _, r2, k2, _, rfl, ⟨hAl.mods mM fun z hz w => pAf ((List.mem_singleton.mp w) ▸ hz), hEl.mods mM fun z hz w => pEf ((List.mem_singleton.mp w) ▸ hz), fun z hz w => W.d12 z (own_filter _ z hz) (ownA_filter _ z w), ct_came W.ct hti, W.f1.filter _, W.f2.filter _, epm, hr2, by omega, m0, m1⟩, pAf, pEf, by omega, hBl.mods mM fun z hz w => pB3 ((List.mem_singleton.mp w) ▸ hz), fun z hz => ⟨b3A z hz, b3E z hz⟩, fun w => W.q1 (ownA_filter _ qq w), fun w => W.q2 (own_filter _ qq w), mM _ _ (by simpa using nqp) hql, fun k hk => ?_⟩
        have := W.ky k ((List.Sublist.map _ List.filter_sublist).subset hk)
        omega
      · rintro j σ Hn hj ⟨bs', es', r', k', v8, rfl, g, pA', pE', hk', hBn, apB, qA, qE, hqn, kyn⟩
        refine ⟨_, rfl, _, rfl, _, rfl, _, rfl, _, rfl, ?_⟩
        refine ⟨x, dx, d, e, p, late, (i : Nat), bs', es', 6 * i + 3 * j, r', k', m, rfl, g, pA', pE', la0, la1, by omega, by omega, by omega, by omega, fun Ho bs'' es'' r'' k'' g2 hk2 mo own1 own2 pA2 pE2 kk => ⟨true, rfl, iteF ?_⟩⟩
        have zS : ∀ z, z ≠ p → z ∉ ownA x dx d bs' → z ∉ ownB e es' → z ∉ p :: (ownA x dx d bs' ++ ownB e es') := fun z h1 h2 h3 w => by
          rcases List.mem_cons.mp w with w | w
          · exact h1 w
          · exact (List.mem_append.mp w).elim h2 h3
        have zB : ∀ z ∈ ownA y dy dd b3, z ∉ p :: (ownA x dx d bs' ++ ownB e es') := fun z hz => zS z (fun c => pB3 (c ▸ hz)) (apB z hz).1 (apB z hz).2
        have zQ := zS qq nqp qA qE
        refine ⟨bs'', es'', r'', k'', _, rfl, g2, pA2, pE2, by omega, hBn.mods mo zB, fun z hz => ⟨fun w => ?_, fun w => ?_⟩, fun w => ?_, fun w => ?_, mo _ _ zQ hqn, fun k hk => ?_⟩
        · obtain ⟨o, c⟩ := hBn.has z hz
          exact (own1 z w).elim (zB z hz) fun h => by rw [h] at c; cases c
        · obtain ⟨o, c⟩ := hBn.has z hz
          exact (own2 z w).elim (zB z hz) fun h => by rw [h] at c; cases c
        · exact (own1 qq w).elim zQ fun h => by rw [h] at hqn; cases hqn
        · exact (own2 qq w).elim zQ fun h => by rw [h] at hqn; cases hqn
        · exact (kk k hk).elim (kyn k) id
      · rintro σ Hn ⟨bs', es', r', k', v8, rfl, g, pA', pE', hk', hBn, apB, qA, qE, hqn, kyn⟩
        have hN : 6 * i + 3 * (1 + dg).toNat ≤ 6 * (i + 1) := by omega
        refine ⟨_, rfl, _, _, rfl, rfl, ?_⟩
        exact ⟨bs', es', b3, (i : Nat), _, _, _, rfl, ⟨g.air, g.due, ⟨_, hBn⟩, g.dis, fun z hz => (apB z hz).1, fun z hz => (apB z hz).2, qA, qE, qB3, g.ct, g.fb.up hN, g.fe.up hN, fewl.up (by omega), kyn⟩, hqn, by omega, by omega, .inl (by omega), kb3, lk3⟩
    · rintro σ Ha ⟨bs, es, b2, asked, v1, v7, v8, rfl, W, hq, as0, as1, hti, kb2, hlk⟩
      generalize hn : (as.map V.int).length = n at *
      have hn63 : n ≤ 63 := by rw [← hn, List.length_map]; omega
      refine ⟨10, rfl, by decide, by decide, ?_⟩
      refine for_range (lo := 0) (n := (10 : Int).toNat) (fun j σ H' => ∃ (bs' es' : List Bx) (asked' : Int) (v8 : Option V), σ = [some (.ref l), v1, some (.int late), some (.ref x), some (.ref y), some (.ref e), some (.int (n : Nat)), v7, v8] ∧ AirAt t.Air H' x dx d late asked' bs' ∧ DAt H' e es' ∧ (∀ z ∈ ownB e es', z ∉ ownA x dx d bs') ∧ CtOk bs' es' asked' ∧ (((n + j : Nat) : Int) = asked' + 1 ∨ bs' = []) ∧ (j = 10 → asked' = ((n : Nat) : Int) + 9) ∧ Few (6 * n) bs' ∧ Few (6 * n) es' ∧ ∀ k ∈ bs'.map (·.1), k ≤ ((n : Nat) : Int) + 6)
        ⟨bs, es, asked, _, rfl, W.a1, W.du, W.d12, W.ct, hti, fun h => (by cases h), W.f1, W.f2, fun k hk => (by have := W.ky k hk; omega)⟩ ?_ ?_
      · rintro j σ Hb hj ⟨bs', es', asked', v8, rfl, hA, hE, dis, hct, ht, _, fb, fe, kyb⟩
        have hj' : j < 10 := hj
        refine ⟨_, rfl, _, rfl, _, rfl, _, _, rfl, rfl, _, rfl, ?_⟩
        have et : ((n : Nat) : Int) + (0 + ((j : Nat) : Int)) = ((n + j : Nat) : Int) := by omega
        dsimp only
        rw [et]
        refine ⟨x, dx, d, e, late, asked', _, bs', es', 6 * n, rfl, hA, hE, dis, hct, ht, fb, fe, by omega, fun Hc hAc hEc mc => ⟨true, rfl, iteF ?_⟩⟩
        refine ⟨_, _, _, _, rfl, hAc, hEc, fun z hz w => dis z (own_filter _ z hz) (ownA_filter _ z w), ct_came hct ht, .inl (by omega), fun h => by omega, fb.filter _, fe.filter _, fun k hk => kyb k ((List.Sublist.map _ List.filter_sublist).subset hk)⟩
      · rintro σ Hb ⟨bs', es', asked', v8, rfl, hA, hE, dis, hct, ht, h10, fb, fe, kyb⟩
        have ha := h10 rfl
        have ec : (ctB bs').filter (fun e => decide (asked' < e.1)) = [] := by
          rw [List.filter_eq_nil_iff]
          intro c hc
          have hk : c.1 ∈ bs'.map (·.1) := by rw [← ct_keys]; exact List.mem_map.mpr ⟨c, hc, rfl⟩
          have := kyb _ hk
          simp only [decide_eq_true_eq]
          omega
        have ee' : es' = [] := by
          have h1 : ctB es' = [] := hct.trans ec
          cases es' with
          | nil => rfl
          | cons a b => cases h1
        have ef : flyA (ctB bs') asked' = [] := by unfold flyA; rw [ec]; rfl
        subst ee'
        refine ⟨_, rfl, fun z hz => ⟨e, z, rfl, rfl, (upd_ne (ne_of_none hE.at_ hz)).trans hE.at_, upd_same, true, rfl, iteT ?_⟩⟩
        have hAz := hA.mods (S := []) (Mods.same ((Same.refl Hb).new (o := .dK []) hz)) fun y _ w => by cases w
        refine ⟨_, rfl, x, dx, [("late", .int late), ("asked", .int asked'), ("coming", .ref d)], rfl, hAz.at_, rfl, ?_⟩
        refine ⟨x, dx, d, late, asked', bs', 6 * n, rfl, hAz, fb, by omega, fun Hc sc => ⟨rfl, ?_⟩⟩
        rw [ef]
        exact q _
theorem law_all {f : Addr} {fd : FuncData} (T : Txt K mg t) (F : Fun K "law" "law" s_law f fd) (S_is_sign : Site K mg "is_sign" s_is_sign) (S_look_signs : Site K mg "look_signs" s_look_signs) (S_look_cell : Site K mg "look_cell" s_look_cell) (S_look_late : Site K mg "look_late" s_look_late) (S_look_turns : Site K mg "look_turns" s_look_turns) (S_look_fate : Site K mg "look_fate" s_look_fate) (S_turned : Site K mg "turned" s_turned)
    (S__law_cell : Site K mg "_law_cell" s__law_cell) (S__law_pot : Site K mg "_law_pot" s__law_pot) (S__law_take : Site K mg "_law_take" s__law_take) (S__law_whole : Site K mg "_law_whole" s__law_whole) (S__law_turns : Site K mg "_law_turns" s__law_turns) (S__law_fate : Site K mg "_law_fate" s__law_fate) (S__law_turned : Site K mg "_law_turned" s__law_turned) (S__law_bad_cell : Site K mg "_law_bad_cell" s__law_bad_cell)
    (S__law_bad_fate : Site K mg "_law_bad_fate" s__law_bad_fate) (S__law_refused : Site K mg "_law_refused" s__law_refused) (S__law_given : Site K mg "_law_given" s__law_given) (S__law_came : Site K mg "_law_came" s__law_came) : FnOk P w K mg base (CX1 P w) 8 f fd ["script"] (spLaw K) := by
  obtain ⟨fi, Fi⟩ := T.fi
  obtain ⟨fg, Fg⟩ := T.f_give
  obtain ⟨fc, Fc⟩ := T.f_come
  obtain ⟨ff, Ff⟩ := T.f_flying
  have D_is_sign := ok_is_sign (P := P) (w := w) (base := base) S_is_sign T
  have D_look_signs := ok_look_signs S_look_signs T D_is_sign
  have D_look_cell := ok_look_cell S_look_cell T D_look_signs
  have D_look_late := ok_look_late (P := P) (w := w) (base := base) S_look_late T
  have D_look_turns := ok_look_turns (P := P) (w := w) (base := base) S_look_turns T
  have D_look_fate := ok_look_fate S_look_fate T D_look_turns
  have D_turned := ok_turned (P := P) (w := w) (base := base) S_turned T
  have D__law_cell := ok__law_cell (P := P) (w := w) (base := base) S__law_cell T
  have D__law_pot := ok__law_pot (P := P) (w := w) (base := base) S__law_pot T
  have D__law_take := ok__law_take (P := P) (w := w) (base := base) S__law_take
  have D__law_whole := ok__law_whole (P := P) (w := w) (base := base) S__law_whole T
  have D__law_turns := ok__law_turns S__law_turns T D__law_take
  have D__law_fate := ok__law_fate S__law_fate T D__law_take D__law_turns
  have D__law_turned := ok__law_turned (P := P) (w := w) (base := base) S__law_turned T
  have D__law_bad_cell := ok__law_bad_cell S__law_bad_cell T D__law_take
  have D__law_bad_fate := ok__law_bad_fate S__law_bad_fate T D__law_take
  obtain ⟨F_init, B_init⟩ := ok_init T Fi D_look_late
  obtain ⟨F_give, B_give⟩ := ok_give T Fg D_look_cell D_look_fate D_turned
  obtain ⟨F_come, B_come⟩ := ok_come (P := P) (w := w) (base := base) T Fc
  obtain ⟨F_flying, B_flying⟩ := ok_flying (P := P) (w := w) (base := base) T Ff
  have D__law_refused := ok__law_refused S__law_refused T F_give B_give
  have D__law_given := ok__law_given S__law_given T D__law_take D__law_fate D__law_turned D__law_bad_cell D__law_bad_fate D__law_refused F_give B_give F_flying B_flying
  have D__law_came := ok__law_came S__law_came T D__law_whole F_come B_come F_flying B_flying
  exact law_fn T F D__law_pot D__law_cell D__law_take D__law_came D__law_given F_init B_init F_give B_give F_come B_come F_flying B_flying
end
end K19
namespace K19
open PySem L2 PyProof.Rows
theorem txt_mk {K : PySem.W.Frag} {h : Heap} {mg : Str → Option Value} {a_Air a_BadCell a_BadFate a_BadMeasure a_PostError a_init a_m_give a_m_come a_m_flying : Addr} {tk_cMOST_ARRIVALS tk_cMOST_LATE tk_cMOST_TURNS tk_cPLACES tk_cSIGNS : Tok} {ioc : Value} {iod ian : Option Addr} {iosl : Array (Option Value)} {ikV idoc ipm icdv ict : Value} {oc_give : Value} {od_give an_give : Option Addr} {osl_give : Array (Option Value)} {kV_give doc_give pm_give cdv_give ct_give : Value} {oc_come : Value} {od_come an_come : Option Addr} {osl_come : Array (Option Value)} {kV_come doc_come pm_come cdv_come ct_come : Value} {oc_flying : Value} {od_flying an_flying : Option Addr} {osl_flying : Array (Option Value)} {kV_flying doc_flying pm_flying cdv_flying ct_flying : Value} (KX : K.In h) (G : h.Ns mainGlobals mg)
    (h_mAir : PySem.W.nsIn K mainGlobals "Air" = some (some (.ref a_Air)))
    (h_mBadCell : PySem.W.nsIn K mainGlobals "BadCell" = some (some (.ref a_BadCell)))
    (h_mBadFate : PySem.W.nsIn K mainGlobals "BadFate" = some (some (.ref a_BadFate)))
    (h_mBadMeasure : PySem.W.nsIn K mainGlobals "BadMeasure" = some (some (.ref a_BadMeasure)))
    (h_mPostError : PySem.W.nsIn K mainGlobals "PostError" = some (some (.ref a_PostError)))
    (h_cMOST_ARRIVALS : PySem.W.nsIn K mainGlobals "MOST_ARRIVALS" = some (some (.int 3 tk_cMOST_ARRIVALS)))
    (h_cMOST_LATE : PySem.W.nsIn K mainGlobals "MOST_LATE" = some (some (.int 6 tk_cMOST_LATE)))
    (h_cMOST_TURNS : PySem.W.nsIn K mainGlobals "MOST_TURNS" = some (some (.int 4 tk_cMOST_TURNS)))
    (h_cPLACES : PySem.W.nsIn K mainGlobals "PLACES" = some (some (.int 24 tk_cPLACES)))
    (h_cSIGNS : PySem.W.nsIn K mainGlobals "SIGNS" = some (some (.int 97 tk_cSIGNS)))
    (h_n_ValueError : PySem.W.nsIn K mainGlobals "ValueError" = some none)
    (h_n_abs : PySem.W.nsIn K mainGlobals "abs" = some none)
    (h_n_all : PySem.W.nsIn K mainGlobals "all" = some none)
    (h_n_bool : PySem.W.nsIn K mainGlobals "bool" = some none)
    (h_n_int : PySem.W.nsIn K mainGlobals "int" = some none)
    (h_n_isinstance : PySem.W.nsIn K mainGlobals "isinstance" = some none)
    (h_n_len : PySem.W.nsIn K mainGlobals "len" = some none)
    (h_n_list : PySem.W.nsIn K mainGlobals "list" = some none)
    (h_n_range : PySem.W.nsIn K mainGlobals "range" = some none)
    (h_n_sum : PySem.W.nsIn K mainGlobals "sum" = some none)
    (h_n_tuple : PySem.W.nsIn K mainGlobals "tuple" = some none)
    (h_xBadCell : PySem.W.excIn K a_BadCell [.type "ValueError", .type "Exception", .type "BaseException", .type "object"] "ValueError.__new__" = true)
    (h_eBadCell_ga : PySem.W.findIn K (.ref a_BadCell) "__getattribute__" = some (some (.builtin "BaseException.__getattribute__")))
    (h_eBadCell_nga : PySem.W.findIn K (.ref a_BadCell) "__getattr__" = some none)
    (h_eBadCell_at_ : PySem.W.findIn K (.ref a_BadCell) "__class__" = some (some (.builtin "object.__class__")))
    (h_eBadCell_cls : PySem.W.isClsIn K a_BadCell = true)
    (h_eBadCell_obj : PySem.W.mroIn K a_BadCell (.type "object") = some true)
    (h_eBadCell_base : PySem.W.subIn K (.ref a_BadCell) (.type "BaseException") = some true)
    (h_subBadCell_PostError : PySem.W.subIn K (.ref a_BadCell) (.ref a_PostError) = some true)
    (h_oneBadCell_BadCell : PySem.W.kitOne K (.ref a_BadCell) (.ref a_BadCell) = some true)
    (h_oneBadCell_BadFate : PySem.W.kitOne K (.ref a_BadCell) (.ref a_BadFate) = some false)
    (h_oneBadCell_ValueError : PySem.W.kitOne K (.ref a_BadCell) (.type "ValueError") = some true)
    (h_xBadFate : PySem.W.excIn K a_BadFate [.type "ValueError", .type "Exception", .type "BaseException", .type "object"] "ValueError.__new__" = true)
    (h_eBadFate_ga : PySem.W.findIn K (.ref a_BadFate) "__getattribute__" = some (some (.builtin "BaseException.__getattribute__")))
    (h_eBadFate_nga : PySem.W.findIn K (.ref a_BadFate) "__getattr__" = some none)
    (h_eBadFate_at_ : PySem.W.findIn K (.ref a_BadFate) "__class__" = some (some (.builtin "object.__class__")))
    (h_eBadFate_cls : PySem.W.isClsIn K a_BadFate = true)
    (h_eBadFate_obj : PySem.W.mroIn K a_BadFate (.type "object") = some true)
    (h_eBadFate_base : PySem.W.subIn K (.ref a_BadFate) (.type "BaseException") = some true)
    (h_subBadFate_PostError : PySem.W.subIn K (.ref a_BadFate) (.ref a_PostError) = some true)
    (h_oneBadFate_BadCell : PySem.W.kitOne K (.ref a_BadFate) (.ref a_BadCell) = some false)
    (h_oneBadFate_BadFate : PySem.W.kitOne K (.ref a_BadFate) (.ref a_BadFate) = some true)
    (h_oneBadFate_ValueError : PySem.W.kitOne K (.ref a_BadFate) (.type "ValueError") = some true)
    (h_xBadMeasure : PySem.W.excIn K a_BadMeasure [.type "ValueError", .type "Exception", .type "BaseException", .type "object"] "ValueError.__new__" = true)
    (h_eBadMeasure_ga : PySem.W.findIn K (.ref a_BadMeasure) "__getattribute__" = some (some (.builtin "BaseException.__getattribute__")))
    (h_eBadMeasure_nga : PySem.W.findIn K (.ref a_BadMeasure) "__getattr__" = some none)
    (h_eBadMeasure_at_ : PySem.W.findIn K (.ref a_BadMeasure) "__class__" = some (some (.builtin "object.__class__")))
    (h_eBadMeasure_cls : PySem.W.isClsIn K a_BadMeasure = true)
    (h_eBadMeasure_obj : PySem.W.mroIn K a_BadMeasure (.type "object") = some true)
    (h_eBadMeasure_base : PySem.W.subIn K (.ref a_BadMeasure) (.type "BaseException") = some true)
    (h_subBadMeasure_PostError : PySem.W.subIn K (.ref a_BadMeasure) (.ref a_PostError) = some true)
    (h_oneBadMeasure_BadCell : PySem.W.kitOne K (.ref a_BadMeasure) (.ref a_BadCell) = some false)
    (h_oneBadMeasure_BadFate : PySem.W.kitOne K (.ref a_BadMeasure) (.ref a_BadFate) = some false)
    (h_oneBadMeasure_ValueError : PySem.W.kitOne K (.ref a_BadMeasure) (.type "ValueError") = some true)
    (h_k_makes : PySem.W.makesIn K a_Air = true)
    (h_k_init : PySem.W.findIn K (.ref a_Air) "__init__" = some (some (.ref a_init)))
    (h_k_fn : PySem.W.isFn K (.ref a_init) = true)
    (h_k_kp : PySem.W.keepIn K (.ref a_Air) = true)
    (h_fi_l : K.lookup a_init = some ⟨ioc, iod, .func (PySem.W.fnOf "__init__" "Air.__init__" (defArgs s_init) (defBody s_init) (defScope s_init) .none ikV idoc ipm ian icdv ict), iosl⟩)
    (h_fi_c : PySem.W.codeIn K icdv "Air.__init__" = true)
    (h_fi_k : PySem.W.keepIn K (.ref a_init) = true)
    (h_c_pg : PySem.W.plainGet K a_Air Str.empty = true)
    (h_c_hd : PySem.W.hasDictIn K a_Air = true)
    (h_c_po : PySem.W.plainOver K a_Air = true)
    (h_c_sa : PySem.W.findIn K (.ref a_Air) "__setattr__" = some (some (.builtin "object.__setattr__")))
    (h_na_late : PySem.W.findIn K (.ref a_Air) "late" = some none)
    (h_na_asked : PySem.W.findIn K (.ref a_Air) "asked" = some none)
    (h_na_coming : PySem.W.findIn K (.ref a_Air) "coming" = some none)
    (h_me_give_at_ : PySem.W.findIn K (.ref a_Air) "give" = some (some (.ref a_m_give)))
    (h_me_give_fn : PySem.W.isFn K (.ref a_m_give) = true)
    (h_me_give_kp : PySem.W.keepIn K (.ref a_m_give) = true)
    (h_f_give_l : K.lookup a_m_give = some ⟨oc_give, od_give, .func (PySem.W.fnOf "give" "Air.give" (defArgs s_give) (defBody s_give) (defScope s_give) .none kV_give doc_give pm_give an_give cdv_give ct_give), osl_give⟩)
    (h_f_give_c : PySem.W.codeIn K cdv_give "Air.give" = true)
    (h_f_give_k : PySem.W.keepIn K (.ref a_m_give) = true)
    (h_me_come_at_ : PySem.W.findIn K (.ref a_Air) "come" = some (some (.ref a_m_come)))
    (h_me_come_fn : PySem.W.isFn K (.ref a_m_come) = true)
    (h_me_come_kp : PySem.W.keepIn K (.ref a_m_come) = true)
    (h_f_come_l : K.lookup a_m_come = some ⟨oc_come, od_come, .func (PySem.W.fnOf "come" "Air.come" (defArgs s_come) (defBody s_come) (defScope s_come) .none kV_come doc_come pm_come an_come cdv_come ct_come), osl_come⟩)
    (h_f_come_c : PySem.W.codeIn K cdv_come "Air.come" = true)
    (h_f_come_k : PySem.W.keepIn K (.ref a_m_come) = true)
    (h_me_flying_at_ : PySem.W.findIn K (.ref a_Air) "flying" = some (some (.ref a_m_flying)))
    (h_me_flying_fn : PySem.W.isFn K (.ref a_m_flying) = true)
    (h_me_flying_kp : PySem.W.keepIn K (.ref a_m_flying) = true)
    (h_f_flying_l : K.lookup a_m_flying = some ⟨oc_flying, od_flying, .func (PySem.W.fnOf "flying" "Air.flying" (defArgs s_flying) (defBody s_flying) (defScope s_flying) .none kV_flying doc_flying pm_flying an_flying cdv_flying ct_flying), osl_flying⟩)
    (h_f_flying_c : PySem.W.codeIn K cdv_flying "Air.flying" = true)
    (h_f_flying_k : PySem.W.keepIn K (.ref a_m_flying) = true)
    (h_catchPostError_ty : PySem.W.typeIn K (.ref a_PostError) = some (.type "type"))
    (h_catchPostError_cls : PySem.W.isClsIn K a_PostError = true)
    (h_catchPostError_base : PySem.W.subIn K (.ref a_PostError) (.type "BaseException") = some true)
    (h_isi_int_bool : PySem.W.kitOne K (.type "int") (.type "bool") = some false)
    (h_isi_int_int : PySem.W.kitOne K (.type "int") (.type "int") = some true)
    (h_isi_list_list : PySem.W.kitOne K (.type "list") (.type "list") = some true)
    : ∃ t, Txt K mg t := ⟨⟨a_Air, a_BadCell, a_BadFate, a_BadMeasure, a_PostError, a_init, a_m_give, a_m_come, a_m_flying⟩, ⟨⟨_, PySem.W.mg_of KX G h_cMOST_ARRIVALS⟩, ⟨_, PySem.W.mg_of KX G h_cMOST_LATE⟩, ⟨_, PySem.W.mg_of KX G h_cMOST_TURNS⟩, ⟨_, PySem.W.mg_of KX G h_cPLACES⟩, ⟨_, PySem.W.mg_of KX G h_cSIGNS⟩, PySem.W.mg_none_of KX G h_n_ValueError, PySem.W.mg_none_of KX G h_n_abs, PySem.W.mg_none_of KX G h_n_all, PySem.W.mg_none_of KX G h_n_bool, PySem.W.mg_none_of KX G h_n_int, PySem.W.mg_none_of KX G h_n_isinstance, PySem.W.mg_none_of KX G h_n_len, PySem.W.mg_none_of KX G h_n_list, PySem.W.mg_none_of KX G h_n_range, PySem.W.mg_none_of KX G h_n_sum, PySem.W.mg_none_of KX G h_n_tuple, PySem.W.mg_of KX G h_mAir, PySem.W.mg_of KX G h_mBadCell, PySem.W.mg_of KX G h_mBadFate, PySem.W.mg_of KX G h_mBadMeasure, PySem.W.mg_of KX G h_mPostError, h_xBadCell, ⟨h_eBadCell_ga, h_eBadCell_nga, h_eBadCell_at_, h_eBadCell_cls, h_eBadCell_obj, h_eBadCell_base⟩, h_subBadCell_PostError, h_oneBadCell_BadCell, h_oneBadCell_BadFate, h_oneBadCell_ValueError, h_xBadFate, ⟨h_eBadFate_ga, h_eBadFate_nga, h_eBadFate_at_, h_eBadFate_cls, h_eBadFate_obj, h_eBadFate_base⟩, h_subBadFate_PostError, h_oneBadFate_BadCell, h_oneBadFate_BadFate, h_oneBadFate_ValueError, h_xBadMeasure, ⟨h_eBadMeasure_ga, h_eBadMeasure_nga, h_eBadMeasure_at_, h_eBadMeasure_cls, h_eBadMeasure_obj, h_eBadMeasure_base⟩, h_subBadMeasure_PostError, h_oneBadMeasure_BadCell, h_oneBadMeasure_BadFate, h_oneBadMeasure_ValueError, ⟨h_k_makes, h_k_init, h_k_fn, h_k_kp⟩, ⟨_, fun_mk h_fi_l h_fi_c h_fi_k⟩, ⟨h_c_pg, h_c_hd, h_c_po, h_c_sa⟩, h_na_late, h_na_asked, h_na_coming, ⟨h_me_give_at_, h_me_give_fn, h_me_give_kp⟩, ⟨_, fun_mk h_f_give_l h_f_give_c h_f_give_k⟩, ⟨h_me_come_at_, h_me_come_fn, h_me_come_kp⟩, ⟨_, fun_mk h_f_come_l h_f_come_c h_f_come_k⟩, ⟨h_me_flying_at_, h_me_flying_fn, h_me_flying_kp⟩, ⟨_, fun_mk h_f_flying_l h_f_flying_c h_f_flying_k⟩, ⟨h_catchPostError_ty, h_catchPostError_cls, h_catchPostError_base⟩, h_isi_int_bool, h_isi_int_int, h_isi_list_list⟩⟩
end K19
open PySem PySem.W PyProof.Rows
set_option maxRecDepth 100000 in
set_option maxHeartbeats 0 in
theorem PySem.Challenge.cw_stormpost_k19_cells_in_the_air_holds : PySem.Challenge.rw_stormpost_k19_cells_in_the_air.Holds := by
  w_on; o_law; k_head; (case hw => w_witness2)
  k_fill
  refine L2.walk_ofS (l := PySem.Challenge.rw_stormpost_k19_cells_in_the_air) (k := 8) ⟨rfl, by decide, by decide⟩ rfl rfl (fun w h Y => PySem.W.kIn_of Y) ?F
  case F =>
    intro w mg fa h KX G hmg
    have S_is_sign : L2.Site (L2.KOf KX) mg "is_sign" K19.s_is_sign := by
      dsimp only [L2.KOf]
      refine' L2.Site.mk' KX G ?a ?l ?c ?k
      (case a => k_is); (case l => k_is); (case c => k_is); (case k => k_is)
    have S_look_signs : L2.Site (L2.KOf KX) mg "look_signs" K19.s_look_signs := by
      dsimp only [L2.KOf]
      refine' L2.Site.mk' KX G ?a ?l ?c ?k
      (case a => k_is); (case l => k_is); (case c => k_is); (case k => k_is)
    have S_look_cell : L2.Site (L2.KOf KX) mg "look_cell" K19.s_look_cell := by
      dsimp only [L2.KOf]
      refine' L2.Site.mk' KX G ?a ?l ?c ?k
      (case a => k_is); (case l => k_is); (case c => k_is); (case k => k_is)
    have S_look_late : L2.Site (L2.KOf KX) mg "look_late" K19.s_look_late := by
      dsimp only [L2.KOf]
      refine' L2.Site.mk' KX G ?a ?l ?c ?k
      (case a => k_is); (case l => k_is); (case c => k_is); (case k => k_is)
    have S_look_turns : L2.Site (L2.KOf KX) mg "look_turns" K19.s_look_turns := by
      dsimp only [L2.KOf]
      refine' L2.Site.mk' KX G ?a ?l ?c ?k
      (case a => k_is); (case l => k_is); (case c => k_is); (case k => k_is)
    have S_look_fate : L2.Site (L2.KOf KX) mg "look_fate" K19.s_look_fate := by
      dsimp only [L2.KOf]
      refine' L2.Site.mk' KX G ?a ?l ?c ?k
      (case a => k_is); (case l => k_is); (case c => k_is); (case k => k_is)
    have S_turned : L2.Site (L2.KOf KX) mg "turned" K19.s_turned := by
      dsimp only [L2.KOf]
      refine' L2.Site.mk' KX G ?a ?l ?c ?k
      (case a => k_is); (case l => k_is); (case c => k_is); (case k => k_is)
    have S__law_cell : L2.Site (L2.KOf KX) mg "_law_cell" K19.s__law_cell := by
      dsimp only [L2.KOf]
      refine' L2.Site.mk' KX G ?a ?l ?c ?k
      (case a => k_is); (case l => k_is); (case c => k_is); (case k => k_is)
    have S__law_pot : L2.Site (L2.KOf KX) mg "_law_pot" K19.s__law_pot := by
      dsimp only [L2.KOf]
      refine' L2.Site.mk' KX G ?a ?l ?c ?k
      (case a => k_is); (case l => k_is); (case c => k_is); (case k => k_is)
    have S__law_take : L2.Site (L2.KOf KX) mg "_law_take" K19.s__law_take := by
      dsimp only [L2.KOf]
      refine' L2.Site.mk' KX G ?a ?l ?c ?k
      (case a => k_is); (case l => k_is); (case c => k_is); (case k => k_is)
    have S__law_whole : L2.Site (L2.KOf KX) mg "_law_whole" K19.s__law_whole := by
      dsimp only [L2.KOf]
      refine' L2.Site.mk' KX G ?a ?l ?c ?k
      (case a => k_is); (case l => k_is); (case c => k_is); (case k => k_is)
    have S__law_turns : L2.Site (L2.KOf KX) mg "_law_turns" K19.s__law_turns := by
      dsimp only [L2.KOf]
      refine' L2.Site.mk' KX G ?a ?l ?c ?k
      (case a => k_is); (case l => k_is); (case c => k_is); (case k => k_is)
    have S__law_fate : L2.Site (L2.KOf KX) mg "_law_fate" K19.s__law_fate := by
      dsimp only [L2.KOf]
      refine' L2.Site.mk' KX G ?a ?l ?c ?k
      (case a => k_is); (case l => k_is); (case c => k_is); (case k => k_is)
    have S__law_turned : L2.Site (L2.KOf KX) mg "_law_turned" K19.s__law_turned := by
      dsimp only [L2.KOf]
      refine' L2.Site.mk' KX G ?a ?l ?c ?k
      (case a => k_is); (case l => k_is); (case c => k_is); (case k => k_is)
    have S__law_bad_cell : L2.Site (L2.KOf KX) mg "_law_bad_cell" K19.s__law_bad_cell := by
      dsimp only [L2.KOf]
      refine' L2.Site.mk' KX G ?a ?l ?c ?k
      (case a => k_is); (case l => k_is); (case c => k_is); (case k => k_is)
    have S__law_bad_fate : L2.Site (L2.KOf KX) mg "_law_bad_fate" K19.s__law_bad_fate := by
      dsimp only [L2.KOf]
      refine' L2.Site.mk' KX G ?a ?l ?c ?k
      (case a => k_is); (case l => k_is); (case c => k_is); (case k => k_is)
    have S__law_refused : L2.Site (L2.KOf KX) mg "_law_refused" K19.s__law_refused := by
      dsimp only [L2.KOf]
      refine' L2.Site.mk' KX G ?a ?l ?c ?k
      (case a => k_is); (case l => k_is); (case c => k_is); (case k => k_is)
    have S__law_given : L2.Site (L2.KOf KX) mg "_law_given" K19.s__law_given := by
      dsimp only [L2.KOf]
      refine' L2.Site.mk' KX G ?a ?l ?c ?k
      (case a => k_is); (case l => k_is); (case c => k_is); (case k => k_is)
    have S__law_came : L2.Site (L2.KOf KX) mg "_law_came" K19.s__law_came := by
      dsimp only [L2.KOf]
      refine' L2.Site.mk' KX G ?a ?l ?c ?k
      (case a => k_is); (case l => k_is); (case c => k_is); (case k => k_is)
    have S_law : L2.Site (L2.KOf KX) mg "law" K19.s_law := by
      dsimp only [L2.KOf]
      refine' L2.Site.mk' KX G ?a ?l ?c ?k
      (case a => k_is); (case l => k_is); (case c => k_is); (case k => k_is)
    have T : ∃ t, K19.Txt (L2.KOf KX) mg t := by
      dsimp only [L2.KOf]
      refine' K19.txt_mk KX G ?h_mAir ?h_mBadCell ?h_mBadFate ?h_mBadMeasure ?h_mPostError ?h_cMOST_ARRIVALS ?h_cMOST_LATE ?h_cMOST_TURNS ?h_cPLACES ?h_cSIGNS ?h_n_ValueError ?h_n_abs ?h_n_all ?h_n_bool ?h_n_int ?h_n_isinstance ?h_n_len ?h_n_list ?h_n_range ?h_n_sum ?h_n_tuple ?h_xBadCell ?h_eBadCell_ga ?h_eBadCell_nga ?h_eBadCell_at_ ?h_eBadCell_cls ?h_eBadCell_obj ?h_eBadCell_base ?h_subBadCell_PostError ?h_oneBadCell_BadCell ?h_oneBadCell_BadFate ?h_oneBadCell_ValueError ?h_xBadFate ?h_eBadFate_ga ?h_eBadFate_nga ?h_eBadFate_at_ ?h_eBadFate_cls ?h_eBadFate_obj ?h_eBadFate_base ?h_subBadFate_PostError ?h_oneBadFate_BadCell ?h_oneBadFate_BadFate ?h_oneBadFate_ValueError ?h_xBadMeasure ?h_eBadMeasure_ga ?h_eBadMeasure_nga ?h_eBadMeasure_at_ ?h_eBadMeasure_cls ?h_eBadMeasure_obj ?h_eBadMeasure_base ?h_subBadMeasure_PostError ?h_oneBadMeasure_BadCell ?h_oneBadMeasure_BadFate ?h_oneBadMeasure_ValueError ?h_k_makes ?h_k_init ?h_k_fn ?h_k_kp ?h_fi_l ?h_fi_c ?h_fi_k ?h_c_pg ?h_c_hd ?h_c_po ?h_c_sa ?h_na_late ?h_na_asked ?h_na_coming ?h_me_give_at_ ?h_me_give_fn ?h_me_give_kp ?h_f_give_l ?h_f_give_c ?h_f_give_k ?h_me_come_at_ ?h_me_come_fn ?h_me_come_kp ?h_f_come_l ?h_f_come_c ?h_f_come_k ?h_me_flying_at_ ?h_me_flying_fn ?h_me_flying_kp ?h_f_flying_l ?h_f_flying_c ?h_f_flying_k ?h_catchPostError_ty ?h_catchPostError_cls ?h_catchPostError_base ?h_isi_int_bool ?h_isi_int_int ?h_isi_list_list
      (case h_mAir => k_is)
      (case h_mBadCell => k_is)
      (case h_mBadFate => k_is)
      (case h_mBadMeasure => k_is)
      (case h_mPostError => k_is)
      (case h_cMOST_ARRIVALS => k_is)
      (case h_cMOST_LATE => k_is)
      (case h_cMOST_TURNS => k_is)
      (case h_cPLACES => k_is)
      (case h_cSIGNS => k_is)
      (case h_n_ValueError => k_is)
      (case h_n_abs => k_is)
      (case h_n_all => k_is)
      (case h_n_bool => k_is)
      (case h_n_int => k_is)
      (case h_n_isinstance => k_is)
      (case h_n_len => k_is)
      (case h_n_list => k_is)
      (case h_n_range => k_is)
      (case h_n_sum => k_is)
      (case h_n_tuple => k_is)
      (case h_xBadCell => k_exc)
      (case h_eBadCell_ga => k_is)
      (case h_eBadCell_nga => k_is)
      (case h_eBadCell_at_ => k_is)
      (case h_eBadCell_cls => k_is)
      (case h_eBadCell_obj => k_is)
      (case h_eBadCell_base => k_is)
      (case h_subBadCell_PostError => k_is)
      (case h_oneBadCell_BadCell => kit_is)
      (case h_oneBadCell_BadFate => kit_is)
      (case h_oneBadCell_ValueError => kit_is)
      (case h_xBadFate => k_exc)
      (case h_eBadFate_ga => k_is)
      (case h_eBadFate_nga => k_is)
      (case h_eBadFate_at_ => k_is)
      (case h_eBadFate_cls => k_is)
      (case h_eBadFate_obj => k_is)
      (case h_eBadFate_base => k_is)
      (case h_subBadFate_PostError => k_is)
      (case h_oneBadFate_BadCell => kit_is)
      (case h_oneBadFate_BadFate => kit_is)
      (case h_oneBadFate_ValueError => kit_is)
      (case h_xBadMeasure => k_exc)
      (case h_eBadMeasure_ga => k_is)
      (case h_eBadMeasure_nga => k_is)
      (case h_eBadMeasure_at_ => k_is)
      (case h_eBadMeasure_cls => k_is)
      (case h_eBadMeasure_obj => k_is)
      (case h_eBadMeasure_base => k_is)
      (case h_subBadMeasure_PostError => k_is)
      (case h_oneBadMeasure_BadCell => kit_is)
      (case h_oneBadMeasure_BadFate => kit_is)
      (case h_oneBadMeasure_ValueError => kit_is)
      (case h_k_makes => k_is)
      (case h_k_init => k_is)
      (case h_k_fn => k_is)
      (case h_k_kp => k_is)
      (case h_fi_l => k_is)
      (case h_fi_c => k_is)
      (case h_fi_k => k_is)
      (case h_c_pg => k_is)
      (case h_c_hd => k_is)
      (case h_c_po => k_is)
      (case h_c_sa => k_is)
      (case h_na_late => k_is)
      (case h_na_asked => k_is)
      (case h_na_coming => k_is)
      (case h_me_give_at_ => k_is)
      (case h_me_give_fn => k_is)
      (case h_me_give_kp => k_is)
      (case h_f_give_l => k_is)
      (case h_f_give_c => k_is)
      (case h_f_give_k => k_is)
      (case h_me_come_at_ => k_is)
      (case h_me_come_fn => k_is)
      (case h_me_come_kp => k_is)
      (case h_f_come_l => k_is)
      (case h_f_come_c => k_is)
      (case h_f_come_k => k_is)
      (case h_me_flying_at_ => k_is)
      (case h_me_flying_fn => k_is)
      (case h_me_flying_kp => k_is)
      (case h_f_flying_l => k_is)
      (case h_f_flying_c => k_is)
      (case h_f_flying_k => k_is)
      (case h_catchPostError_ty => k_is)
      (case h_catchPostError_cls => k_is)
      (case h_catchPostError_base => k_is)
      (case h_isi_int_bool => kit_is)
      (case h_isi_int_int => kit_is)
      (case h_isi_list_list => kit_is)
    obtain ⟨t, T⟩ := T
    exact L2.law_site S_law (fun _ _ _ _ _ _ us hl => match us, hl with | [_], _ => rfl) hmg fun f fd base F => K19.law_all T F S_is_sign S_look_signs S_look_cell S_look_late S_look_turns S_look_fate S_turned S__law_cell S__law_pot S__law_take S__law_whole S__law_turns S__law_fate S__law_turned S__law_bad_cell S__law_bad_fate S__law_refused S__law_given S__law_came
#print axioms PySem.Challenge.cw_stormpost_k19_cells_in_the_air_holds
