import PyProof.Rows.All
import Wide.All
import OpenK.AllK
import Wide.FinOn
import Lean
import PyProof.EqAt
import PyProof.EqKinds
import PyProof.TupleCall
import PySem.Challenge.RW_retrace_k03_worlds
set_option Elab.async false
set_option linter.all false
set_option maxRecDepth 100000
/-! THE HAND LAYER, for ints, bools, texts, own classes, LISTS and tuples (index, slices, in, append, pop ..), calls, loops. Paste it whole ahead of your own text; what your proof does not reach may be deleted. -/
namespace L2
open PySem PySem.Spec PyProof.Rows

/-- a key: an int or a str -/
abbrev Key := Sum Int Str
def keyIs : Key → Value → Bool
  | .inl k, v => Value.isInt k v
  | .inr x, v => Value.isStrOf x v
def keyH (w : World) : Key → Int
  | .inl k => hashInt k
  | .inr x => hashStr w x
theorem keyIs_shape : ∀ {k : Key} {v : Value}, keyIs k v = true → (∃ i t, k = Sum.inl i ∧ v = Value.int i t) ∨ (∃ x t, k = Sum.inr x ∧ v = Value.str x t)
  | .inl i, v, h => by
    obtain ⟨t, e⟩ := Value.isInt_shape (k := i) (v := v) h
    exact .inl ⟨i, t, rfl, e⟩
  | .inr x, v, h => by
    obtain ⟨t, e⟩ := Value.isStrOf_shape (x := x) (v := v) h
    exact .inr ⟨x, t, rfl, e⟩
theorem key_ll (a b : Int) : decide ((Sum.inl a : Key) = Sum.inl b) = (a == b) := by
  by_cases e : a = b
  · subst e; simp
  · have h : ¬ (Sum.inl a : Key) = Sum.inl b := fun q => e (Sum.inl.inj q)
    rw [decide_eq_false h]
    exact (beq_eq_false_iff_ne.mpr e).symm
theorem key_rr (a b : Str) : decide ((Sum.inr a : Key) = Sum.inr b) = decide (a = b) := by
  by_cases e : a = b
  · subst e; simp
  · have h : ¬ (Sum.inr a : Key) = Sum.inr b := fun q => e (Sum.inr.inj q)
    rw [decide_eq_false h, decide_eq_false e]
theorem key_lr (a : Int) (b : Str) : decide ((Sum.inl a : Key) = Sum.inr b) = false := decide_eq_false (fun q => nomatch q)
theorem key_rl (a : Str) (b : Int) : decide ((Sum.inr a : Key) = Sum.inl b) = false := decide_eq_false (fun q => nomatch q)

def mixKind (prog : Program) (w : World) : PySem.KeyKind prog w Key where
  is := keyIs
  hash := keyH w
  inj := fun v a b ha hb => by
    rcases keyIs_shape ha with ⟨i, t, rfl, rfl⟩ | ⟨x, t, rfl, rfl⟩
    · rcases keyIs_shape hb with ⟨j, u, rfl, e⟩ | ⟨y, u, rfl, e⟩
      · injection e with e1 _; rw [e1]
      · exact nomatch e
    · rcases keyIs_shape hb with ⟨j, u, rfl, e⟩ | ⟨y, u, rfl, e⟩
      · exact nomatch e
      · injection e with e1 _; rw [e1]
  byValue := fun k v h => by
    rcases keyIs_shape h with ⟨i, t, rfl, rfl⟩ | ⟨x, t, rfl, rfl⟩ <;> rfl
  pyHash := fun hv h => by
    rcases keyIs_shape hv with ⟨i, t, rfl, rfl⟩ | ⟨x, t, rfl, rfl⟩
    · exact wpAny_pyHash_int h
    · exact wpAny_pyHash_str h
  eqBool := fun hu hv h => by
    rcases keyIs_shape hu with ⟨i, t, rfl, rfl⟩ | ⟨x, t, rfl, rfl⟩
    · rcases keyIs_shape hv with ⟨j, u, rfl, rfl⟩ | ⟨y, u, rfl, rfl⟩
      · rw [key_ll] at h; exact wpAny_eqBool_int h
      · rw [key_lr] at h; exact SeqAt.EqAt.int_str i t y u _ _ _ _ h
    · rcases keyIs_shape hv with ⟨j, u, rfl, rfl⟩ | ⟨y, u, rfl, rfl⟩
      · rw [key_rl] at h; exact SeqAt.EqAt.str_int x t j u _ _ _ _ h
      · rw [key_rr] at h; exact wpAny_eqBool_str h
  «strs» := fun k x t v h => by
    rcases keyIs_shape h with ⟨i, u, rfl, e⟩ | ⟨y, u, rfl, e⟩
    · exact nomatch e
    · injection e with e1 _
      subst e1
      cases v <;> rfl

end L2

namespace L2
open PySem PySem.Spec PyProof.Rows

/-- a value, without the heap -/
inductive V where
  | non | bl (b : Bool) | int (i : Int) | str (x : Str) | byt (b : Array UInt8) | flt (b : UInt64) | ref (a : Addr) | ty (n : String)
  deriving DecidableEq

def RelV : V → Value → Prop
  | .non, u => u = Value.none
  | .bl b, u => u = Value.bool b
  | .int i, u => ∃ t, u = Value.int i t
  | .str x, u => ∃ t, u = Value.str x t
  | .byt b, u => ∃ t, u = Value.bytes b t
  | .flt b, u => ∃ t, u = Value.float b t
  | .ref a, u => u = Value.ref a
  | .ty n, u => u = Value.type n

abbrev Vals : List V → List Value → Prop := Paired RelV
theorem Vals.length {xs : List V} {us : List Value} (r : Vals xs us) : xs.length = us.length := Paired.length r
theorem Vals.get : ∀ {xs : List V} {us : List Value} {i : Nat} {x : V}, Vals xs us → xs[i]? = some x → ∃ u, us[i]? = some u ∧ RelV x u
  | _, _, _, _, .nil, e => by simp at e
  | _, _, 0, _, .cons r _, e => by simp at e; subst e; exact ⟨_, rfl, r⟩
  | _, _, i + 1, x, .cons _ t, e => by
    obtain ⟨u, h1, h2⟩ := Vals.get (i := i) (x := x) t (by simpa using e)
    exact ⟨u, by simpa using h1, h2⟩
theorem Vals.set {x : V} {u : Value} (r : RelV x u) : ∀ {xs : List V} {us : List Value} (i : Nat), Vals xs us → Vals (xs.set i x) (us.set i u)
  | _, _, _, .nil => .nil
  | _, _, 0, .cons _ t => .cons r t
  | _, _, i + 1, .cons q t => .cons q (Vals.set r i t)
theorem Vals.append : ∀ {xs ys : List V} {us ws : List Value}, Vals xs us → Vals ys ws → Vals (xs ++ ys) (us ++ ws)
  | _, _, _, _, .nil, s => s
  | _, _, _, _, .cons r t, s => .cons r (Vals.append t s)
theorem Vals.take : ∀ {xs : List V} {us : List Value} (n : Nat), Vals xs us → Vals (xs.take n) (us.take n)
  | _, _, 0, _ => .nil
  | _, _, _ + 1, .nil => .nil
  | _, _, n + 1, .cons r t => .cons r (Vals.take n t)
theorem Vals.drop : ∀ {xs : List V} {us : List Value} (n : Nat), Vals xs us → Vals (xs.drop n) (us.drop n)
  | _, _, 0, r => r
  | _, _, _ + 1, .nil => .nil
  | _, _, n + 1, .cons _ t => Vals.drop n t
theorem Vals.none_of : ∀ {xs : List V} {us : List Value} {i : Nat}, Vals xs us → xs[i]? = none → us[i]? = none := fun {xs us i} r e => by
  have h1 := r.length
  have h2 : xs.length ≤ i := List.getElem?_eq_none_iff.mp e
  exact List.getElem?_eq_none_iff.mpr (by omega)

def RelO : Option V → Option Value → Prop
  | some v, some u => RelV v u
  | none, none => True
  | _, _ => False
def KV {κ : Type} : List (κ × V) → List (κ × Value) → Prop := Paired fun (p : κ × V) (q : κ × Value) => p.1 = q.1 ∧ RelV p.2 q.2

/-- a key of a dict (00_mix): an int or a text -/
def kV : Key → V
  | .inl i => .int i
  | .inr x => .str x

/-- what stands at a tracked address -/
inductive HO where
  /-- a list -/
  | lst (xs : List V)
  /-- a tuple (never changes) -/
  | tup (xs : List V)
  /-- a dict whose keys are ints and texts; one whose keys are tuples of ints and texts (the empty one is both) -/
  | dK (kvs : List (Key × V)) | dT (kvs : List (List Key × V))
  /-- a set of ints: its members, its size -/
  | set (S : Int → Bool) (n : Nat)
  /-- an instance of the class at C, its dict at dx, its attributes -/
  | ins (C dx : Addr) (fs : List (Str × V))
  /-- the dict of the instance at x -/
  | own (x : Addr)
  /-- the dict of an exception -/
  | xd (fs : List (Str × V))
  /-- a bound method, f of x -/
  | met (f x : Addr)
  /-- a range object lo, lo + 1, .. below hi -/
  | rng (lo hi : Int)
  /-- a thing that is known to the object (the script; a dict while a loop walks it): read, never written while it is so -/
  | frz (o : Obj) (u : HO)
  /-- a code object's table -/
  | tbl (ps : Array Value)
  /-- any other thing, by what is true of its one object (a def of one's own: SetO a S n := HO.ext fun h => ..) -/
  | ext (φ : Heap → Prop)

abbrev Hp := Addr → Option HO
def upd (H : Hp) (a : Addr) (o : HO) : Hp := fun b => if b = a then some o else H b
theorem upd_same {H : Hp} {a : Addr} {o : HO} : upd H a o a = some o := by unfold upd; rw [if_pos rfl]
theorem upd_ne {H : Hp} {a b : Addr} {o : HO} (h : b ≠ a) : upd H a o b = H b := by unfold upd; rw [if_neg h]
/-- two objects of different content stand apart -/
theorem ne_of {H : Hp} {a b : Addr} {o u : HO} (h : H a = some o) (h' : H b = some u) (d : o ≠ u) : a ≠ b := by
  intro e; subst e; rw [h] at h'; exact d (Option.some.inj h')
theorem ne_of_none {H : Hp} {a b : Addr} {o : HO} (h : H a = some o) (h' : H b = none) : a ≠ b := by
  intro e; subst e; rw [h] at h'; cases h'

section
variable (P : Program) (w : World)
def ObjOk (H : Hp) (h : Heap) (a : Addr) : HO → Prop
  | .lst xs => xs.length ≤ sizeLine ∧ ∃ (its : List Value) (n : Nat), Vals xs its ∧ h.get? a = some { cls := .type "list", data := .seq its.toArray n }
  | .tup xs => xs.length ≤ sizeLine ∧ ∃ its : List Value, Vals xs its ∧ IsTup h a its.toArray
  | .dK kvs => kvs.length ≤ sizeLine ∧ (a == sysModules) = false ∧ ∃ vs, KV kvs vs ∧ h.DictOf (mixKind P w) a vs
  | .dT kvs => kvs.length ≤ sizeLine ∧ (a == sysModules) = false ∧ ∃ xs : List (List Key × Addr × Value),
      Paired (fun (p : List Key × V) (q : List Key × Addr × Value) => p.1 = q.1 ∧ H q.2.1 = some (.tup (p.1.map kV)) ∧ RelV p.2 q.2.2) kvs xs ∧
      ∃ o es ep, h.get? a = some o ∧ o.ExactDict ∧ o.data = .dict es ep ∧ es.toList = xs.map (entryOfKey (tupleKind (mixKind P w))) ∧ (xs.map (·.1)).Nodup
  | .set S n => h.SetOf (intKind P w) a S n
  | .ins C dx fs => H dx = some (.own a) ∧ fs.length ≤ 1000 ∧ dx ≠ a ∧ h.get? a = some (PySem.W.instObj C dx) ∧
      ∃ mA, h.Ns1 dx mA ∧ (∀ f, RelO (fs.lookup f) (mA f)) ∧ PySem.Within mA (fs.map (·.1))
  | .own _ => ∃ o, h.get? a = some o
  | .xd fs => ∃ mA, h.Ns1 a mA ∧ ∀ f, RelO (fs.lookup f) (mA f)
  | .rng lo hi => ∃ t u v, h.get? a = some { cls := .type "range", data := .fields #[.int lo t, .int hi u, .int 1 v] }
  | .frz o u => h.get? a = some o ∧ ObjOk H h a u
  | .tbl ps => h.get? a = some { cls := .none, data := .fields ps }
  | .met f x => h.get? a = some (PySem.W.methodObj (.ref f) (.ref x))
  | .ext φ => φ h ∧ (∃ o, h.get? a = some o) ∧ ∀ h1 h2 : Heap, φ h1 → (∀ o, h1.get? a = some o → h2.get? a = some o) → φ h2
/-- the abstract heap is held -/
def HOk (H : Hp) (h : Heap) : Prop := ∀ a o, H a = some o → ObjOk P w H h a o
end

section
variable {P : Program} {w : World} {H H' : Hp} {h h' : Heap} {a : Addr} {o : HO}
theorem ObjOk.lt (x : ObjOk P w H h a o) : a < h.objs.size := by
  cases o with
  | lst xs => obtain ⟨_, _, _, _, e⟩ := x; exact Heap.lt_size e
  | tup xs => obtain ⟨_, _, _, p⟩ := x; exact p.lt
  | dK kvs => obtain ⟨_, _, _, _, o, _, _, e, _⟩ := x; exact Heap.lt_size e
  | dT kvs => obtain ⟨_, _, _, _, o, _, _, e, _⟩ := x; exact Heap.lt_size e
  | set S n => obtain ⟨o, _, _, _, e, _⟩ := x; exact Heap.lt_size e
  | ins C dx fs => obtain ⟨_, _, _, e, _⟩ := x; exact Heap.lt_size e
  | own y => obtain ⟨_, e⟩ := x; exact Heap.lt_size e
  | xd fs => obtain ⟨_, ⟨_, _, _, e, _⟩, _⟩ := x; exact Heap.lt_size e
  | rng lo hi => obtain ⟨_, _, _, e⟩ := x; exact Heap.lt_size e
  | frz ob u => obtain ⟨e, _⟩ := x; exact Heap.lt_size e
  | tbl ps => exact Heap.lt_size (show h.get? a = some _ from x)
  | met f y => exact Heap.lt_size (show h.get? a = some _ from x)
  | ext φ => obtain ⟨_, ⟨_, e⟩, _⟩ := x; exact Heap.lt_size e
theorem Paired.mapP {α β : Type} {F G : α → β → Prop} : ∀ {l₁ : List α} {l₂ : List β}, Paired F l₁ l₂ → (∀ a b, F a b → G a b) → Paired G l₁ l₂
  | _, _, .nil, _ => .nil
  | _, _, .cons r t, f => .cons (f _ _ r) (Paired.mapP t f)
/-- what an object's description leans on: its own object, its own dict, the tuples -/
theorem ObjOk.stay (x : ObjOk P w H h a o) (k : ∀ b u, (b = a ∨ H b = some (.own a)) → h.get? b = some u → h'.get? b = some u)
    (ho : ∀ b, H b = some (.own a) → H' b = some (.own a)) (ht : ∀ b xs, H b = some (.tup xs) → H' b = some (.tup xs)) : ObjOk P w H' h' a o := by
  induction o with
  | lst xs => obtain ⟨z, its, n, r, e⟩ := x; exact ⟨z, its, n, r, k _ _ (.inl rfl) e⟩
  | tup xs => obtain ⟨z, its, r, ob, e, c⟩ := x; exact ⟨z, its, r, ob, k _ _ (.inl rfl) e, c⟩
  | dK kvs => obtain ⟨z, y, vs, r, ob, es, ep, e, c⟩ := x; exact ⟨z, y, vs, r, ob, es, ep, k _ _ (.inl rfl) e, c⟩
  | dT kvs =>
    obtain ⟨z, y, xs, r, ob, es, ep, e, c⟩ := x
    exact ⟨z, y, xs, Paired.mapP r fun p q z => ⟨z.1, ht _ _ z.2.1, z.2.2⟩, ob, es, ep, k _ _ (.inl rfl) e, c⟩
  | set S n => obtain ⟨ob, es, ep, t, e, c⟩ := x; exact ⟨ob, es, ep, t, k _ _ (.inl rfl) e, c⟩
  | ins C dx fs =>
    obtain ⟨d, z, ne, e, mA, ⟨od, es, ep, e2, c⟩, r⟩ := x
    exact ⟨ho _ d, z, ne, k _ _ (.inl rfl) e, mA, ⟨od, es, ep, k _ _ (.inr d) e2, c⟩, r⟩
  | own y => obtain ⟨ob, e⟩ := x; exact ⟨ob, k _ _ (.inl rfl) e⟩
  | xd fs => obtain ⟨mA, ⟨od, es, ep, e, c⟩, r⟩ := x; exact ⟨mA, ⟨od, es, ep, k _ _ (.inl rfl) e, c⟩, r⟩
  | rng lo hi => obtain ⟨t, u, v, e⟩ := x; exact ⟨t, u, v, k _ _ (.inl rfl) e⟩
  | frz ob u ih => obtain ⟨e, q⟩ := x; exact ⟨k _ _ (.inl rfl) e, ih q⟩
  | tbl ps =>
    have e : h.get? a = some { cls := .none, data := .fields ps } := x
    show h'.get? a = some { cls := .none, data := .fields ps }
    exact k a _ (.inl rfl) e
  | met f y =>
    have e : h.get? a = some (PySem.W.methodObj (.ref f) (.ref y)) := x
    show h'.get? a = some (PySem.W.methodObj (.ref f) (.ref y))
    exact k a _ (.inl rfl) e
  | ext φ => obtain ⟨p, ⟨o, e⟩, st⟩ := x; exact ⟨st _ _ p fun o q => k _ _ (.inl rfl) q, ⟨o, k _ _ (.inl rfl) e⟩, st⟩
theorem HOk.lt (x : HOk P w H h) (e : H a = some o) : a < h.objs.size := (x a o e).lt
theorem HOk.fresh (x : HOk P w H h) (e : h.objs.size ≤ a) : H a = none := by
  cases q : H a with
  | none => rfl
  | some u => exact absurd (Nat.lt_of_lt_of_le (x.lt q) e) (Nat.lt_irrefl _)
/-- every object of the heap is kept -/
theorem HOk.kept (x : HOk P w H h) (k : ∀ b u, h.get? b = some u → h'.get? b = some u) : HOk P w H h' := fun a o e =>
  (x a o e).stay (fun b u _ q => k b u q) (fun _ q => q) fun _ _ q => q
/-- a new object is laid and tracked -/
theorem HOk.laid (x : HOk P w H h) (k : ∀ b u, h.get? b = some u → h'.get? b = some u) (hp : h.objs.size ≤ a) (new : ObjOk P w (upd H a o) h' a o) : HOk P w (upd H a o) h' := fun b u e => by
  have hn := x.fresh hp
  by_cases hb : b = a
  · subst hb; rw [upd_same] at e; cases e; exact new
  · rw [upd_ne hb] at e
    exact (x b u e).stay (fun c v _ q => k c v q) (fun c q => by rw [upd_ne (ne_of_none q hn)]; exact q) fun c xs q => by rw [upd_ne (ne_of_none q hn)]; exact q
end

/-- what may be read as u: it is u, or a known u -/
def Rd (H : Hp) (a : Addr) (u : HO) : Prop := H a = some u ∨ ∃ o, H a = some (.frz o u)
theorem Rd.of {H : Hp} {a : Addr} {u : HO} (h : H a = some u) : Rd H a u := .inl h
theorem Rd.ok {P : Program} {w : World} {H : Hp} {h : Heap} {a : Addr} {u : HO} (r : Rd H a u) (x : HOk P w H h) : ObjOk P w H h a u := by
  rcases r with r | ⟨o, r⟩
  · exact x a u r
  · obtain ⟨_, q⟩ := x a _ r
    exact q
/-- what may be written -/
def Mut : Option HO → Prop
  | some (.lst _) => True
  | some (.dK _) => True
  | some (.dT _) => True
  | some (.set _ _) => True
  | some (.ins _ _ _) => True
  | some (.ext _) => True
  | _ => False
section
variable {P : Program} {w : World} {H : Hp} {h h' : Heap} {x e : Addr} {o' : HO}
/-- the object at e is changed: x itself, or the dict of the instance x -/
theorem HOk.write (ok : HOk P w H h) (mu : Mut (H x)) (he : e = x ∨ H e = some (.own x)) (k : ∀ b u, b ≠ e → h.get? b = some u → h'.get? b = some u) (heo : ∃ u, h'.get? e = some u)
    (new : ObjOk P w (upd H x o') h' x o') : HOk P w (upd H x o') h' := fun b u q => by
  have nown : ∀ c y, H c = some (.own y) → c ≠ x := fun c y r z => by subst z; rw [r] at mu; exact mu
  have ntup : ∀ c xs, H c = some (.tup xs) → c ≠ x := fun c xs r z => by subst z; rw [r] at mu; exact mu
  by_cases hb : b = x
  · subst hb; rw [upd_same] at q; cases q; exact new
  · rw [upd_ne hb] at q
    by_cases hbe : b = e
    · have q' : H b = some (.own x) := by
        rcases he with z | z
        · exact absurd (hbe.trans z) hb
        · rw [hbe]; exact z
      rw [q] at q'; cases q'
      obtain ⟨v, hv⟩ := heo
      exact ⟨v, by rw [hbe]; exact hv⟩
    · refine (ok b u q).stay (fun c v hc r => k c v ?_ r) (fun c r => by rw [upd_ne (nown c b r)]; exact r) fun c xs r => by rw [upd_ne (ntup c xs r)]; exact r
      rcases hc with rfl | hc
      · exact hbe
      · rintro rfl
        rcases he with z | z
        · exact nown c b hc z
        · rw [hc] at z; cases z; exact hb rfl
end

/-! ### kept unless tracked; of the frames at fs (the callers') the slots may change (an exception that passes writes there); of the records at ex (iterators) nothing is said -/
structure Un (fs ex : List Addr) (H H' : Hp) (h h' : Heap) : Prop where
  keep : ∀ b o, h.get? b = some o → H b = none → b ∉ fs → b ∉ ex → h'.get? b = some o
  slot : ∀ b o, h.get? b = some o → H b = none → b ∈ fs → b ∉ ex → ∃ sl, h'.get? b = some { o with slots := sl }
  free : ∀ b o, h.get? b = some o → H b = none → b ∉ ex → H' b = none
  there : ∀ b o, h.get? b = some o → b ∉ ex → ∃ o', h'.get? b = some o'
  tups : ∀ b xs, H b = some (.tup xs) → H' b = some (.tup xs)
  frzs : ∀ b o u, H b = some (.frz o u) → H' b = some (.frz o u)
  tbls : ∀ b ps, H b = some (.tbl ps) → ∃ more, H' b = some (.tbl (ps ++ more))
section
variable {fs fs' ex ex' : List Addr} {H H1 H2 : Hp} {h h1 h2 h' : Heap} {a x e : Addr} {o : HO}
theorem Un.any (u : Un fs ex H H1 h h1) {b : Addr} {ob : Obj} (q : h.get? b = some ob) (n : H b = none) (hx : b ∉ ex) : ∃ sl, h1.get? b = some { ob with slots := sl } := by
  by_cases hb : b ∈ fs
  · exact u.slot b ob q n hb hx
  · exact ⟨ob.slots, u.keep b ob q n hb hx⟩
theorem Un.trans (a : Un fs ex H H1 h h1) (b : Un fs ex H1 H2 h1 h2) : Un fs ex H H2 h h2 where
  keep := fun c ob q n hc hx => b.keep c ob (a.keep c ob q n hc hx) (a.free c ob q n hx) hc hx
  slot := fun c ob q n hc hx => by
    obtain ⟨sl, e1⟩ := a.slot c ob q n hc hx
    obtain ⟨sl', e2⟩ := b.slot c _ e1 (a.free c ob q n hx) hc hx
    exact ⟨sl', e2⟩
  free := fun c ob q n hx => by
    obtain ⟨o', e1⟩ := a.there c ob q hx
    exact b.free c o' e1 (a.free c ob q n hx) hx
  there := fun c ob q hx => by
    obtain ⟨o', e1⟩ := a.there c ob q hx
    exact b.there c o' e1 hx
  tups := fun c xs q => b.tups c xs (a.tups c xs q)
  frzs := fun c ob xs q => b.frzs c ob xs (a.frzs c ob xs q)
  tbls := fun c ps q => by
    obtain ⟨m1, e1⟩ := a.tbls c ps q
    obtain ⟨m2, e2⟩ := b.tbls c _ e1
    exact ⟨m1 ++ m2, by rw [e2, Array.append_assoc]⟩
theorem Un.kept (k : ∀ b u, h.get? b = some u → h'.get? b = some u) : Un fs ex H H h h' :=
  ⟨fun b ob q _ _ _ => k b ob q, fun b ob q _ _ _ => ⟨ob.slots, k b ob q⟩, fun _ _ _ n _ => n, fun b ob q _ => ⟨ob, k b ob q⟩, fun _ _ q => q, fun _ _ _ q => q, fun _ ps q => ⟨#[], by rw [q]; simp⟩⟩
theorem Un.refl : Un fs ex H H h h := Un.kept fun _ _ q => q
theorem Un.laid (k : ∀ b u, h.get? b = some u → h'.get? b = some u) (hp : h.objs.size ≤ a) (hn : H a = none) : Un fs ex H (upd H a o) h h' where
  keep := fun b u q _ _ _ => k b u q
  slot := fun b u q _ _ _ => ⟨u.slots, k b u q⟩
  free := fun b u q n _ => by rw [upd_ne (Nat.ne_of_lt (Nat.lt_of_lt_of_le (Heap.lt_size q) hp))]; exact n
  there := fun b u q _ => ⟨u, k b u q⟩
  tups := fun b xs q => by rw [upd_ne (ne_of_none q hn)]; exact q
  frzs := fun b u xs q => by rw [upd_ne (ne_of_none q hn)]; exact q
  tbls := fun b ps q => ⟨#[], by rw [upd_ne (ne_of_none q hn), q]; simp⟩
theorem Un.write (mu : Mut (H x)) (he : e = x ∨ H e = some (.own x)) (k : ∀ b u, b ≠ e → h.get? b = some u → h'.get? b = some u) (heo : ∃ u, h'.get? e = some u) : Un fs ex H (upd H x o) h h' := by
  have hx : ∀ b, H b = none → b ≠ x := fun b n z => by subst z; rw [n] at mu; exact mu
  have hb : ∀ b, H b = none → b ≠ e := fun b n z => by
    subst z
    rcases he with r | r
    · exact hx b n r
    · rw [n] at r; cases r
  have hm : ∀ b u, H b = some u → ¬ Mut (some u) → b ≠ x := fun b u q nm z => by subst z; rw [q] at mu; exact nm mu
  refine ⟨fun b u q n _ _ => k b u (hb b n) q, fun b u q n _ _ => ⟨u.slots, k b u (hb b n) q⟩, fun b u q n _ => by rw [upd_ne (hx b n)]; exact n, fun b u q _ => ?_,
    fun b xs q => by rw [upd_ne (hm b _ q fun z => z)]; exact q, fun b u xs q => by rw [upd_ne (hm b _ q fun z => z)]; exact q, fun b ps q => ⟨#[], by rw [upd_ne (hm b _ q fun z => z), q]; simp⟩⟩
  by_cases hbe : b = e
  · subst hbe; exact heo
  · exact ⟨u, k b u hbe q⟩
theorem Un.mono (u : Un fs ex H H1 h h1) (hs : ∀ b ∈ fs, b ∈ fs') (hx : ∀ b ∈ ex, b ∈ ex') : Un fs' ex' H H1 h h1 :=
  ⟨fun b ob q n hb he => u.keep b ob q n (fun z => hb (hs b z)) fun z => he (hx b z), fun _ _ q n _ he => u.any q n fun z => he (hx _ z), fun b ob q n he => u.free b ob q n fun z => he (hx b z), fun b ob q he => u.there b ob q fun z => he (hx b z), u.tups, u.frzs, u.tbls⟩
end

/-! ### the heap without what is tracked -/
def trk (h : Heap) (H : Hp) : List Addr := (List.range h.objs.size).filter fun a => (H a).isSome
def hidT (h : Heap) (H : Hp) : Heap := PySem.W.hideAll h (trk h H)
theorem hidT_size (h : Heap) (H : Hp) : (hidT h H).objs.size = h.objs.size := PySem.W.hideAll_size _ _
theorem hidT_get {h : Heap} {H : Hp} {b : Addr} {o : Obj} (e : h.get? b = some o) (n : H b = none) : (hidT h H).get? b = some o :=
  PySem.W.hideAll_get _ e fun hm => by
    have q : (H b).isSome = true := (List.mem_filter.mp hm).2
    rw [n] at q; simp at q
theorem of_hidT {h : Heap} {H : Hp} {b : Addr} {o : Obj} (e : (hidT h H).get? b = some o) : h.get? b = some o ∧ H b = none := by
  have e' : h.get? b = some o := PySem.W.of_hideAll (trk h H) e
  refine ⟨e', ?_⟩
  cases q : H b with
  | none => rfl
  | some x =>
    have hm : b ∈ trk h H := List.mem_filter.mpr ⟨List.mem_range.mpr (Heap.lt_size e'), by simp [q]⟩
    have z : (hidT h H).get? b = none := PySem.W.hideAll_none (trk h H) hm
    rw [z] at e; cases e

/-! ### OpenK's ledger, filled with every new object but one -/
def allNews (g h : Heap) (L : Addr) : List (Addr × Obj) := (List.range h.objs.size).filterMap fun a => if a = L ∨ (g.get? a).isSome = true then none else (h.get? a).map fun o => (a, o)
def rest (g h : Heap) (L d : Addr) : List (Addr × Obj) := (allNews g h L).filter fun p => decide (p.1 ≠ d)
end L2

namespace L2
open PySem PySem.Spec PyProof.Rows

/-- the module's facts, over the base: the heap at the law's entry without what is tracked there -/
structure Mod (K : PySem.W.Frag) (mg : Str → Option Value) (base : Heap) : Prop where
  kin : K.In base
  glob : base.Ns mainGlobals mg
  blt : ∃ mb, base.Ns builtinsNs mb ∧ ∀ x : Str, x ≠ "__name__" → mb x = bootBuiltins x
  nolimit : base.NoLimit

/-- the context: a def's body (or a comprehension's block) running. base: fixed through the whole law; s₀, H₀: the entry; outer: the frames whose slots others may change (a def's callers); stack: all frames that run;
   ex: iterators that were made ahead of the entry and are walked here (a comprehension's); fn: the names whose cells were made at the entry (a def: all; a comprehension's block: its own); calm: not within an except suite; pn: pins that every state bears; xe: what is wanted of an exception that leaves the code -/
structure Cx where
  prog : Program
  w : World
  K : PySem.W.Frag
  mg : Str → Option Value
  base : Heap
  A : Around
  N : List Str
  s₀ : Shared
  H₀ : Hp
  env : Env
  outer : List Env
  stack : List Env
  ex : List Addr
  fn : Str → Bool
  calm : Bool
  pn : List (Addr × Obj)
  xe : Value → Shared → Prop
/-- the callers' frames -/
def frs (l : List Env) : List Addr := l.filterMap (·.frame)
abbrev Cx.fs (X : Cx) : List Addr := frs X.outer

def Vis (sc : Scope) (x : Str) : Prop := sc.names.lookup x = some .local ∨ sc.names.lookup x = some .cell ∨ sc.names.lookup x = some .free
def Loc (sc : Scope) (x : Str) : Prop := sc.names.lookup x = some .local ∨ sc.names.lookup x = some .cell
def Look (env : Env) (h : Heap) (m : Str → Option Value) (x : Str) (u : Value) : Prop :=
  (env.kindOf x = some .local ∧ m x = some u) ∨ ((env.kindOf x = some .cell ∨ env.kindOf x = some .free) ∧ ∃ c, env.cells.lookup x = some c ∧ h.IsCell c (some u))

structure Cx.Ok (X : Cx) : Prop where
  mod : Mod X.K X.mg X.base
  kind : X.env.scope.kind = .function
  glob : X.env.globals = mainGlobals
  blt : X.env.builtins = builtinsNs
  above : X.s₀.heap.objs.size ≤ X.env.locals
  inj : ∀ x y c, X.env.cells.lookup x = some c → X.env.cells.lookup y = some c → x = y
  has : ∀ x, (X.env.kindOf x = some .cell ∨ X.env.kindOf x = some .free) → ∃ c, X.env.cells.lookup x = some c
  cab : ∀ x c, X.fn x = true → X.env.cells.lookup x = some c → X.s₀.heap.objs.size ≤ c
  hd : X.calm = true → X.A.handled = none
  frames : X.A.frames = some X.stack
  stk : X.stack = X.outer ∨ (X.stack = X.env :: X.outer ∧ X.env.frame = some X.env.locals)
  exf : ∀ b ∈ X.ex, b ≠ X.env.locals ∧ ∀ x c, X.env.cells.lookup x = some c → c ≠ b
  bs : ∀ b o, X.base.get? b = some o → X.s₀.heap.get? b = some o ∧ X.H₀ b = none
  bsz : X.base.objs.size ≤ X.s₀.heap.objs.size
  noex : ∀ b o, X.base.get? b = some o → b ∉ X.ex
  exfs : ∀ b ∈ X.ex, b ∉ X.fs
  funs : X.s₀.heap.FunFrames X.base X.outer
  frf : ∀ b ∈ X.fs, X.H₀ b = none

structure Inv (X : Cx) (pins : List (Addr × Obj)) (σ : List (Option V)) (H : Hp) (s : Shared) : Prop where
  ok : X.Ok
  os : s.os = X.s₀.os
  bare : AllBare s.gens
  base : Un X.fs X.ex X.H₀ H X.s₀.heap s.heap
  loc : ∃ m, s.heap.Ns X.env.locals m ∧ ∀ (i : Nat) (x : Str) (v : V), X.N[i]? = some x → σ[i]? = some (some v) → Vis X.env.scope x → ∃ u, RelV v u ∧ Look X.env s.heap m x u
  cell : ∀ x c, X.env.cells.lookup x = some c → ∃ v, s.heap.IsCell c v
  free : H X.env.locals = none
  freeC : ∀ x c, X.env.cells.lookup x = some c → H c = none
  pin : ∀ p ∈ X.pn ++ pins, s.heap.get? p.1 = some p.2 ∧ H p.1 = none ∧ p.1 ≠ X.env.locals ∧ p.1 ∉ X.fs ∧ ∀ v, p.2.data ≠ .cell v
  hok : HOk X.prog X.w H s.heap
  len : σ.length = X.N.length

section
variable {X : Cx} {pins : List (Addr × Obj)} {σ : List (Option V)} {H H' : Hp} {s : Shared} {h' : Heap}

theorem Cx.Ok.nofr (ok : X.Ok) {b : Addr} {o : Obj} (e : X.base.get? b = some o) : b ∉ X.fs := fun hb => by
  have := (ok.funs.mem hb).1
  rw [e] at this; cases this
theorem Inv.bs (I : Inv X pins σ H s) : ∀ b o, X.base.get? b = some o → s.heap.get? b = some o ∧ H b = none := fun b o e =>
  ⟨I.base.keep b o (I.ok.bs b o e).1 (I.ok.bs b o e).2 (I.ok.nofr e) (I.ok.noex b o e), I.base.free b o (I.ok.bs b o e).1 (I.ok.bs b o e).2 (I.ok.noex b o e)⟩
theorem Inv.bk (I : Inv X pins σ H s) : ∀ b o, X.base.get? b = some o → s.heap.get? b = some o := fun b o e => (I.bs b o e).1
theorem Inv.mod (I : Inv X pins σ H s) : Mod X.K X.mg X.base := I.ok.mod
theorem Inv.kIn (I : Inv X pins σ H s) : X.K.In s.heap := I.ok.mod.kin.keeps I.bk
theorem Inv.nolimit (I : Inv X pins σ H s) : s.heap.NoLimit := I.ok.mod.nolimit.keeps I.bk
/-- the frame over the base: for OpenK's rules (K.In X.base is I.mod.kin) -/
theorem Inv.fr (I : Inv X pins σ H s) : ∃ m, Fr X.base X.env.locals s.heap m :=
  let ⟨m, hn, _⟩ := I.loc
  ⟨m, hn, I.bk, Nat.le_trans I.ok.bsz I.ok.above⟩
theorem Inv.lt (I : Inv X pins σ H s) : X.env.locals < s.heap.objs.size := let ⟨_, hn, _⟩ := I.loc; hn.lt
theorem Inv.sz (I : Inv X pins σ H s) : X.s₀.heap.objs.size ≤ s.heap.objs.size := Nat.le_trans I.ok.above (Nat.le_of_lt I.lt)
theorem Inv.nofs (I : Inv X pins σ H s) {a : Addr} (h : s.heap.objs.size ≤ a) : a ∉ X.fs := fun hb => by
  obtain ⟨_, o, ho, _⟩ := I.ok.funs.mem hb
  exact absurd (Nat.lt_of_lt_of_le (Heap.lt_size ho) (Nat.le_trans I.sz h)) (Nat.lt_irrefl _)
theorem Inv.cne (I : Inv X pins σ H s) : ∀ x c, X.env.cells.lookup x = some c → c ≠ X.env.locals := fun x c e z => by
  obtain ⟨v, o, ho, hd⟩ := I.cell x c e
  obtain ⟨m, ⟨o', es, ep, ho', hd', _⟩, _⟩ := I.loc
  rw [z, ho'] at ho; cases ho; rw [hd'] at hd; cases hd
theorem Inv.funs (I : Inv X pins σ H s) : s.heap.FunFrames X.base X.outer := by
  have all : ∀ (l : List Env), (∀ b ∈ frs l, b ∈ X.fs) → X.s₀.heap.FunFrames X.base l → s.heap.FunFrames X.base l := by
    intro l
    induction l with
    | nil => intro _ _; trivial
    | cons env r ih =>
      intro hs hl
      obtain ⟨hk, ⟨L, o, hf, hn, ho, hd⟩, hr⟩ := hl
      have hL : L ∈ X.fs := hs L (by unfold frs; rw [List.filterMap_cons, hf]; exact List.mem_cons_self)
      obtain ⟨sl, e⟩ := I.base.slot L o ho (I.ok.frf L hL) hL fun z => I.ok.exfs L z hL
      exact ⟨hk, ⟨L, _, hf, hn, e, hd⟩, ih (fun b hb => hs b (by unfold frs; rw [List.filterMap_cons, hf]; exact List.mem_cons_of_mem _ hb)) hr⟩
  exact all X.outer (fun _ hb => hb) I.ok.funs

/-- the frames that run, for a call -/
theorem Inv.stack (I : Inv X pins σ H s) : s.heap.FunFrames X.base X.stack := by
  rcases I.ok.stk with e | ⟨e, hf⟩
  · rw [e]; exact I.funs
  · rw [e]
    obtain ⟨m, hn, _⟩ := I.loc
    refine .cons (by rw [I.ok.kind]; decide) hf hn ?_ I.funs
    exact Heap.get?_none_of_le (Nat.le_trans I.ok.bsz I.ok.above)
theorem Inv.stkSub (I : Inv X pins σ H s) : ∀ b ∈ frs X.stack, b ∈ X.env.locals :: X.fs := fun b hb => by
  rcases I.ok.stk with e | ⟨e, hf⟩
  · rw [e] at hb; exact List.mem_cons_of_mem _ hb
  · rw [e] at hb
    unfold frs at hb
    rw [List.filterMap_cons, hf] at hb
    exact hb
theorem Inv.stkFree (I : Inv X pins σ H s) : ∀ b ∈ frs X.stack, H b = none := fun b hb => by
  rcases List.mem_cons.mp (I.stkSub b hb) with e | hb
  · rw [e]; exact I.free
  · obtain ⟨_, o, ho, _⟩ := I.ok.funs.mem hb
    exact I.base.free b o ho (I.ok.frf b hb) fun z => I.ok.exfs b z hb

/-- THE STEP: the untracked objects but the frame and the records at ch are kept (the callers' frames up to slots), the frame's map is kept, the new abstract heap is held -/
theorem Inv.step {g' : Array GenState} {t' : Nat} {d' : Drawn} {ch : List Addr} (I : Inv X pins σ H s)
    (hch : ∀ b ∈ ch, (b ∈ X.ex ∨ X.s₀.heap.objs.size ≤ b) ∧ b ≠ X.env.locals ∧ (∀ x c, X.env.cells.lookup x = some c → c ≠ b) ∧ ∀ p ∈ X.pn ++ pins, p.1 ≠ b)
    (keep : ∀ b o, b ≠ X.env.locals → b ∉ X.fs → b ∉ ch → s.heap.get? b = some o → H b = none → h'.get? b = some o)
    (slot : ∀ b o, b ≠ X.env.locals → b ∈ X.fs → b ∉ ch → s.heap.get? b = some o → H b = none → ∃ sl, h'.get? b = some { o with slots := sl }) (free : ∀ b o, b ∉ ch → s.heap.get? b = some o → H b = none → H' b = none)
    (there : ∀ b o, b ∉ ch → s.heap.get? b = some o → ∃ o', h'.get? b = some o')
    (tups : ∀ b xs, H b = some (.tup xs) → H' b = some (.tup xs)) (frzs : ∀ b o u, H b = some (.frz o u) → H' b = some (.frz o u)) (tbls : ∀ b ps, H b = some (.tbl ps) → ∃ more, H' b = some (.tbl (ps ++ more)))
    (ns : ∀ m, s.heap.Ns X.env.locals m → h'.Ns X.env.locals m) (hok : HOk X.prog X.w H' h') (hg : AllBare g') :
    Inv X pins σ H' { s with heap := h', gens := g', drawn := d', toks := t' } := by
  have neL : ∀ b o, X.s₀.heap.get? b = some o → b ≠ X.env.locals := fun b o e => Nat.ne_of_lt (Nat.lt_of_lt_of_le (Heap.lt_size e) I.ok.above)
  have neC : ∀ b o, X.s₀.heap.get? b = some o → b ∉ X.ex → b ∉ ch := fun b o e hx hb => by
    rcases (hch b hb).1 with z | z
    · exact hx z
    · exact absurd (Nat.lt_of_lt_of_le (Heap.lt_size e) z) (Nat.lt_irrefl _)
  have cellK : ∀ x c, X.env.cells.lookup x = some c → ∀ v, s.heap.IsCell c v → h'.IsCell c v := fun x c e v ⟨o, ho, hd⟩ => by
    have nch : c ∉ ch := fun z => (hch c z).2.2.1 x c e rfl
    by_cases hc : c ∈ X.fs
    · obtain ⟨sl, q⟩ := slot c o (I.cne x c e) hc nch ho (I.freeC x c e)
      exact ⟨_, q, hd⟩
    · exact ⟨o, keep c o (I.cne x c e) hc nch ho (I.freeC x c e), hd⟩
  refine ⟨I.ok, I.os, hg, ⟨fun b o e n hb hx => ?_, fun b o e n hb hx => ?_, fun b o e n hx => ?_, fun b o e hx => ?_, fun b xs e => tups b xs (I.base.tups b xs e), fun b o xs e => frzs b o xs (I.base.frzs b o xs e), fun b ps e => ?_⟩, ?_, fun x c e => ?_, ?_, fun x c e => ?_, fun p hp => ?_, hok, I.len⟩
  · exact keep b o (neL b o e) hb (neC b o e hx) (I.base.keep b o e n hb hx) (I.base.free b o e n hx)
  · obtain ⟨sl, e1⟩ := I.base.slot b o e n hb hx
    obtain ⟨sl', e2⟩ := slot b _ (neL b o e) hb (neC b o e hx) e1 (I.base.free b o e n hx)
    exact ⟨sl', e2⟩
  · obtain ⟨o', e1⟩ := I.base.there b o e hx
    exact free b o' (neC b o e hx) e1 (I.base.free b o e n hx)
  · obtain ⟨o', e1⟩ := I.base.there b o e hx
    exact there b o' (neC b o e hx) e1
  · obtain ⟨m1, e1⟩ := I.base.tbls b ps e
    obtain ⟨m2, e2⟩ := tbls b _ e1
    exact ⟨m1 ++ m2, by rw [e2, Array.append_assoc]⟩
  · obtain ⟨m, hn, hl⟩ := I.loc
    refine ⟨m, ns m hn, fun i x v e1 e2 e3 => ?_⟩
    obtain ⟨u, r, l⟩ := hl i x v e1 e2 e3
    refine ⟨u, r, ?_⟩
    rcases l with l | ⟨k, c, e, z⟩
    · exact .inl l
    · exact .inr ⟨k, c, e, cellK x c e _ z⟩
  · obtain ⟨v, z⟩ := I.cell x c e
    exact ⟨v, cellK x c e v z⟩
  · obtain ⟨m, ⟨o, _, _, ho, _⟩, _⟩ := I.loc
    exact free _ o (fun z => (hch _ z).2.1 rfl) ho I.free
  · obtain ⟨v, o, ho, hd⟩ := I.cell x c e
    exact free c o (fun z => (hch c z).2.2.1 x c e rfl) ho (I.freeC x c e)
  · obtain ⟨e, n, ne, nf, d⟩ := I.pin p hp
    have nch : p.1 ∉ ch := fun z => (hch p.1 z).2.2.2 p hp rfl
    exact ⟨keep p.1 p.2 ne nf nch e n, free p.1 p.2 nch e n, ne, nf, d⟩
/-- .. where the frame's own object is kept too -/
theorem Inv.un {t' : Nat} (I : Inv X pins σ H s) (u : Un X.fs [] H H' s.heap h') (hok : HOk X.prog X.w H' h') : Inv X pins σ H' { s with heap := h', toks := t' } := by
  obtain ⟨m, ⟨o, es, ep, ho, r⟩, _⟩ := id I.loc
  obtain ⟨sl, hL⟩ := u.any ho I.free (by simp)
  exact I.step (g' := s.gens) (d' := s.drawn) (ch := []) (fun _ z => nomatch z) (fun b o _ hb _ e n => u.keep b o e n hb (by simp)) (fun b o _ hb _ e n => u.slot b o e n hb (by simp)) (fun b o _ e n => u.free b o e n (by simp)) (fun b o _ e => u.there b o e (by simp)) u.tups u.frzs u.tbls (fun m' hm => by
    obtain ⟨o', es', ep', ho', r'⟩ := hm
    rw [ho] at ho'; cases ho'
    exact ⟨_, es', ep', hL, r'⟩) hok I.bare
/-- behind a call (or a comprehension's block): the slots of this frame may have changed too, the records at ch may have turned -/
theorem Inv.call {g' : Array GenState} {t' : Nat} {d' : Drawn} {ch : List Addr} (I : Inv X pins σ H s) (u : Un (frs X.stack) ch H H' s.heap h') (hok : HOk X.prog X.w H' h') (hg : AllBare g')
    (hch : ∀ b ∈ ch, (b ∈ X.ex ∨ X.s₀.heap.objs.size ≤ b) ∧ b ≠ X.env.locals ∧ (∀ x c, X.env.cells.lookup x = some c → c ≠ b) ∧ ∀ p ∈ X.pn ++ pins, p.1 ≠ b) :
    Inv X pins σ H' { s with heap := h', gens := g', drawn := d', toks := t' } := by
  obtain ⟨m, ⟨o, es, ep, ho, r⟩, _⟩ := id I.loc
  obtain ⟨sl, hL⟩ := u.any ho I.free fun z => (hch _ z).2.1 rfl
  exact I.step (ch := ch) hch (fun b o hL hb hc e n => u.keep b o e n (fun z => (List.mem_cons.mp (I.stkSub b z)).elim hL hb) hc) (fun b o _ _ hc e n => u.any e n hc) (fun b o hc e n => u.free b o e n hc) (fun b o hc e => u.there b o e hc) u.tups u.frzs u.tbls (fun m' hm => by
    obtain ⟨o', es', ep', ho', r'⟩ := hm
    rw [ho] at ho'; cases ho'
    exact ⟨_, es', ep', hL, r'⟩) hok hg
/-- an untracked record of ours (an iterator) has turned -/
theorem Inv.turned {t' : Nat} {it : Addr} (I : Inv X pins σ H s) (k : ∀ b o, b ≠ it → s.heap.get? b = some o → h'.get? b = some o) (hn : H it = none) (hL : it ≠ X.env.locals)
    (h1 : it ∈ X.ex ∨ X.s₀.heap.objs.size ≤ it) (h2 : ∀ x c, X.env.cells.lookup x = some c → c ≠ it) (h3 : ∀ p ∈ X.pn ++ pins, p.1 ≠ it) : Inv X pins σ H { s with heap := h', toks := t' } := by
  have nit : ∀ b u, H b = some u → b ≠ it := fun b u e z => by rw [z, hn] at e; cases e
  refine I.step (g' := s.gens) (d' := s.drawn) (ch := [it]) (fun b hb => ?_) (fun b o _ _ hc e _ => k b o (fun z => hc (by simp [z])) e) (fun b o _ _ hc e _ => ⟨o.slots, k b o (fun z => hc (by simp [z])) e⟩) (fun _ _ _ _ n => n)
    (fun b o hc e => ⟨o, k b o (fun z => hc (by simp [z])) e⟩) (fun _ _ e => e) (fun _ _ _ e => e) (fun b ps e => ⟨#[], by rw [e]; simp⟩) (fun m hm => ?_) (fun b u e => ?_) I.bare
  · have e : b = it := by simpa using hb
    subst e
    exact ⟨h1, hL, h2, h3⟩
  · obtain ⟨o, es, ep, ho, r⟩ := hm
    exact ⟨o, es, ep, k _ o (Ne.symm hL) ho, r⟩
  · refine (I.hok b u e).stay (fun c v hc q => k c v ?_ q) (fun _ q => q) fun _ _ q => q
    rcases hc with z | z
    · rw [z]; exact nit b u e
    · exact nit c _ z
theorem Inv.tok (I : Inv X pins σ H s) (t : Nat) : Inv X pins σ H { s with toks := t } := I.un (h' := s.heap) (t' := t) Un.refl I.hok
/-- all objects kept -/
theorem Inv.kept {t' : Nat} (I : Inv X pins σ H s) (k : ∀ b u, s.heap.get? b = some u → h'.get? b = some u) : Inv X pins σ H { s with heap := h', toks := t' } := I.un (Un.kept k) (I.hok.kept k)
/-- a new object laid and tracked -/
theorem Inv.laid {a : Addr} {o : HO} {t' : Nat} (I : Inv X pins σ H s) (k : ∀ b u, s.heap.get? b = some u → h'.get? b = some u) (hp : s.heap.objs.size ≤ a) (new : ObjOk X.prog X.w (upd H a o) h' a o) :
    Inv X pins σ (upd H a o) { s with heap := h', toks := t' } := I.un (Un.laid k hp (I.hok.fresh hp)) (I.hok.laid k hp new)
/-- an object written -/
theorem Inv.write {x e : Addr} {o : HO} {t' : Nat} (I : Inv X pins σ H s) (mu : Mut (H x)) (he : e = x ∨ H e = some (.own x)) (k : ∀ b u, b ≠ e → s.heap.get? b = some u → h'.get? b = some u) (heo : ∃ u, h'.get? e = some u)
    (new : ObjOk X.prog X.w (upd H x o) h' x o) : Inv X pins σ (upd H x o) { s with heap := h', toks := t' } := I.un (Un.write mu he k heo) (I.hok.write mu he k heo new)
theorem Inv.pins_of {pins' : List (Addr × Obj)} (I : Inv X pins σ H s) (h : ∀ p ∈ pins', s.heap.get? p.1 = some p.2 ∧ H p.1 = none ∧ p.1 ≠ X.env.locals ∧ p.1 ∉ X.fs ∧ ∀ v, p.2.data ≠ .cell v) : Inv X pins' σ H s :=
  ⟨I.ok, I.os, I.bare, I.base, I.loc, I.cell, I.free, I.freeC, fun p hp => (List.mem_append.mp hp).elim (fun z => I.pin p (List.mem_append_left _ z)) (h p), I.hok, I.len⟩

theorem nodup_ix {N : List Str} (hN : N.Nodup) {i j : Nat} {x : Str} (a : N[i]? = some x) (b : N[j]? = some x) : i = j := by
  obtain ⟨h1, e1⟩ := List.getElem?_eq_some_iff.mp a
  obtain ⟨h2, e2⟩ := List.getElem?_eq_some_iff.mp b
  exact (List.getElem_inj hN).mp (e1.trans e2.symm)

/-- a name is stored; what changed -/
theorem store_ok2 {M : Model} {A : Around} {E : Value → Shared → Prop} {i : Nat} {x : Str} {v : V} {u : Value} {Q : Unit → Shared → Prop} (I : Inv X pins σ H s) (hN : X.N.Nodup) (hi : X.N[i]? = some x) (hx : Loc X.env.scope x) (r : RelV v u)
    (h : ∀ s', Inv X pins (σ.set i (some v)) H s' → (∃ a, Heap.SameBut a s.heap s'.heap ∧ (a = X.env.locals ∨ X.env.cells.lookup x = some a)) → Q () s') (hf : X.fn x = true ∨ X.env.scope.names.lookup x = some .local := by first | exact .inl rfl | exact .inr rfl | assumption) : wpAny M A (storeName X.env x u) Q E s := by
  obtain ⟨m, hn, hl⟩ := id I.loc
  have hcls : (X.env.scope.kind == .class || (X.env.scope.kind == .module && X.env.locals != X.env.globals)) = false := by rw [I.ok.kind]; rfl
  have hiσ : i < σ.length := by rw [I.len]; exact (List.getElem?_eq_some_iff.mp hi).1
  have cne := I.cne
  have tracked : ∀ {a : Addr} {h' : Heap}, (∃ o, s.heap.get? a = some o ∧ H a = none) → Heap.SameBut a s.heap h' → HOk X.prog X.w H h' := fun {a h'} ha hs b ob e => by
    obtain ⟨_, _, hfree⟩ := ha
    refine (I.hok b ob e).stay (fun c w' hc q => (hs.2 c ?_).trans q) (fun _ q => q) fun _ _ q => q
    rintro rfl
    rcases hc with rfl | hc
    · rw [hfree] at e; cases e
    · rw [hfree] at hc; cases hc
  rcases hx with hk | hk
  · refine wpAny_storeName_local hk hn (fun h' hn' hs => ?_) hcls
    obtain ⟨oL, _, _, hoL, _⟩ := id hn
    refine h _ ⟨I.ok, I.os, I.bare, ⟨fun b o e n hb hx => ?_, fun b o e n hb hx => ?_, I.base.free, fun b o e hx => ?_, I.base.tups, I.base.frzs, I.base.tbls⟩, ⟨_, hn', fun j y v' e1 e2 e3 => ?_⟩, fun y c e => ?_, I.free, I.freeC, fun p hp => ?_, tracked ⟨oL, hoL, I.free⟩ hs, by simpa using I.len⟩ ⟨_, hs, .inl rfl⟩
    · exact (hs.2 b (Nat.ne_of_lt (Nat.lt_of_lt_of_le (Heap.lt_size e) I.ok.above))).trans (I.base.keep b o e n hb hx)
    · obtain ⟨sl, e1⟩ := I.base.slot b o e n hb hx
      exact ⟨sl, (hs.2 b (Nat.ne_of_lt (Nat.lt_of_lt_of_le (Heap.lt_size e) I.ok.above))).trans e1⟩
    · obtain ⟨o', e1⟩ := I.base.there b o e hx
      exact ⟨o', (hs.2 b (Nat.ne_of_lt (Nat.lt_of_lt_of_le (Heap.lt_size e) I.ok.above))).trans e1⟩
    · by_cases hj : j = i
      · subst hj
        rw [hi] at e1; cases e1
        rw [List.getElem?_set_self hiσ] at e2
        cases e2
        exact ⟨u, r, .inl ⟨hk, by simp⟩⟩
      · rw [List.getElem?_set_ne (Ne.symm hj)] at e2
        obtain ⟨u', r', q⟩ := hl j y v' e1 e2 e3
        refine ⟨u', r', ?_⟩
        rcases q with ⟨k, e⟩ | ⟨k, c, e, z⟩
        · refine .inl ⟨k, ?_⟩
          have : y ≠ x := fun e => hj (nodup_ix hN e1 (e ▸ hi))
          simp [this, e]
        · exact .inr ⟨k, c, e, z.sameBut hs (cne y c e)⟩
    · obtain ⟨w', z⟩ := I.cell y c e
      exact ⟨w', z.sameBut hs (cne y c e)⟩
    · obtain ⟨e, n, ne, nf, d⟩ := I.pin p hp
      exact ⟨(hs.2 p.1 ne).trans e, n, ne, nf, d⟩
  · have hfn : X.fn x = true := by
      rcases hf with z | z
      · exact z
      · rw [z] at hk; cases hk
    obtain ⟨c, hc⟩ := I.ok.has x (.inl hk)
    obtain ⟨w', z⟩ := I.cell x c hc
    refine wpAny_storeName_cell I.ok.kind hk hc z (fun h' hc' hs => ?_)
    obtain ⟨oc, hoc, hocd⟩ := id z
    refine h { s with heap := h' } ⟨I.ok, I.os, I.bare, ⟨fun b o e n hb hx => ?_, fun b o e n hb hx => ?_, I.base.free, fun b o e hx => ?_, I.base.tups, I.base.frzs, I.base.tbls⟩, ⟨m, hn.sameBut hs (Ne.symm (cne x c hc)), fun j y v' e1 e2 e3 => ?_⟩, fun y c' e => ?_, I.free, I.freeC, fun p hp => ?_, tracked ⟨oc, hoc, I.freeC x c hc⟩ hs, by simpa using I.len⟩ ⟨c, hs, .inr hc⟩
    · exact (hs.2 b (Nat.ne_of_lt (Nat.lt_of_lt_of_le (Heap.lt_size e) (I.ok.cab x c hfn hc)))).trans (I.base.keep b o e n hb hx)
    · obtain ⟨sl, e1⟩ := I.base.slot b o e n hb hx
      exact ⟨sl, (hs.2 b (Nat.ne_of_lt (Nat.lt_of_lt_of_le (Heap.lt_size e) (I.ok.cab x c hfn hc)))).trans e1⟩
    · obtain ⟨o', e1⟩ := I.base.there b o e hx
      exact ⟨o', (hs.2 b (Nat.ne_of_lt (Nat.lt_of_lt_of_le (Heap.lt_size e) (I.ok.cab x c hfn hc)))).trans e1⟩
    · by_cases hj : j = i
      · subst hj
        rw [hi] at e1; cases e1
        rw [List.getElem?_set_self hiσ] at e2
        cases e2
        exact ⟨u, r, .inr ⟨.inl hk, c, hc, hc'⟩⟩
      · rw [List.getElem?_set_ne (Ne.symm hj)] at e2
        obtain ⟨u', r', q⟩ := hl j y v' e1 e2 e3
        refine ⟨u', r', ?_⟩
        rcases q with q | ⟨k, c', e, z'⟩
        · exact .inl q
        · refine .inr ⟨k, c', e, z'.sameBut hs ?_⟩
          rintro rfl
          exact hj (nodup_ix hN e1 (I.ok.inj _ _ _ e hc ▸ hi))
    · by_cases hcc : c' = c
      · subst hcc; exact ⟨_, hc'⟩
      · obtain ⟨w2, z2⟩ := I.cell y c' e
        exact ⟨w2, z2.sameBut hs hcc⟩
    · obtain ⟨e, n, ne, nf, d⟩ := I.pin p hp
      refine ⟨(hs.2 p.1 ?_).trans e, n, ne, nf, d⟩
      intro q
      rw [q, hoc] at e
      have q' : oc = p.2 := Option.some.inj e
      exact d w' (by rw [← q']; exact hocd)
theorem store_ok {M : Model} {A : Around} {E : Value → Shared → Prop} {i : Nat} {x : Str} {v : V} {u : Value} {Q : Unit → Shared → Prop} (I : Inv X pins σ H s) (hN : X.N.Nodup) (hi : X.N[i]? = some x) (hx : Loc X.env.scope x) (r : RelV v u)
    (h : ∀ s', Inv X pins (σ.set i (some v)) H s' → Q () s') (hf : X.fn x = true ∨ X.env.scope.names.lookup x = some .local := by first | exact .inl rfl | exact .inr rfl | assumption) : wpAny M A (storeName X.env x u) Q E s :=
  store_ok2 I hN hi hx r (fun s' I' _ => h s' I') hf
/-- behind a call or a block, the state as it is -/
theorem Inv.call' {s' : Shared} {ch : List Addr} (I : Inv X pins σ H s) (ho : s'.os = s.os) (u : Un (frs X.stack) ch H H' s.heap s'.heap) (hok : HOk X.prog X.w H' s'.heap) (hg : AllBare s'.gens)
    (hch : ∀ b ∈ ch, (b ∈ X.ex ∨ X.s₀.heap.objs.size ≤ b) ∧ b ≠ X.env.locals ∧ (∀ x c, X.env.cells.lookup x = some c → c ≠ b) ∧ ∀ p ∈ X.pn ++ pins, p.1 ≠ b) : Inv X pins σ H' s' := by
  obtain ⟨h', g', d', t', o'⟩ := s'
  have e : o' = s.os := ho
  subst e
  exact I.call (g' := g') (t' := t') (d' := d') u hok hg hch
end

/-! ### the judgements -/
/-- an exception: its class, its own dict's address (where it has one), the abstract heap behind it -/
abbrev XK := Value → Option Addr → Hp → Prop
abbrev St := List (Option V)
abbrev VK := V → Hp → Prop
/-- an expression's reading; a test's; an argument list's -/
abbrev TE := St → Hp → VK → Prop
abbrev TT := St → Hp → (Bool → Hp → Prop) → Prop
abbrev TA := St → Hp → (List V → Hp → Prop) → Prop
/-- what is wanted behind a statement -/
structure Ends where
  nx : St → Hp → Prop
  rt : VK
  bk : St → Hp → Prop := fun _ _ => False
  ct : St → Hp → Prop := fun _ _ => False
abbrev TS := Ends → St → Hp → Prop

def EP (X : Cx) (pins : List (Addr × Obj)) (σ : St) (Q : VK) (u : Value) (s' : Shared) : Prop := ∃ v H', Inv X pins σ H' s' ∧ RelV v u ∧ Q v H'
def TP (X : Cx) (pins : List (Addr × Obj)) (σ : St) (Q : Bool → Hp → Prop) (b : Bool) (s' : Shared) : Prop := ∃ H', Inv X pins σ H' s' ∧ Q b H'
def AP (X : Cx) (pins : List (Addr × Obj)) (σ : St) (Q : List V → Hp → Prop) (us : List Value) (s' : Shared) : Prop := ∃ vs H', Inv X pins σ H' s' ∧ Vals vs us ∧ Q vs H'
def SP (X : Cx) (pins : List (Addr × Obj)) (D : Ends) (f : Flow) (s' : Shared) : Prop :=
  match f with
  | .next => ∃ σ' H', Inv X pins σ' H' s' ∧ D.nx σ' H'
  | .brk => ∃ σ' H', Inv X pins σ' H' s' ∧ D.bk σ' H'
  | .cont => ∃ σ' H', Inv X pins σ' H' s' ∧ D.ct σ' H'
  | .ret u => ∃ v σ' H', Inv X pins σ' H' s' ∧ RelV v u ∧ D.rt v H'

def PE (X : Cx) (e : Expr) (t : TE) : Prop :=
  ∀ (pins : List (Addr × Obj)) (s : Shared) (σ : St) (H : Hp) (Q : VK), Inv X pins σ H s → t σ H Q → wpAny (model X.prog X.w) X.A (eval e X.env) (EP X pins σ Q) X.xe s
def PT (X : Cx) (e : Expr) (t : TT) : Prop :=
  ∀ (pins : List (Addr × Obj)) (s : Shared) (σ : St) (H : Hp) (Q : Bool → Hp → Prop), Inv X pins σ H s → t σ H Q → wpAny (model X.prog X.w) X.A (isTrue e X.env (eval e X.env)) (TP X pins σ Q) X.xe s
/-- a test whatever its 'whole' is (and, or) -/
def PW (X : Cx) (e : Expr) (t : TT) : Prop :=
  ∀ (whole : Sem Value) (pins : List (Addr × Obj)) (s : Shared) (σ : St) (H : Hp) (Q : Bool → Hp → Prop), Inv X pins σ H s → t σ H Q → wpAny (model X.prog X.w) X.A (isTrue e X.env whole) (TP X pins σ Q) X.xe s
theorem PW.pt {X : Cx} {e : Expr} {t : TT} (h : PW X e t) : PT X e t := h _
/-- an argument list (no star), from the left -/
def PA (X : Cx) (es : List Expr) (t : TA) : Prop :=
  ∀ (pos : Pos) (pins : List (Addr × Obj)) (s : Shared) (σ : St) (H : Hp) (Q : List V → Hp → Prop), Inv X pins σ H s → t σ H Q → wpAny (model X.prog X.w) X.A (spliced (backTo pos (starEach es X.env))) (AP X pins σ Q) X.xe s
def PS (X : Cx) (st : Stmt) (t : TS) : Prop :=
  ∀ (pins : List (Addr × Obj)) (s : Shared) (σ : St) (H : Hp) (D : Ends), Inv X pins σ H s → t D σ H → wpAny (model X.prog X.w) X.A (exec st X.env) (SP X pins D) X.xe s
def PSs (X : Cx) (st : List Stmt) (t : TS) : Prop :=
  ∀ (pins : List (Addr × Obj)) (s : Shared) (σ : St) (H : Hp) (D : Ends), Inv X pins σ H s → t D σ H → wpAny (model X.prog X.w) X.A (execs st X.env) (SP X pins D) X.xe s
/-- weaken the end -/
theorem thn {α : Type} {t : Sem α} {Q Q' : α → Shared → Prop} {M : Model} {A : Around} {E : Value → Shared → Prop} {s : Shared} (h : wpAny M A t Q E s) (hQ : ∀ a s, Q a s → Q' a s) : wpAny M A t Q' E s := wpAny_mono h hQ fun _ _ x => x
end L2

namespace L2
open PySem PySem.Spec PyProof.Rows
section
variable {X : Cx}

/-! ### names and constants -/
def tVar (i : Nat) : TE := fun σ H Q => ∃ v, σ[i]? = some (some v) ∧ Q v H
def tC (v : V) : TE := fun _ H Q => Q v H
theorem pe_var {i : Nat} {x : Str} {pos : Pos} (hN : X.N[i]? = some x) (hv : Vis X.env.scope x) (hd : (x == ("__debug__" : Str)) = false := by decide) (hcd : (x == ("__classdict__" : Str)) = false := by decide) : PE X (.Name x pos) (tVar i) := by
  intro pins s σ H Q I h
  obtain ⟨v, e, h⟩ := h
  obtain ⟨m, hn, hl⟩ := I.loc
  obtain ⟨u, r, l⟩ := hl i x v hN e hv
  have fin : EP X pins σ Q u s := ⟨v, H, I, r, h⟩
  rcases l with ⟨hk, hm⟩ | ⟨hk, c, hc, hcell⟩
  · exact wpAny_Name (wpAny_loadName_local I.ok.kind hk hn hm fin) hd
  · rcases hk with hk | hk
    · exact wpAny_Name (wpAny_loadName_cell I.ok.kind hk hc hcell fin) hd
    · exact wpAny_Name (wpAny_loadName_free I.ok.kind hk hc hcell fin hcd) hd
theorem pe_int {i j pos} : PE X (.Constant (.int i) j pos) (tC (.int i)) := fun _ _ _ H _ I h => wpAny_Constant_int ⟨.int i, H, I.tok _, ⟨_, rfl⟩, h⟩
theorem pe_bl {b j pos} : PE X (.Constant (.bool b) j pos) (tC (.bl b)) := fun _ _ _ H _ I h => Constant_bool ⟨.bl b, H, I, rfl, h⟩
theorem pe_non {j pos} : PE X (.Constant .none j pos) (tC .non) := fun _ _ _ H _ I h => Constant_none ⟨.non, H, I, rfl, h⟩
theorem pe_str {x j pos} : PE X (.Constant (.str x) j pos) (tC (.str x)) := fun _ _ _ H _ I h => Calls.Constant_str ⟨.str x, H, I.tok _, ⟨_, rfl⟩, h⟩

/-- a global name of the def -/
def Gl (X : Cx) (x : Str) : Prop := X.env.kindOf x = some .globalImplicit
theorem ld_glob {E : Value → Shared → Prop} {pins : List (Addr × Obj)} {s : Shared} {σ : St} {H : Hp} {x : Str} {u : Value} {pos : Pos} {Q : Value → Shared → Prop} (I : Inv X pins σ H s) (hg : Gl X x) (hm : X.mg x = some u) (h : Q u s)
    (hd : (x == ("__debug__" : Str)) = false := by decide) : wpAny (model X.prog X.w) X.A (eval (.Name x pos) X.env) Q E s :=
  Calls.Name_function_global I.ok.kind hg (Calls.loadGlobal_global (by rw [I.ok.glob]; exact I.mod.glob.keeps I.bk) hm h) hd
theorem ld_blt {E : Value → Shared → Prop} {pins : List (Addr × Obj)} {s : Shared} {σ : St} {H : Hp} {x : Str} {u : Value} {pos : Pos} {Q : Value → Shared → Prop} (I : Inv X pins σ H s) (hg : Gl X x) (hm : X.mg x = none) (hv : bootBuiltins x = some u) (h : Q u s)
    (hn : x ≠ "__name__" := by decide) (hd : (x == ("__debug__" : Str)) = false := by decide) : wpAny (model X.prog X.w) X.A (eval (.Name x pos) X.env) Q E s := by
  obtain ⟨mb, h1, h2⟩ := I.mod.blt
  exact Calls.Name_function_global I.ok.kind hg (Calls.loadGlobal_builtin (by rw [I.ok.glob]; exact I.mod.glob.keeps I.bk) hm (by rw [I.ok.blt]; exact h1.keeps I.bk) ((h2 x hn).trans hv) h) hd
/-- a module's constant, a class, a function, as a value -/
theorem pe_glob {x : Str} {v : V} {u : Value} {pos : Pos} (hg : Gl X x) (hm : X.mg x = some u) (r : RelV v u) (hd : (x == ("__debug__" : Str)) = false := by decide) : PE X (.Name x pos) (tC v) :=
  fun _ _ _ H _ I h => ld_glob I hg hm ⟨v, H, I, r, h⟩ hd
theorem pe_bltn {x : Str} {v : V} {u : Value} {pos : Pos} (hg : Gl X x) (hm : X.mg x = none) (hv : bootBuiltins x = some u) (r : RelV v u) (hn : x ≠ "__name__" := by decide) (hd : (x == ("__debug__" : Str)) = false := by decide) : PE X (.Name x pos) (tC v) :=
  fun _ _ _ H _ I h => ld_blt I hg hm hv ⟨v, H, I, r, h⟩ hn hd

/-! ### arithmetic -/
variable {a b : Expr} {ta tb : TE} {pos : Pos}
/-! ### comparisons -/
def PC (X : Cx) (op : CmpOp) (a b : Expr) (t : TE) : Prop :=
  ∀ (pins : List (Addr × Obj)) (s : Shared) (σ : St) (H : Hp) (Q : VK), Inv X pins σ H s → t σ H Q →
    wpAny (model X.prog X.w) X.A (eval a X.env) (fun v s₁ => wpAny (model X.prog X.w) X.A (eval b X.env) (fun u s₂ => wpAny (model X.prog X.w) X.A (compareOp op v u) (EP X pins σ Q) X.xe s₂) X.xe s₁) X.xe s
/-- a comparison as a value, as a test -/
def tB (t : TE) : TT := fun σ H Q => t σ H fun x H1 => ∃ c, x = .bl c ∧ Q c H1
/-- an expression whose value is a bool, as a test -/
theorem pt_val {e : Expr} {t : TE} (h : PE X e t) (he : ∀ whole, isTrue e X.env whole = (do let v ← whole; standAt e.pos; holding [v] (truthy v)) := by intro _; rfl) : PT X e (tB t) := by
  intro pins s σ H Q I hw
  refine isTrue_plain (thn (h pins s σ H _ I hw) fun v s1 ⟨x, H1, I1, r1, q1⟩ => ?_) (he _)
  obtain ⟨d, rfl, q⟩ := q1
  cases r1
  exact wpAny_truthy_bool ⟨H1, I1, q⟩

/-! ### and, or, not -/
variable {tA tB' : TT} {rest : List Expr}
def tAnd (t u : TT) : TT := fun σ H Q => t σ H fun c H1 => if c = true then u σ H1 Q else Q false H1
def tOr (t u : TT) : TT := fun σ H Q => t σ H fun c H1 => if c = true then Q true H1 else u σ H1 Q
def tNot (t : TT) : TT := fun σ H Q => t σ H fun c H1 => Q (!c) H1
theorem pw_and1 (ha : PT X a tA) : PW X (.BoolOp .And [a] pos) tA := by
  intro wh pins s σ H Q I h
  refine isTrue_and (thn (ha pins s σ H Q I h) fun c s1 e => ?_)
  cases c with
  | true => exact isTrue_and_nil e
  | false => exact e
theorem pw_or1 (ha : PT X a tA) : PW X (.BoolOp .Or [a] pos) tA := by
  intro wh pins s σ H Q I h
  refine isTrue_or (thn (ha pins s σ H Q I h) fun c s1 e => ?_)
  cases c with
  | false => exact isTrue_or_nil e
  | true => exact e
theorem pw_and (ha : PT X a tA) (hb : PW X (.BoolOp .And (b :: rest) pos) tB') : PW X (.BoolOp .And (a :: b :: rest) pos) (tAnd tA tB') := by
  intro wh pins s σ H Q I h
  refine isTrue_and (thn (ha pins s σ H _ I h) fun c s1 ⟨H1, I1, q1⟩ => ?_)
  cases c with
  | true => exact hb wh pins s1 σ H1 Q I1 q1
  | false => exact ⟨H1, I1, q1⟩
theorem pw_or (ha : PT X a tA) (hb : PW X (.BoolOp .Or (b :: rest) pos) tB') : PW X (.BoolOp .Or (a :: b :: rest) pos) (tOr tA tB') := by
  intro wh pins s σ H Q I h
  refine isTrue_or (thn (ha pins s σ H _ I h) fun c s1 ⟨H1, I1, q1⟩ => ?_)
  cases c with
  | true => exact ⟨H1, I1, q1⟩
  | false => exact hb wh pins s1 σ H1 Q I1 q1
theorem pt_not (ha : PT X a tA) : PT X (.UnaryOp .Not a pos) (tNot tA) := by
  intro pins s σ H Q I h
  exact isTrue_not (ha pins s σ H (fun c H1 => Q (!c) H1) I h)
/-- .. as values (bools) -/
def tAndV (ta tb : TE) : TE := fun σ H Q => ta σ H fun x H1 => ∃ c, x = .bl c ∧ if c = true then tb σ H1 Q else Q (.bl false) H1
def tNotV (ta : TE) : TE := fun σ H Q => ta σ H fun x H1 => ∃ c, x = .bl c ∧ Q (.bl (!c)) H1
theorem pe_one {op} {t : TE} (h : PE X a t) : PE X (.BoolOp op [a] pos) t := fun pins s σ H Q I hw => BoolOp_one (h pins s σ H Q I hw)
theorem pe_and (ha : PE X a ta) (hb : PE X (.BoolOp .And (b :: rest) pos) tb) : PE X (.BoolOp .And (a :: b :: rest) pos) (tAndV ta tb) := by
  intro pins s σ H Q I h
  refine BoolOp_and (thn (ha pins s σ H _ I h) fun v s1 ⟨x, H1, I1, r1, q1⟩ => ?_)
  obtain ⟨c, rfl, q1⟩ := q1
  cases r1
  refine wpAny_truthy_bool ?_
  cases c with
  | true => exact hb pins s1 σ H1 Q I1 q1
  | false => exact ⟨.bl false, H1, I1, rfl, q1⟩
theorem pe_not (ha : PE X a ta) : PE X (.UnaryOp .Not a pos) (tNotV ta) := by
  intro pins s σ H Q I h
  refine UnaryOp_ (thn (ha pins s σ H _ I h) fun v s1 ⟨x, H1, I1, r1, q1⟩ => ?_)
  obtain ⟨c, rfl, q1⟩ := q1
  cases r1
  exact not_of (wpAny_truthy_bool ⟨.bl (!c), H1, I1, rfl, q1⟩)
end
end L2

namespace L2
open PySem PySem.Spec PyProof.Rows

/-! ### a list, a tuple that is read: tracked, frozen, or an object of the module -/
def SqL (K : PySem.W.Frag) (H : Hp) (a : Addr) (xs : List V) : Prop :=
  Rd H a (.lst xs) ∨
    ∃ (o : Obj) (its : Array Value) (n : Nat), K.lookup a = some o ∧ o.cls = .type "list" ∧ o.dict = none ∧ o.data = .seq its n ∧ its.size ≤ sizeLine ∧ Vals xs its.toList
def SqT (K : PySem.W.Frag) (H : Hp) (a : Addr) (xs : List V) : Prop :=
  Rd H a (.tup xs) ∨
    ∃ (o : Obj) (its : Array Value) (n : Nat), K.lookup a = some o ∧ o.cls = .type "tuple" ∧ o.data = .seq its n ∧ its.size ≤ sizeLine ∧ Vals xs its.toList
def absV : Value → Option V
  | .none => some .non
  | .bool b => some (.bl b)
  | .int i _ => some (.int i)
  | .str x _ => some (.str x)
  | .bytes b _ => some (.byt b)
  | .float b _ => some (.flt b)
  | .ref a => some (.ref a)
  | .type n => some (.ty n)
  | _ => none
theorem RelV.abs {x : V} {u : Value} (r : RelV x u) : absV u = some x := by
  cases x with
  | non => cases r; rfl
  | bl _ => cases r; rfl
  | int _ => obtain ⟨t, rfl⟩ := r; rfl
  | str _ => obtain ⟨t, rfl⟩ := r; rfl
  | byt _ => obtain ⟨t, rfl⟩ := r; rfl
  | flt _ => obtain ⟨t, rfl⟩ := r; rfl
  | ref _ => cases r; rfl
  | ty _ => cases r; rfl
theorem RelV.inj {x y : V} {u : Value} (r : RelV x u) (q : RelV y u) : x = y := Option.some.inj (r.abs.symm.trans q.abs)
theorem Vals.inj : ∀ {xs ys : List V} {us : List Value}, Vals xs us → Vals ys us → xs = ys
  | _, _, _, .nil, .nil => rfl
  | _, _, _, .cons r t, .cons r' t' => by rw [r.inj r', Vals.inj t t']
section
variable {X : Cx} {pins : List (Addr × Obj)} {σ : St} {H : Hp} {s : Shared} {a : Addr} {xs ys : List V}
theorem SqL.of {K : PySem.W.Frag} (h : H a = some (.lst xs)) : SqL K H a xs := .inl (.inl h)
theorem SqT.of {K : PySem.W.Frag} (h : H a = some (.tup xs)) : SqT K H a xs := .inl (.inl h)
theorem Inv.list (I : Inv X pins σ H s) (h : SqL X.K H a xs) : ∃ its : List Value, Vals xs its ∧ PlainL s.heap a its.toArray ∧ xs.length ≤ sizeLine := by
  rcases h with h | ⟨o, its, n, hk, hc, hd, hs, hz, r⟩
  · obtain ⟨z, its, n, r, e⟩ := h.ok I.hok
    exact ⟨its, r, ⟨_, n, e, rfl, rfl, rfl⟩, z⟩
  · refine ⟨its.toList, r, ⟨o, n, I.kIn a o hk, hc, hd, by simpa using hs⟩, ?_⟩
    have e := r.length
    simp only [Array.length_toList] at e
    omega
theorem Inv.tuple (I : Inv X pins σ H s) (h : SqT X.K H a xs) : ∃ its : List Value, Vals xs its ∧ IsTup s.heap a its.toArray ∧ xs.length ≤ sizeLine := by
  rcases h with h | ⟨o, its, n, hk, hc, hs, hz, r⟩
  · obtain ⟨z, its, r, p⟩ := h.ok I.hok
    exact ⟨its, r, p, z⟩
  · refine ⟨its.toList, r, ⟨o, I.kIn a o hk, hc, n, by simpa using hs⟩, ?_⟩
    have e := r.length
    simp only [Array.length_toList] at e
    omega
theorem Inv.list_inj (I : Inv X pins σ H s) (h : SqL X.K H a xs) (h' : SqL X.K H a ys) : xs = ys := by
  obtain ⟨its, r, ⟨o, n, e, _, _, d⟩, _⟩ := I.list h
  obtain ⟨its', r', ⟨o', n', e', _, _, d'⟩, _⟩ := I.list h'
  rw [e] at e'; cases e'
  rw [d] at d'
  injection d' with d1 _
  have : its = its' := by simpa using congrArg Array.toList d1
  subst this
  exact r.inj r'
theorem Inv.tuple_inj (I : Inv X pins σ H s) (h : SqT X.K H a xs) (h' : SqT X.K H a ys) : xs = ys := by
  obtain ⟨its, r, ⟨o, e, _, n, d⟩, _⟩ := I.tuple h
  obtain ⟨its', r', ⟨o', e', _, n', d'⟩, _⟩ := I.tuple h'
  rw [e] at e'; cases e'
  rw [d] at d'
  injection d' with d1 _
  have : its = its' := by simpa using congrArg Array.toList d1
  subst this
  exact r.inj r'
end

/-! ### another wish about exceptions -/
abbrev Cx.wish (X : Cx) (E : Value → Shared → Prop) : Cx := { X with xe := E }
/-- no exception leaves -/
abbrev Cx.nox (X : Cx) : Cx := X.wish fun _ _ => False
theorem Cx.Ok.wish {X : Cx} (ok : X.Ok) (E : Value → Shared → Prop) : (X.wish E).Ok :=
  ⟨ok.mod, ok.kind, ok.glob, ok.blt, ok.above, ok.inj, ok.has, ok.cab, ok.hd, ok.frames, ok.stk, ok.exf, ok.bs, ok.bsz, ok.noex, ok.exfs, ok.funs, ok.frf⟩
theorem Cx.Ok.unwish {X : Cx} {E : Value → Shared → Prop} (ok : (X.wish E).Ok) : X.Ok :=
  ⟨ok.mod, ok.kind, ok.glob, ok.blt, ok.above, ok.inj, ok.has, ok.cab, ok.hd, ok.frames, ok.stk, ok.exf, ok.bs, ok.bsz, ok.noex, ok.exfs, ok.funs, ok.frf⟩
section
variable {X : Cx} {pins : List (Addr × Obj)} {σ : St} {H : Hp} {s : Shared} {E : Value → Shared → Prop}
theorem Inv.wish (I : Inv X pins σ H s) (E : Value → Shared → Prop) : Inv (X.wish E) pins σ H s := ⟨I.ok.wish E, I.os, I.bare, I.base, I.loc, I.cell, I.free, I.freeC, I.pin, I.hok, I.len⟩
theorem Inv.unwish (I : Inv (X.wish E) pins σ H s) : Inv X pins σ H s := ⟨I.ok.unwish, I.os, I.bare, I.base, I.loc, I.cell, I.free, I.freeC, I.pin, I.hok, I.len⟩
theorem SP.unwish {D : Ends} {f : Flow} {s' : Shared} (h : SP (X.wish E) pins D f s') : SP X pins D f s' := by
  cases f with
  | next => obtain ⟨σ', H', I, q⟩ := h; exact ⟨σ', H', I.unwish, q⟩
  | brk => obtain ⟨σ', H', I, q⟩ := h; exact ⟨σ', H', I.unwish, q⟩
  | cont => obtain ⟨σ', H', I, q⟩ := h; exact ⟨σ', H', I.unwish, q⟩
  | ret u => obtain ⟨v, σ', H', I, r, q⟩ := h; exact ⟨v, σ', H', I.unwish, r, q⟩
theorem PE.nox {e : Expr} {t : TE} (h : PE X.nox e t) : PE X e t := fun pins s σ H Q I hw =>
  wpAny_mono (h pins s σ H Q (I.wish _) hw) (fun _ _ ⟨v, H', I', r, q⟩ => ⟨v, H', I'.unwish, r, q⟩) fun _ _ z => False.elim z
theorem PT.nox {e : Expr} {t : TT} (h : PT X.nox e t) : PT X e t := fun pins s σ H Q I hw =>
  wpAny_mono (h pins s σ H Q (I.wish _) hw) (fun _ _ ⟨H', I', q⟩ => ⟨H', I'.unwish, q⟩) fun _ _ z => False.elim z
theorem PSs.nox {st : List Stmt} {t : TS} (h : PSs X.nox st t) : PSs X st t := fun pins s σ H D I hw =>
  wpAny_mono (h pins s σ H D (I.wish _) hw) (fun _ _ q => q.unwish) fun _ _ z => False.elim z
end

/-! ### blocks and small statements -/
section
variable {X : Cx} {st : Stmt} {rest : List Stmt} {t u : TS} {e : Expr} {te : TE} {pos : Pos}
def tNext : TS := fun D σ H => D.nx σ H
def tSeq (t u : TS) : TS := fun D σ H => t { D with nx := u D } σ H
theorem pss_nil : PSs X [] tNext := fun _ _ σ H _ I h => wpAny_execs_nil ⟨σ, H, I, h⟩
theorem pss_cons (h1 : PS X st t) (h2 : PSs X rest u) : PSs X (st :: rest) (tSeq t u) := by
  intro pins s σ H D I h
  refine wpAny_execs_cons (thn (h1 pins s σ H { D with nx := u D } I h) fun f s1 q => ?_)
  cases f with
  | next =>
    obtain ⟨σ', H', I', q⟩ := q
    exact h2 pins s1 σ' H' D I' q
  | ret v => exact q
  | brk => exact q
  | cont => exact q
theorem pss_one (h1 : PS X st t) : PSs X [st] t := by
  intro pins s σ H D I h
  refine wpAny_execs_cons (thn (h1 pins s σ H D I h) fun f s1 q => ?_)
  cases f with
  | next => exact wpAny_execs_nil q
  | ret v => exact q
  | brk => exact q
  | cont => exact q
/-- in a def's body nothing is shown -/
theorem Inv.quiet {pins : List (Addr × Obj)} {σ : St} {H : Hp} {s : Shared} (I : Inv X pins σ H s) : interactive X.env = false := by simp [interactive, I.ok.kind]
/-- an expression whose value is dropped -/
def tDrop (te : TE) : TS := fun D σ H => te σ H fun _ H1 => D.nx σ H1
theorem ps_expr (he : PE X e te) (hs : swapsWith e none pos.line X.env = pure false := by rfl) : PS X (.Expr e pos) (tDrop te) := by
  intro pins s σ H D I h
  exact wpAny_Expr_any (thn (he pins s σ H _ I h) fun v s1 ⟨x, H1, I1, r1, q1⟩ => ⟨σ, H1, I1, q1⟩) I.quiet hs
def tRet (te : TE) : TS := fun D σ H => te σ H D.rt
theorem ps_ret (he : PE X e te) : PS X (.Return (some e) pos) (tRet te) := by
  intro pins s σ H D I h
  exact wpAny_Return_some (thn (he pins s σ H _ I h) fun v s1 ⟨x, H1, I1, r1, q1⟩ => ⟨x, σ, H1, I1, r1, q1⟩)
def tIfS (c : TT) (t u : TS) : TS := fun D σ H => c σ H fun b H1 => if b = true then t D σ H1 else u D σ H1
theorem ps_if {c : Expr} {a b : List Stmt} {tc : TT} (hc : PT X c tc) (ha : PSs X a t) (hb : PSs X b u) : PS X (.If c a b pos) (tIfS tc t u) := by
  intro pins s σ H D I h
  refine wpAny_If (thn (hc pins s σ H _ I h) fun d s1 ⟨H1, I1, q1⟩ => ?_)
  cases d with
  | true => exact ha pins s1 σ H1 D I1 q1
  | false => exact hb pins s1 σ H1 D I1 q1
end

/-! ### targets -/
abbrev TG := V → St → Hp → (St → Hp → Prop) → Prop
abbrev TGs := List V → St → Hp → (St → Hp → Prop) → Prop
def PG (X : Cx) (target : Expr) (t : TG) : Prop :=
  ∀ (pins : List (Addr × Obj)) (s : Shared) (σ : St) (H : Hp) (v : V) (u : Value) (Q : St → Hp → Prop), Inv X pins σ H s → RelV v u → t v σ H Q →
    wpAny (model X.prog X.w) X.A (assign target X.env u) (fun _ s' => ∃ σ' H', Inv X pins σ' H' s' ∧ Q σ' H') X.xe s
/-- several targets, one after another -/
def PGs (X : Cx) (ts : List Expr) (t : TGs) : Prop :=
  ∀ (pins : List (Addr × Obj)) (s : Shared) (σ : St) (H : Hp) (vs : List V) (us : List Value) (Q : St → Hp → Prop), Inv X pins σ H s → Vals vs us → t vs σ H Q →
    wpAny (model X.prog X.w) X.A (assignInOrder ((assignEach ts X.env).map (·.2)) us) (fun _ s' => ∃ σ' H', Inv X pins σ' H' s' ∧ Q σ' H') X.xe s
/-- o[i] = v, by values -/
abbrev TSet := V → V → V → Hp → (Hp → Prop) → Prop
def PSet (X : Cx) (t : TSet) : Prop :=
  ∀ (pins : List (Addr × Obj)) (s : Shared) (σ : St) (H : Hp) (o i v : V) (ov iv u : Value) (Q : Hp → Prop), Inv X pins σ H s → RelV o ov → RelV i iv → RelV v u → t o i v H Q →
    wpAny (model X.prog X.w) X.A (setItem ov iv u) (fun _ s' => ∃ H', Inv X pins σ H' s' ∧ Q H') X.xe s
section
variable {X : Cx} {pos : Pos}
def gName (i : Nat) : TG := fun v σ H Q => Q (σ.set i (some v)) H
theorem pg_name {i : Nat} {x : Str} (hN : X.N.Nodup) (hi : X.N[i]? = some x) (hx : Loc X.env.scope x) (hf : X.fn x = true ∨ X.env.scope.names.lookup x = some .local := by first | exact .inl rfl | exact .inr rfl | assumption) : PG X (.Name x pos) (gName i) := by
  intro pins s σ H v u Q I r h
  exact wpAny_assign_Name (store_ok I hN hi hx r (fun s' I' => ⟨_, H, I', h⟩) hf)
/-- o[i] = .. -/
def gSub (to ti : TE) (t : TSet) : TG := fun v σ H Q => to σ H fun o H1 => ti σ H1 fun i H2 => t o i v H2 fun H3 => Q σ H3
theorem pg_sub {o i : Expr} {to ti : TE} {t : TSet} (ho : PE X o to) (hi : PE X i ti) (hs : PSet X t)
    (ha : ∀ v, assign (.Subscript o i pos) X.env v = (do
      let ov ← holding [v] (eval o X.env)
      let iv ← holding [v, ov] (eval i X.env)
      standAt pos
      holding [v, ov, iv] (setItem ov iv v)
      release [v, ov, iv] []) := by intro _; rfl) : PG X (.Subscript o i pos) (gSub to ti t) := by
  intro pins s σ H v u Q I r h
  rw [ha]
  refine wpAny_bind (wpAny_holding (thn (ho pins s σ H _ I h) fun ov s1 ⟨x, H1, I1, r1, q1⟩ => ?_))
  refine wpAny_bind (wpAny_holding (thn (hi pins s1 σ H1 _ I1 q1) fun iv s2 ⟨y, H2, I2, r2, q2⟩ => ?_))
  refine wpAny_bind (wpAny_standAt (wpAny_bind (wpAny_holding (thn (hs pins s2 σ H2 x y v ov iv u _ I2 r1 r2 r q2) fun _ s3 ⟨H3, I3, q3⟩ => ?_))))
  exact wpAny_release ⟨σ, H3, I3, q3⟩
/-- target = value -/
def tAsg (te : TE) (g : TG) : TS := fun D σ H => te σ H fun x H1 => g x σ H1 D.nx
theorem ps_asg {tg e : Expr} {te : TE} {g : TG} (he : PE X e te) (hg : PG X tg g) (hs : swapsWithSole [tg] e pos.line X.env = pure false := by rfl) (hw : swappedStores [tg] e X.env = pure none := by rfl)
    (h1 : (assignEach [tg] X.env).map (·.2) = [assign tg X.env] := by rfl) : PS X (.Assign [tg] e pos) (tAsg te g) := by
  intro pins s σ H D I h
  refine wpAny_Assign_stores (thn (he pins s σ H _ I h) fun v s1 ⟨x, H1, I1, r1, q1⟩ => ?_) hs hw
  rw [h1]
  exact thn (hg pins s1 σ H1 x v _ I1 r1 q1) fun _ s2 q => q
/-- name = value -/
theorem ps_set {i : Nat} {x : Str} {e : Expr} {te : TE} {pos' : Pos} (hN : X.N.Nodup) (hi : X.N[i]? = some x) (hx : Loc X.env.scope x) (he : PE X e te) (hs : swapsWith e (some (.Name x pos')) pos.line X.env = pure false := by rfl) (hf : X.fn x = true ∨ X.env.scope.names.lookup x = some .local := by first | exact .inl rfl | exact .inr rfl | assumption) :
    PS X (.Assign [.Name x pos'] e pos) (tAsg te (gName i)) := by
  intro pins s σ H D I h
  refine wpAny_Assign_Name (thn (he pins s σ H _ I h) fun v s1 ⟨y, H1, I1, r1, q1⟩ => ?_) hs
  exact store_ok I1 hN hi hx r1 (fun s2 I2 => ⟨_, H1, I2, q1⟩) hf
end

/-! ### while -/
section
variable {X : Cx} {pos : Pos}
end

/-! ### what a loop or a comprehension walks -/
/-- at turn i: it yields x (the heap may grow), or it stops -/
structure It where
  go : Nat → Hp → Prop
  yld : Nat → Hp → V → Hp → Prop
  stop : Nat → Hp → Prop
/-- the iterator's own objects may turn: they are not the frame's, not pinned, younger than the entry (or a comprehension's own) -/
def FpOk (X : Cx) (pins : List (Addr × Obj)) (H : Hp) (b : Addr) : Prop :=
  H b = none ∧ b ≠ X.env.locals ∧ b ∉ X.fs ∧ (b ∈ X.ex ∨ X.s₀.heap.objs.size ≤ b) ∧ (∀ x c, X.env.cells.lookup x = some c → c ≠ b) ∧ ∀ p ∈ X.pn ++ pins, p.1 ≠ b
theorem Inv.fpOk {X : Cx} {pins : List (Addr × Obj)} {σ : St} {H H' : Hp} {s : Shared} {b : Addr} (I : Inv X pins σ H s) (hb : s.heap.objs.size ≤ b) (hn : H' b = none) : FpOk X pins H' b := by
  refine ⟨hn, Nat.ne_of_gt (Nat.lt_of_lt_of_le I.lt hb), I.nofs hb, .inr (Nat.le_trans I.sz hb), fun x c e z => ?_, fun p hp z => ?_⟩
  · obtain ⟨v, q⟩ := I.cell x c e
    exact absurd (Nat.lt_of_lt_of_le q.lt (by rw [z]; exact hb)) (Nat.lt_irrefl _)
  · exact absurd (Nat.lt_of_lt_of_le (Heap.lt_size (I.pin p hp).1) (by rw [z]; exact hb)) (Nat.lt_irrefl _)
structure Turn (P : Program) (w : World) (K : PySem.W.Frag) (tg : Expr) (J : It) (fp : List Addr) (it : Addr) (tn : Nat → Heap → Prop) : Prop where
  mem : it ∈ fp
  obj : ∀ i h, tn i h → ∀ b ∈ fp, ∃ o, h.get? b = some o ∧ ∀ v, o.data ≠ .cell v
  keep : ∀ i h h', tn i h → (∀ b ∈ fp, ∀ o, h.get? b = some o → h'.get? b = some o) → tn i h'
  item : ∀ (X : Cx), X.prog = P → X.w = w → X.K = K → X.calm = true → ∀ (i : Nat) (pins : List (Addr × Obj)) (s : Shared) (σ : St) (H : Hp) (E : Value → Shared → Prop), Inv X pins σ H s → (∀ b ∈ fp, FpOk X pins H b) → tn i s.heap → J.go i H →
    wpAny (model P w) X.A (pyNext (.ref it)) (fun r s1 => ∃ u, r = some u ∧
      wpAny (model P w) X.A (letOwnedTupleGo tg (.ref it) u) (fun _ s2 => ∃ x H', Inv X pins σ H' s2 ∧ RelV x u ∧ J.yld i H x H' ∧ tn (i + 1) s2.heap ∧ ∀ b ∈ fp, H' b = none) E s1) E s
  done : ∀ (X : Cx), X.prog = P → X.w = w → X.K = K → X.calm = true → ∀ (i : Nat) (pins : List (Addr × Obj)) (s : Shared) (σ : St) (H : Hp) (E : Value → Shared → Prop), Inv X pins σ H s → (∀ b ∈ fp, FpOk X pins H b) → tn i s.heap → J.stop i H →
    wpAny (model P w) X.A (pyNext (.ref it)) (fun r s1 => r = none ∧ Inv X pins σ H s1) E s
  self : ∀ (A : Around) (i : Nat) (s : Shared) (Q : Value → Shared → Prop) (E : Value → Shared → Prop), tn i s.heap → Q (.ref it) s → wpAny (model P w) A (pyIter (.ref it)) Q E s
abbrev TI := St → Hp → (It → Hp → Prop) → Prop
/-- an iterator has come -/
def PIE (X : Cx) (pins : List (Addr × Obj)) (σ : St) (tg : Expr) (R : It → Hp → Prop) (itv : Value) (s2 : Shared) : Prop :=
  ∃ (it : Addr) (fp : List Addr) (tn : Nat → Heap → Prop) (J : It) (H' : Hp), itv = .ref it ∧ Inv X pins σ H' s2 ∧ Turn X.prog X.w X.K tg J fp it tn ∧ tn 0 s2.heap ∧ (∀ b ∈ fp, FpOk X pins H' b) ∧ R J H'
def PI (X : Cx) (tg iter : Expr) (wi : TI) : Prop :=
  ∀ (pins : List (Addr × Obj)) (s : Shared) (σ : St) (H : Hp) (R : It → Hp → Prop), Inv X pins σ H s → wi σ H R →
    wpAny (model X.prog X.w) X.A (eval iter X.env) (fun v s1 => wpAny (model X.prog X.w) X.A (pyIter v) (PIE X pins σ tg R) X.xe s1) X.xe s

/-- the step ahead of the store is nothing for an iterator that keeps no tuple -/
theorem go_of {M : Model} {A : Around} {E : Value → Shared → Prop} {s : Shared} {tg : Expr} {it : Addr} {u : Value} {o : Obj} {n : String} {vs : Array Value} {Q : Unit → Shared → Prop} (ho : s.heap.get? it = some o) (hc : o.cls = .type n) (hd : o.data = .fields vs)
    (hn : ["enumerate", "zip", "dict_itemiterator", "dict_reverseitemiterator", "odict_iterator", "itertools.zip_longest", "itertools.pairwise"].contains n = false) (hQ : Q () s) : wpAny M A (letOwnedTupleGo tg (.ref it) u) Q E s := by
  unfold letOwnedTupleGo
  cases tg <;> first
    | exact wpAny_pure hQ
    | (cases u <;> first
        | exact wpAny_pure hQ
        | (refine wpAny_bind (wpAny_load ho ?_)
           rw [hc, hd]
           show wpAny M A (if (["enumerate", "zip", "dict_itemiterator", "dict_reverseitemiterator", "odict_iterator", "itertools.zip_longest", "itertools.pairwise"].contains n && vs[0]? == some (rawInt _)) = true then _ else _) Q E s
           rw [if_neg (by intro h; rw [hn, Bool.false_and] at h; cases h)]
           exact wpAny_pure hQ))

/-- the list at a, as it stands at each turn (a loop may append to it) -/
def Itl (K : PySem.W.Frag) (a : Addr) : It :=
  ⟨fun i H => ∃ xs x, SqL K H a xs ∧ xs[i]? = some x, fun i H x H' => H' = H ∧ ∀ xs, SqL K H a xs → xs[i]? = some x, fun i H => ∃ xs, SqL K H a xs ∧ xs.length ≤ i⟩
def Itt (K : PySem.W.Frag) (a : Addr) : It :=
  ⟨fun i H => ∃ xs x, SqT K H a xs ∧ xs[i]? = some x, fun i H x H' => H' = H ∧ ∀ xs, SqT K H a xs → xs[i]? = some x, fun i H => ∃ xs, SqT K H a xs ∧ xs.length ≤ i⟩
/-- lo, lo + 1, .. (n of them) -/
def Itr (lo : Int) (n : Nat) : It := ⟨fun i _ => i < n, fun i H x H' => H' = H ∧ x = .int (lo + i), fun i _ => n ≤ i⟩
theorem turn_list {P : Program} {w : World} {K : PySem.W.Frag} {tg : Expr} (a it : Addr) : Turn P w K tg (Itl K a) [it] it (fun i h => h.IsListIter it a i) where
  mem := by simp
  obj := fun i h st b hb => by
    have e : b = it := by simpa using hb
    subst e
    obtain ⟨o, e, c, d⟩ := st
    exact ⟨o, e, fun v z => by rw [d] at z; cases z⟩
  keep := fun i h h' st k => st.at fun o e => k it (by simp) o e
  item := by
    intro X hP hw hK hc i pins s σ H E I hf st hg
    subst hP hw hK
    obtain ⟨xs, x, hq, hx⟩ := hg
    obtain ⟨its, rv, p, hz⟩ := I.list hq
    obtain ⟨u, hu, ru⟩ := rv.get hx
    obtain ⟨f0, f1, f2, f3, f4, f5⟩ := hf it (by simp)
    refine wpAny_pyNext_list_item st p.isList (x := u) (by simpa using hu) fun h' st' sb => ?_
    have I1 : Inv X pins σ H { s with heap := h' } := I.turned (t' := s.toks) (fun b o hb e => (sb.2 b hb).trans e) f0 f1 f3 f4 f5
    obtain ⟨o, e, c, d⟩ := id st'
    exact ⟨u, rfl, go_of (s := { s with heap := h' }) e c d (by decide) ⟨x, H, I1, ru, ⟨rfl, fun ys hy => by rw [I.list_inj hy hq]; exact hx⟩, st', fun b hb => (hf b hb).1⟩⟩
  done := by
    intro X hP hw hK hc i pins s σ H E I hf st hg
    subst hP hw hK
    obtain ⟨xs, hq, hx⟩ := hg
    obtain ⟨its, rv, p, hz⟩ := I.list hq
    obtain ⟨f0, f1, f2, f3, f4, f5⟩ := hf it (by simp)
    have hl := rv.length
    exact wpAny_pyNext_list_end (I.ok.hd hc) st p.isList (by simp; omega) fun h' eb => ⟨rfl, I.turned (t' := s.toks) (fun b o hb e => eb b o hb e) f0 f1 f3 f4 f5⟩
  self := fun _ _ _ _ _ st h => wpAny_pyIter_listiter st h
theorem turn_tuple {P : Program} {w : World} {K : PySem.W.Frag} {tg : Expr} (a it : Addr) : Turn P w K tg (Itt K a) [it] it (fun i h => h.IsTupleIter it a i) where
  mem := by simp
  obj := fun i h st b hb => by
    have e : b = it := by simpa using hb
    subst e
    obtain ⟨o, e, c, d⟩ := st
    exact ⟨o, e, fun v z => by rw [d] at z; cases z⟩
  keep := fun i h h' st k => st.at fun o e => k it (by simp) o e
  item := by
    intro X hP hw hK hc i pins s σ H E I hf st hg
    subst hP hw hK
    obtain ⟨xs, x, hq, hx⟩ := hg
    obtain ⟨its, rv, p, hz⟩ := I.tuple hq
    obtain ⟨u, hu, ru⟩ := rv.get hx
    obtain ⟨f0, f1, f2, f3, f4, f5⟩ := hf it (by simp)
    refine wpAny_pyNext_tuple_item st (show s.heap.IsTuple a its.toArray from p) (x := u) (by simpa using hu) fun h' st' sb => ?_
    have I1 : Inv X pins σ H { s with heap := h' } := I.turned (t' := s.toks) (fun b o hb e => (sb.2 b hb).trans e) f0 f1 f3 f4 f5
    obtain ⟨o, e, c, d⟩ := id st'
    exact ⟨u, rfl, go_of (s := { s with heap := h' }) e c d (by decide) ⟨x, H, I1, ru, ⟨rfl, fun ys hy => by rw [I.tuple_inj hy hq]; exact hx⟩, st', fun b hb => (hf b hb).1⟩⟩
  done := by
    intro X hP hw hK hc i pins s σ H E I hf st hg
    subst hP hw hK
    obtain ⟨xs, hq, hx⟩ := hg
    obtain ⟨its, rv, p, hz⟩ := I.tuple hq
    obtain ⟨f0, f1, f2, f3, f4, f5⟩ := hf it (by simp)
    have hl := rv.length
    exact wpAny_pyNext_tuple_end (I.ok.hd hc) st (show s.heap.IsTuple a its.toArray from p) (by simp; omega) fun h' eb => ⟨rfl, I.turned (t' := s.toks) (fun b o hb e => eb b o hb e) f0 f1 f3 f4 f5⟩
  self := fun _ _ _ _ _ st h => wpAny_pyIter_tupleiter st h
theorem turn_range {P : Program} {w : World} {K : PySem.W.Frag} {tg : Expr} (it : Addr) (lo : Int) (n : Nat) : Turn P w K tg (Itr lo n) [it] it (fun i h => IsRangeIter h it (lo + (i : Nat) * 1) ((n : Int) - (i : Nat)) 1) where
  mem := by simp
  obj := fun i h st b hb => by
    have e : b = it := by simpa using hb
    subst e
    exact ⟨_, st, fun v z => by
      have z' : Data.fields _ = Data.cell v := z
      cases z'⟩
  keep := fun i h h' st k => k it (by simp) _ st
  item := by
    intro X hP hw hK hc i pins s σ H E I hf st hg
    subst hP hw hK
    obtain ⟨f0, f1, f2, f3, f4, f5⟩ := hf it (by simp)
    have W := Walks.range (prog := X.prog) (w := X.w) (I.ok.hd hc) it lo 1 n
    refine W.item i s _ _ hg st fun v h' tk hv st' kk => ?_
    obtain ⟨t, rfl⟩ := hv
    have I1 : Inv X pins σ H { s with heap := h', toks := tk } := I.turned (fun b o hb e => kk b o (by simpa using hb) e) f0 f1 f3 f4 f5
    refine ⟨_, rfl, go_of (s := { s with heap := h', toks := tk }) (n := "range_iterator") st' rfl rfl (by decide) ⟨.int (lo + i), H, I1, ⟨t, ?_⟩, ⟨rfl, rfl⟩, st', fun b hb => (hf b hb).1⟩⟩
    rw [Int.mul_one]
  done := by
    intro X hP hw hK hc i pins s σ H E I hf st hg
    subst hP hw hK
    obtain ⟨f0, f1, f2, f3, f4, f5⟩ := hf it (by simp)
    exact wpAny_pyNext_range_end (I.ok.hd hc) st (by have : n ≤ i := hg; omega) fun h' eb => ⟨rfl, I.turned (t' := s.toks) (fun b o hb e => eb b o hb e) f0 f1 f3 f4 f5⟩
  self := fun _ _ _ _ _ st h => wpAny_pyIter_rangeiter st h
end L2

namespace L2
open PySem PySem.Spec PyProof.Rows
section
variable {X : Cx} {tg : Expr}
def iList (K : PySem.W.Frag) (tl : TE) : TI := fun σ H R => tl σ H fun x H1 => ∃ a, x = .ref a ∧ (∃ xs, SqL K H1 a xs) ∧ R (Itl K a) H1
def iTup (K : PySem.W.Frag) (tl : TE) : TI := fun σ H R => tl σ H fun x H1 => ∃ a, x = .ref a ∧ (∃ xs, SqT K H1 a xs) ∧ R (Itt K a) H1
theorem pi_list {l : Expr} {tl : TE} (hl : PE X l tl) : PI X tg l (iList X.K tl) := by
  intro pins s σ H R I h
  refine thn (hl pins s σ H _ I h) fun v s1 ⟨x, H1, I1, r1, q1⟩ => ?_
  obtain ⟨a, e, ⟨xs, hq⟩, q⟩ := q1
  subst e
  cases r1
  obtain ⟨its, rv, p, hz⟩ := I1.list hq
  refine wpAny_pyIter_list p.isList ?_
  refine ⟨s1.heap.objs.size, [s1.heap.objs.size], _, _, H1, rfl, I1.kept (t' := s1.toks) fun b o e => Heap.get?_push_of_some _ e, turn_list a _, ⟨_, Heap.get?_push_size _ rfl, rfl, rfl⟩, fun b hb => ?_, q⟩
  have e : b = s1.heap.objs.size := by simpa using hb
  subst e
  exact I1.fpOk (Nat.le_refl _) (I1.hok.fresh (Nat.le_refl _))
theorem pi_tup {l : Expr} {tl : TE} (hl : PE X l tl) : PI X tg l (iTup X.K tl) := by
  intro pins s σ H R I h
  refine thn (hl pins s σ H _ I h) fun v s1 ⟨x, H1, I1, r1, q1⟩ => ?_
  obtain ⟨a, e, ⟨xs, hq⟩, q⟩ := q1
  subst e
  cases r1
  obtain ⟨its, rv, p, hz⟩ := I1.tuple hq
  refine wpAny_pyIter_tuple (show s1.heap.IsTuple a its.toArray from p) ?_
  refine ⟨s1.heap.objs.size, [s1.heap.objs.size], _, _, H1, rfl, I1.kept (t' := s1.toks) fun b o e => Heap.get?_push_of_some _ e, turn_tuple a _, ⟨_, Heap.get?_push_size _ rfl, rfl, rfl⟩, fun b hb => ?_, q⟩
  have e : b = s1.heap.objs.size := by simpa using hb
  subst e
  exact I1.fpOk (Nat.le_refl _) (I1.hok.fresh (Nat.le_refl _))
/-- a range object just made, walked -/
theorem range_it {pins : List (Addr × Obj)} {σ : St} {H : Hp} {s : Shared} {R : It → Hp → Prop} {E : Value → Shared → Prop} {lo hi : Int} {t u v : Tok} {tk : Nat} (I : Inv X pins σ H s) (h1 : -(2 ^ 62) ≤ lo) (h2 : lo < 2 ^ 62) (h3 : -(2 ^ 62) ≤ hi) (h4 : hi < 2 ^ 62)
    (q : R (Itr lo (hi - lo).toNat) H) : wpAny (model X.prog X.w) X.A (pyIter (.ref s.heap.objs.size)) (PIE X pins σ tg R) E { s with heap := s.heap.push { cls := .type "range", data := .fields #[.int lo t, .int hi u, .int 1 v] }, toks := tk } := by
  refine wpAny_pyIter_range (IsRange.new ..) (small_one h1 h2 h3 h4) ?_
  have I1 : Inv X pins σ H { s with heap := s.heap.push { cls := .type "range", data := .fields #[.int lo t, .int hi u, .int 1 v] }, toks := tk } := I.kept fun b o e => Heap.get?_push_of_some _ e
  refine ⟨(s.heap.push { cls := .type "range", data := .fields #[.int lo t, .int hi u, .int 1 v] }).objs.size, [(s.heap.push { cls := .type "range", data := .fields #[.int lo t, .int hi u, .int 1 v] }).objs.size], _, _, H, rfl,
    I1.kept (t' := tk) fun b o e => Heap.get?_push_of_some _ e, turn_range _ lo (hi - lo).toNat, ?_, fun b hb => ?_, q⟩
  · have e1 : lo + ((0 : Nat) : Int) * 1 = lo := by simp
    have e2 : (((hi - lo).toNat : Nat) : Int) - ((0 : Nat) : Int) = Builtin.Range.rangeSize lo hi 1 := by rw [rangeSize_one]; split <;> omega
    show IsRangeIter _ _ (lo + ((0 : Nat) : Int) * 1) ((((hi - lo).toNat : Nat) : Int) - ((0 : Nat) : Int)) 1
    rw [e1, e2]
    exact Heap.get?_push_size _ rfl
  · have e : b = (s.heap.push { cls := .type "range", data := .fields #[.int lo t, .int hi u, .int 1 v] }).objs.size := by simpa using hb
    subst e
    exact I1.fpOk (Nat.le_refl _) (I1.hok.fresh (Nat.le_refl _))
def iRng1 (ta : TA) : TI := fun σ H R => ta σ H fun vs H1 => ∃ j : Int, vs = [.int j] ∧ -(2 ^ 62) ≤ j ∧ j < 2 ^ 62 ∧ R (Itr 0 j.toNat) H1
def iRng2 (ta : TA) : TI := fun σ H R => ta σ H fun vs H1 => ∃ i j : Int, vs = [.int i, .int j] ∧ (-(2 ^ 62) ≤ i ∧ i < 2 ^ 62 ∧ -(2 ^ 62) ≤ j ∧ j < 2 ^ 62) ∧ R (Itr i (j - i).toNat) H1
theorem pi_range1 {a : Expr} {ta : TA} {p pos : Pos} (hg : Gl X "range") (hm : X.mg "range" = none) (ha : PA X [a] ta) (hs : starEach [a] X.env = [(false, eval a X.env)] := by rfl) : PI X tg (.Call (.Name "range" p) [a] [] pos) (iRng1 ta) := by
  intro pins s σ H R I h
  refine Call_ (ld_blt I hg hm boot_range (PyProof.Rows.callWith_type1 (thn (ha pos pins s σ H _ I h) fun us s1 ⟨vs, H1, I1, r1, q1⟩ => ?_) hs rfl))
  obtain ⟨j, e, q1, q2, q⟩ := q1
  subst e
  cases r1 with
  | cons r rr =>
    cases rr
    obtain ⟨t, rfl⟩ := r
    exact call_range_1 (range_it I1 (by omega) (by omega) q1 q2 (by simpa using q))
theorem pi_range2 {a b : Expr} {ta : TA} {p pos : Pos} (hg : Gl X "range") (hm : X.mg "range" = none) (ha : PA X [a, b] ta) (hs : starEach [a, b] X.env = [(false, eval a X.env), (false, eval b X.env)] := by rfl) (hs2 : starEach [b] X.env = [(false, eval b X.env)] := by rfl) :
    PI X tg (.Call (.Name "range" p) [a, b] [] pos) (iRng2 ta) := by
  intro pins s σ H R I h
  refine Call_ (ld_blt I hg hm boot_range (PyProof.Rows.callWith_type1 (thn (ha pos pins s σ H _ I h) fun us s1 ⟨vs, H1, I1, r1, q1⟩ => ?_) (by rw [hs, hs2]) (by rw [hs2]; rfl)))
  obtain ⟨i, j, e, ⟨q1, q2, q3, q4⟩, q⟩ := q1
  subst e
  cases r1 with
  | cons r rr =>
    cases rr with
    | cons r' rr =>
      cases rr
      obtain ⟨t, rfl⟩ := r
      obtain ⟨t', rfl⟩ := r'
      exact call_range_2 (range_it I1 q1 q2 q3 q4 q)

/-! ### for -/
/-- W: the invariant by the turn and a measure; N: what the body is to reach -/
def tFor (wi : TI) (g : TG) (tb : TS) : TS := fun D σ H => wi σ H fun J H1 => ∃ W : Nat → Nat → St → Hp → Prop, (∃ m, W 0 m σ H1) ∧ ∀ i m σ H, W i m σ H →
  (J.stop i H ∧ D.nx σ H) ∨ (J.go i H ∧ ∃ N : St → Hp → Prop, (∀ σ' H', N σ' H' → ∃ m', m' < m ∧ W (i + 1) m' σ' H') ∧ ∀ x H', J.yld i H x H' → g x σ H' fun σ2 H2 => tb { D with nx := N, ct := N, bk := D.nx } σ2 H2)
/-- the records at fp as they stand -/
def pinsAt (fp : List Addr) (h : Heap) : List (Addr × Obj) := fp.filterMap fun b => (h.get? b).map fun o => (b, o)
theorem mem_pinsAt {fp : List Addr} {h : Heap} {b : Addr} {o : Obj} (hb : b ∈ fp) (e : h.get? b = some o) : (b, o) ∈ pinsAt fp h := List.mem_filterMap.mpr ⟨b, hb, by rw [e]; rfl⟩
theorem of_pinsAt {fp : List Addr} {h : Heap} {p : Addr × Obj} (hp : p ∈ pinsAt fp h) : p.1 ∈ fp ∧ h.get? p.1 = some p.2 := by
  obtain ⟨b, hb, e⟩ := List.mem_filterMap.mp hp
  cases q : h.get? b with
  | none => rw [q] at e; cases e
  | some o =>
    rw [q] at e
    have e' : (b, o) = p := Option.some.inj e
    subst e'
    exact ⟨hb, q⟩
theorem Inv.pinned {pins : List (Addr × Obj)} {σ : St} {H : Hp} {s : Shared} {fp : List Addr} (I : Inv X pins σ H s) (hf : ∀ b ∈ fp, FpOk X pins H b) (ho : ∀ b ∈ fp, ∃ o, s.heap.get? b = some o ∧ ∀ v, o.data ≠ .cell v) : Inv X (pins ++ pinsAt fp s.heap) σ H s :=
  I.pins_of fun p hp => (List.mem_append.mp hp).elim (fun z => I.pin p (List.mem_append_right _ z)) fun z => by
    obtain ⟨hb, e⟩ := of_pinsAt z
    obtain ⟨f0, f1, f2, _⟩ := hf p.1 hb
    obtain ⟨o, e', d⟩ := ho p.1 hb
    rw [e] at e'; cases e'
    exact ⟨e, f0, f1, f2, d⟩
theorem Inv.unpinned {pins pl : List (Addr × Obj)} {σ : St} {H : Hp} {s : Shared} (I : Inv X (pins ++ pl) σ H s) : Inv X pins σ H s := I.pins_of fun p hp => I.pin p (List.mem_append_right _ (List.mem_append_left _ hp))
theorem ps_for {iter : Expr} {body : List Stmt} {wi : TI} {g : TG} {tb : TS} {pos : Pos} (hp : PassesOwn (model X.prog X.w) X.A X.env X.xe) (hc : X.calm = true) (hi : PI X tg iter wi) (hg : PG X tg g) (hb : PSs X body tb)
    (hs : ∀ x, foldedSetIterable iter X.env x = pure x := by intro _; rfl) : PS X (.For tg iter body [] pos) (tFor wi g tb) := by
  intro pins s σ H D I h
  refine wpAny_For (thn (hi pins s σ H _ I h) fun v s1 h1 => thn h1 fun itv s2 h2 => ?_) hs
  obtain ⟨it, fp, tn, J, H2, e, I2, T, st2, f2, W, ⟨m0, w0⟩, turn⟩ := h2
  subst e
  -- what stays true of the iterator's objects through the loop
  have stat : ∀ {H' : Hp}, (∀ b ∈ fp, H' b = none) → ∀ b ∈ fp, FpOk X pins H' b := fun hn b hb => ⟨hn b hb, (f2 b hb).2⟩
  refine codeAny_forLoop_any (fun n s' => ∃ i σ' H', Inv X pins σ' H' s' ∧ tn i s'.heap ∧ (∀ b ∈ fp, H' b = none) ∧ W i n σ' H') ?_ m0 ⟨0, σ, H2, I2, st2, fun b hb => (f2 b hb).1, w0⟩
  rintro n s3 ⟨i, σ3, H3, I3, st3, fr3, w3⟩
  rcases turn i n σ3 H3 w3 with ⟨stop, qn⟩ | ⟨go, N, hN, step⟩
  · refine wpAny_passesOwn hp (thn (T.done X rfl rfl rfl hc i pins s3 σ3 H3 X.xe I3 (stat fr3) st3 stop) fun r s4 ⟨hr, I4⟩ => ?_)
    subst hr
    exact wpAny_execs_nil ⟨σ3, H3, I4, qn⟩
  · refine wpAny_passesOwn hp (thn (T.item X rfl rfl rfl hc i pins s3 σ3 H3 X.xe I3 (stat fr3) st3 go) fun r s4 ⟨u, hr, h4⟩ => ?_)
    subst hr
    refine wpAny_passesOwn hp (thn h4 fun _ s5 ⟨x, H5, I5, r5, y5, st5, fr5⟩ => ?_)
    have I5' := I5.pinned (stat fr5) (T.obj _ _ st5)
    refine wpAny_passesOwn hp (thn (hg _ s5 σ3 H5 x u _ I5' r5 (step x H5 y5)) fun _ s6 ⟨σ6, H6, I6, q6⟩ => ?_)
    refine wpAny_passesOwn hp (thn (hb _ s6 σ6 H6 _ I6 q6) fun f s7 q7 => ?_)
    have again : ∀ {σ7 : St} {H7 : Hp}, Inv X (pins ++ pinsAt fp s5.heap) σ7 H7 s7 → N σ7 H7 → ∃ m, m < n ∧ ∃ i σ' H', Inv X pins σ' H' s7 ∧ tn i s7.heap ∧ (∀ b ∈ fp, H' b = none) ∧ W i m σ' H' := fun {σ7 H7} I7 n7 => by
      obtain ⟨m', hm, w7⟩ := hN σ7 H7 n7
      refine ⟨m', hm, i + 1, σ7, H7, I7.unpinned, T.keep _ _ _ st5 fun b hb o e => (I7.pin (b, o) (List.mem_append_right _ (List.mem_append_right _ (mem_pinsAt hb e)))).1, fun b hb => ?_, w7⟩
      obtain ⟨o, e, d⟩ := T.obj _ _ st5 b hb
      exact (I7.pin (b, o) (List.mem_append_right _ (List.mem_append_right _ (mem_pinsAt hb e)))).2.1
    cases f with
    | next => obtain ⟨σ7, H7, I7, n7⟩ := q7; exact again I7 n7
    | cont => obtain ⟨σ7, H7, I7, n7⟩ := q7; exact again I7 n7
    | brk => obtain ⟨σ7, H7, I7, q7⟩ := q7; exact ⟨σ7, H7, I7.unpinned, q7⟩
    | ret v => obtain ⟨x7, σ7, H7, I7, r7, q7⟩ := q7; exact ⟨x7, σ7, H7, I7.unpinned, r7, q7⟩
end

/-! ### the forms one uses -/
/-- over a list that the body leaves as it is -/
theorem for_list {K : PySem.W.Frag} {a : Addr} {xs : List V} {g : TG} {tb : TS} {D : Ends} {σ : St} {H : Hp} (Pv : Nat → St → Hp → Prop) (h0 : Pv 0 σ H) (hl : ∀ i σ H, i ≤ xs.length → Pv i σ H → SqL K H a xs)
    (hs : ∀ i x σ H, xs[i]? = some x → Pv i σ H → g x σ H fun σ2 H2 => tb { D with nx := Pv (i + 1), ct := Pv (i + 1), bk := D.nx } σ2 H2) (hd : ∀ σ H, Pv xs.length σ H → D.nx σ H) :
    ∃ W : Nat → Nat → St → Hp → Prop, (∃ m, W 0 m σ H) ∧ ∀ i m σ H, W i m σ H →
      ((Itl K a).stop i H ∧ D.nx σ H) ∨ ((Itl K a).go i H ∧ ∃ N : St → Hp → Prop, (∀ σ' H', N σ' H' → ∃ m', m' < m ∧ W (i + 1) m' σ' H') ∧ ∀ x H', (Itl K a).yld i H x H' → g x σ H' fun σ2 H2 => tb { D with nx := N, ct := N, bk := D.nx } σ2 H2) := by
  refine ⟨fun i m σ H => m = xs.length - i ∧ i ≤ xs.length ∧ Pv i σ H, ⟨xs.length, by simp, Nat.zero_le _, h0⟩, ?_⟩
  rintro i m σ H ⟨rfl, hi, p⟩
  have q := hl i σ H hi p
  by_cases hlt : i < xs.length
  · refine .inr ⟨⟨xs, xs[i], q, by simp [hlt]⟩, Pv (i + 1), fun σ' H' p' => ⟨xs.length - (i + 1), by omega, rfl, hlt, p'⟩, fun x H' y => ?_⟩
    obtain ⟨e, y⟩ := y
    subst e
    exact hs i x σ _ (y xs q) p
  · have e : i = xs.length := by omega
    subst e
    exact .inl ⟨⟨xs, q, Nat.le_refl _⟩, hd σ H p⟩
theorem for_tup {K : PySem.W.Frag} {a : Addr} {xs : List V} {g : TG} {tb : TS} {D : Ends} {σ : St} {H : Hp} (Pv : Nat → St → Hp → Prop) (h0 : Pv 0 σ H) (hl : ∀ i σ H, i ≤ xs.length → Pv i σ H → SqT K H a xs)
    (hs : ∀ i x σ H, xs[i]? = some x → Pv i σ H → g x σ H fun σ2 H2 => tb { D with nx := Pv (i + 1), ct := Pv (i + 1), bk := D.nx } σ2 H2) (hd : ∀ σ H, Pv xs.length σ H → D.nx σ H) :
    ∃ W : Nat → Nat → St → Hp → Prop, (∃ m, W 0 m σ H) ∧ ∀ i m σ H, W i m σ H →
      ((Itt K a).stop i H ∧ D.nx σ H) ∨ ((Itt K a).go i H ∧ ∃ N : St → Hp → Prop, (∀ σ' H', N σ' H' → ∃ m', m' < m ∧ W (i + 1) m' σ' H') ∧ ∀ x H', (Itt K a).yld i H x H' → g x σ H' fun σ2 H2 => tb { D with nx := N, ct := N, bk := D.nx } σ2 H2) := by
  refine ⟨fun i m σ H => m = xs.length - i ∧ i ≤ xs.length ∧ Pv i σ H, ⟨xs.length, by simp, Nat.zero_le _, h0⟩, ?_⟩
  rintro i m σ H ⟨rfl, hi, p⟩
  have q := hl i σ H hi p
  by_cases hlt : i < xs.length
  · refine .inr ⟨⟨xs, xs[i], q, by simp [hlt]⟩, Pv (i + 1), fun σ' H' p' => ⟨xs.length - (i + 1), by omega, rfl, hlt, p'⟩, fun x H' y => ?_⟩
    obtain ⟨e, y⟩ := y
    subst e
    exact hs i x σ _ (y xs q) p
  · have e : i = xs.length := by omega
    subst e
    exact .inl ⟨⟨xs, q, Nat.le_refl _⟩, hd σ H p⟩
theorem for_range {lo : Int} {n : Nat} {g : TG} {tb : TS} {D : Ends} {σ : St} {H : Hp} (Pv : Nat → St → Hp → Prop) (h0 : Pv 0 σ H)
    (hs : ∀ i σ H, i < n → Pv i σ H → g (.int (lo + i)) σ H fun σ2 H2 => tb { D with nx := Pv (i + 1), ct := Pv (i + 1), bk := D.nx } σ2 H2) (hd : ∀ σ H, Pv n σ H → D.nx σ H) :
    ∃ W : Nat → Nat → St → Hp → Prop, (∃ m, W 0 m σ H) ∧ ∀ i m σ H, W i m σ H →
      ((Itr lo n).stop i H ∧ D.nx σ H) ∨ ((Itr lo n).go i H ∧ ∃ N : St → Hp → Prop, (∀ σ' H', N σ' H' → ∃ m', m' < m ∧ W (i + 1) m' σ' H') ∧ ∀ x H', (Itr lo n).yld i H x H' → g x σ H' fun σ2 H2 => tb { D with nx := N, ct := N, bk := D.nx } σ2 H2) := by
  refine ⟨fun i m σ H => m = n - i ∧ i ≤ n ∧ Pv i σ H, ⟨n, by simp, Nat.zero_le _, h0⟩, ?_⟩
  rintro i m σ H ⟨rfl, hi, p⟩
  by_cases hlt : i < n
  · refine .inr ⟨hlt, Pv (i + 1), fun σ' H' p' => ⟨n - (i + 1), by omega, rfl, hlt, p'⟩, fun x H' y => ?_⟩
    obtain ⟨e, y⟩ := y
    subst e y
    exact hs i σ _ hlt p
  · have e : i = n := by omega
    subst e
    exact .inl ⟨Nat.le_refl _, hd σ H p⟩
end L2

namespace L2
open PySem PySem.Spec PyProof.Rows

abbrev R2 := V → V → Hp → VK → Prop
/-- a two-place operation on values: f is binaryOp op, inplaceOp op or compareOp op -/
def OpR (X : Cx) (f : Value → Value → Sem Value) (r : R2) : Prop :=
  ∀ (pins : List (Addr × Obj)) (s : Shared) (σ : St) (H : Hp) (x y : V) (v u : Value) (Q : VK), Inv X pins σ H s → RelV x v → RelV y u → r x y H Q →
    wpAny (model X.prog X.w) X.A (f v u) (EP X pins σ Q) X.xe s
/-- a one-place operation -/
def UnR (X : Cx) (f : Value → Sem Value) (r : V → Hp → VK → Prop) : Prop :=
  ∀ (pins : List (Addr × Obj)) (s : Shared) (σ : St) (H : Hp) (x : V) (v : Value) (Q : VK), Inv X pins σ H s → RelV x v → r x H Q →
    wpAny (model X.prog X.w) X.A (f v) (EP X pins σ Q) X.xe s
/-- a call of a value that is known (a builtin, a type) with values -/
def CallR (X : Cx) (f : Value) (r : List V → Hp → VK → Prop) : Prop :=
  ∀ (pins : List (Addr × Obj)) (s : Shared) (σ : St) (H : Hp) (xs : List V) (us : List Value) (Q : VK), Inv X pins σ H s → Vals xs us → r xs H Q →
    wpAny (model X.prog X.w) X.A (call f us) (EP X pins σ Q) X.xe s
def tOp (r : R2) (ta tb : TE) : TE := fun σ H Q => ta σ H fun x H1 => tb σ H1 fun y H2 => r x y H2 Q
def tUn (r : V → Hp → VK → Prop) (ta : TE) : TE := fun σ H Q => ta σ H fun x H1 => r x H1 Q
/-- ints in, under C, and a value out -/
def rI (C : Int → Int → Prop) (g : Int → Int → V) : R2 := fun x y H Q => ∃ i j, x = .int i ∧ y = .int j ∧ C i j ∧ Q (g i j) H
def rI0 (g : Int → Int → V) : R2 := fun x y H Q => ∃ i j, x = .int i ∧ y = .int j ∧ Q (g i j) H
def rU (g : Int → V) : V → Hp → VK → Prop := fun x H Q => ∃ i, x = .int i ∧ Q (g i) H

section
variable {X : Cx} {a b c : Expr} {ta tb tc : TE} {pos : Pos}

theorem binT (ha : PE X a ta) (hb : PE X b tb) {pins : List (Addr × Obj)} {s : Shared} {σ : St} {H : Hp} {R : V → V → Hp → Prop} (I : Inv X pins σ H s)
    (h : ta σ H fun x H1 => tb σ H1 fun y H2 => R x y H2) {Q : Value → Shared → Prop} {f : Value → Value → Sem Value}
    (hf : ∀ v u s2 x y H2, Inv X pins σ H2 s2 → RelV x v → RelV y u → R x y H2 → wpAny (model X.prog X.w) X.A (f v u) Q X.xe s2) :
    wpAny (model X.prog X.w) X.A (eval a X.env) (fun v s₁ => wpAny (model X.prog X.w) X.A (eval b X.env) (fun u s₂ => wpAny (model X.prog X.w) X.A (f v u) Q X.xe s₂) X.xe s₁) X.xe s := by
  refine thn (ha pins s σ H _ I h) fun v s1 ⟨x, H1, I1, r1, q1⟩ => ?_
  refine thn (hb pins s1 σ H1 _ I1 q1) fun u s2 ⟨y, H2, I2, r2, q2⟩ => ?_
  exact hf v u s2 x y H2 I2 r1 r2 q2

theorem pe_op {op : Operator} {r : R2} (ho : OpR X (binaryOp op) r) (ha : PE X a ta) (hb : PE X b tb) : PE X (.BinOp a op b pos) (tOp r ta tb) := by
  intro pins s σ H Q I h
  exact wpAny_BinOp (binT ha hb I h fun v u s2 x y H2 I2 rx ry q => ho pins s2 σ H2 x y v u Q I2 rx ry q)
theorem pe_un {op : UnaryOp} {r : V → Hp → VK → Prop} (ho : UnR X (unaryOp op) r) (ha : PE X a ta) : PE X (.UnaryOp op a pos) (tUn r ta) := by
  intro pins s σ H Q I h
  exact UnaryOp_ (thn (ha pins s σ H _ I h) fun v s1 ⟨x, H1, I1, r1, q1⟩ => ho pins s1 σ H1 x v Q I1 r1 q1)
/-! ### ints -/
theorem opI {f : Value → Value → Sem Value} {C : Int → Int → Prop} {g : Int → Int → Int}
    (rule : ∀ (i j : Int) (t u : Tok) (s : Shared) (Q : Value → Shared → Prop) (E : Value → Shared → Prop), C i j → Q (.int (g i j) s.toks) { s with toks := s.toks + 1 } → wpAny (model X.prog X.w) X.A (f (.int i t) (.int j u)) Q E s) :
    OpR X f (rI C fun i j => .int (g i j)) := by
  intro pins s σ H x y v u Q I rx ry h
  obtain ⟨i, j, rfl, rfl, hc, q⟩ := h
  obtain ⟨t, rfl⟩ := rx
  obtain ⟨t', rfl⟩ := ry
  exact rule i j t t' s _ _ hc ⟨.int (g i j), H, I.tok _, ⟨_, rfl⟩, q⟩
theorem opI0 {f : Value → Value → Sem Value} {g : Int → Int → Int}
    (rule : ∀ (i j : Int) (t u : Tok) (s : Shared) (Q : Value → Shared → Prop) (E : Value → Shared → Prop), Q (.int (g i j) s.toks) { s with toks := s.toks + 1 } → wpAny (model X.prog X.w) X.A (f (.int i t) (.int j u)) Q E s) :
    OpR X f (rI0 fun i j => .int (g i j)) := by
  intro pins s σ H x y v u Q I rx ry h
  obtain ⟨i, j, rfl, rfl, q⟩ := h
  obtain ⟨t, rfl⟩ := rx
  obtain ⟨t', rfl⟩ := ry
  exact rule i j t t' s _ _ ⟨.int (g i j), H, I.tok _, ⟨_, rfl⟩, q⟩
theorem opB0 {f : Value → Value → Sem Value} {g : Int → Int → Bool}
    (rule : ∀ (i j : Int) (t u : Tok) (s : Shared) (Q : Value → Shared → Prop) (E : Value → Shared → Prop), Q (.bool (g i j)) s → wpAny (model X.prog X.w) X.A (f (.int i t) (.int j u)) Q E s) :
    OpR X f (rI0 fun i j => .bl (g i j)) := by
  intro pins s σ H x y v u Q I rx ry h
  obtain ⟨i, j, rfl, rfl, q⟩ := h
  obtain ⟨t, rfl⟩ := rx
  obtain ⟨t', rfl⟩ := ry
  exact rule i j t t' s _ _ ⟨.bl (g i j), H, I, rfl, q⟩

def CDiv (i j : Int) : Prop := 0 < j ∧ j < 1073741824
def CPow (i j : Int) : Prop := 0 ≤ j ∧ j ≤ 1000000 ∧ i.natAbs < 2 ^ 64
def CMul (i j : Int) : Prop := (-(2 ^ 64) < i ∧ i < 2 ^ 64) ∨ (-(2 ^ 64) < j ∧ j < 2 ^ 64)
theorem CMul.ok {i j : Int} (h : CMul i j) : IntMulOk i j := by
  rcases h with ⟨h1, h2⟩ | ⟨h1, h2⟩
  · exact .of_left (intBits_le_64 h1 h2)
  · exact .of_right (intBits_le_64 h1 h2)
theorem op_add : OpR X (binaryOp .Add) (rI0 fun i j => .int (i + j)) := opI0 fun _ _ _ _ _ _ _ q => add_int q
theorem op_sub : OpR X (binaryOp .Sub) (rI0 fun i j => .int (i - j)) := opI0 fun _ _ _ _ _ _ _ q => sub_int q
theorem op_mul : OpR X (binaryOp .Mult) (rI CMul fun i j => .int (i * j)) := opI fun _ _ _ _ _ _ _ hc q => mul_int q hc.ok
/-- // by a positive divisor -/
theorem op_fdiv : OpR X (binaryOp .FloorDiv) (rI CDiv fun i j => .int (i / j)) := opI fun i j _ _ _ _ _ hc q => by
  have h1 : (0 : Int) < j := hc.1
  have h2 : j < 1073741824 := hc.2
  exact floordiv_int (by omega) (by rw [Int.fdiv_eq_ediv_of_nonneg i (by omega)]; exact q) (.inl (PyProof.noPylong_small (by omega)))
/-- % by a positive divisor of any size -/
theorem op_mod : OpR X (binaryOp .Mod) (rI (fun _ j => 0 < j) fun i j => .int (i % j)) := opI fun i j _ _ _ _ _ hc q => by
  have h1 : (0 : Int) < j := hc
  exact mod_int' (by omega) (by rw [Int.fmod_eq_emod_of_nonneg i (by omega)]; exact q)
theorem op_pow : OpR X (binaryOp .Pow) (rI CPow fun i j => .int (i ^ j.toNat)) := opI fun _ _ _ _ _ _ _ hc q => pow_int_small hc.1 hc.2.1 hc.2.2 q
theorem unI {f : Value → Sem Value} {g : Int → Int}
    (rule : ∀ (i : Int) (t : Tok) (s : Shared) (Q : Value → Shared → Prop) (E : Value → Shared → Prop), Q (.int (g i) s.toks) { s with toks := s.toks + 1 } → wpAny (model X.prog X.w) X.A (f (.int i t)) Q E s) :
    UnR X f (rU fun i => .int (g i)) := by
  intro pins s σ H x v Q I rx h
  obtain ⟨i, rfl, q⟩ := h
  obtain ⟨t, rfl⟩ := rx
  exact rule i t s _ _ ⟨.int (g i), H, I.tok _, ⟨_, rfl⟩, q⟩
theorem un_neg : UnR X (unaryOp .USub) (rU fun i => .int (-i)) := unI fun _ _ _ _ _ q => neg_int q
/-! ### bools among ints: n += (a < b) -/
end

/-! ### comparisons -/
/-- the scalars that == tells apart as data does -/
def scal : V → V → Bool
  | .non, .non => true | .non, .int _ => true | .int _, .non => true | .non, .bl _ => true | .bl _, .non => true | .non, .str _ => true | .str _, .non => true
  | .int _, .int _ => true | .bl _, .bl _ => true | .str _, .str _ => true | .byt _, .byt _ => true
  | .int _, .str _ => true | .str _, .int _ => true | .bl _, .str _ => true | .str _, .bl _ => true
  | _, _ => false
def rEq : R2 := fun x y H Q => scal x y = true ∧ Q (.bl (decide (x = y))) H
def rNe : R2 := fun x y H Q => scal x y = true ∧ Q (.bl (!decide (x = y))) H

theorem dec_int {i j : Int} : decide (V.int i = V.int j) = (i == j) := by
  rw [Bool.eq_iff_iff]
  simp
theorem dec_bl {i j : Bool} : decide (V.bl i = V.bl j) = (i == j) := by
  rw [Bool.eq_iff_iff]
  simp
theorem dec_str {i j : Str} : decide (V.str i = V.str j) = (i == j) := by
  rw [Bool.eq_iff_iff]
  simp
theorem dec_byt {i j : Array UInt8} : decide (V.byt i = V.byt j) = (i.toList == j.toList) := by
  rw [Bool.eq_iff_iff]
  cases i
  cases j
  simp

section
variable {X : Cx} {a b c : Expr} {ta tb tc : TE} {pos : Pos}
theorem fin_bl {pins : List (Addr × Obj)} {σ : St} {H : Hp} {s : Shared} {Q : VK} {k k' : Bool} (I : Inv X pins σ H s) (q : Q (.bl k) H) (e : k = k') : EP X pins σ Q (.bool k') s := by
  subst e
  exact ⟨.bl k, H, I, rfl, q⟩
theorem op_eq : OpR X (compareOp .Eq) rEq := by
  intro pins s σ H x y v u Q I rx ry h
  obtain ⟨hs, q⟩ := h
  cases x with
  | non =>
    cases rx
    cases y with
    | non => cases ry; exact PySem.EqNone.eq_none_none (fin_bl I q (by simp))
    | bl j => cases ry; exact PySem.EqNone.eq_none_bool (fin_bl I q (by simp))
    | int j => obtain ⟨t', rfl⟩ := ry; exact PySem.EqNone.eq_none_int (fin_bl I q (by simp))
    | str j => obtain ⟨t', rfl⟩ := ry; exact PySem.EqNone.eq_none_str (fin_bl I q (by simp))
    | _ => exact absurd (show false = true from hs) Bool.false_ne_true
  | bl i =>
    cases rx
    cases y with
    | non => cases ry; exact PySem.EqNone.eq_bool_none (fin_bl I q (by simp))
    | bl j => cases ry; exact eq_bool (fin_bl I q dec_bl)
    | str j => obtain ⟨t', rfl⟩ := ry; exact PySem.EqMixed.eq_bool_str (fin_bl I q (by simp))
    | _ => exact absurd (show false = true from hs) Bool.false_ne_true
  | int i =>
    obtain ⟨t, rfl⟩ := rx
    cases y with
    | non => cases ry; exact PySem.EqNone.eq_int_none (fin_bl I q (by simp))
    | int j => obtain ⟨t', rfl⟩ := ry; exact eq_int (fin_bl I q dec_int)
    | str j => obtain ⟨t', rfl⟩ := ry; exact PySem.EqMixed.eq_int_str (fin_bl I q (by simp))
    | _ => exact absurd (show false = true from hs) Bool.false_ne_true
  | str i =>
    obtain ⟨t, rfl⟩ := rx
    cases y with
    | non => cases ry; exact PySem.EqNone.eq_str_none (fin_bl I q (by simp))
    | bl j => cases ry; exact PySem.EqMixed.eq_str_bool (fin_bl I q (by simp))
    | int j => obtain ⟨t', rfl⟩ := ry; exact PySem.EqMixed.eq_str_int (fin_bl I q (by simp))
    | str j => obtain ⟨t', rfl⟩ := ry; exact eq_str (fin_bl I q dec_str)
    | _ => exact absurd (show false = true from hs) Bool.false_ne_true
  | byt i =>
    obtain ⟨t, rfl⟩ := rx
    cases y with
    | byt j => obtain ⟨t', rfl⟩ := ry; exact PySem.W.eq_bytes (fin_bl I q dec_byt)
    | _ => exact absurd (show false = true from hs) Bool.false_ne_true
  | _ => cases y <;> exact absurd (show false = true from hs) Bool.false_ne_true
theorem op_ne : OpR X (compareOp .NotEq) rNe := by
  intro pins s σ H x y v u Q I rx ry h
  obtain ⟨hs, q⟩ := h
  cases x with
  | non =>
    cases rx
    cases y with
    | non => cases ry; exact PySem.EqNone.ne_none_none (fin_bl I q (by simp))
    | bl j => cases ry; exact PySem.EqNone.ne_none_bool (fin_bl I q (by simp))
    | int j => obtain ⟨t', rfl⟩ := ry; exact PySem.EqNone.ne_none_int (fin_bl I q (by simp))
    | str j => obtain ⟨t', rfl⟩ := ry; exact PySem.EqNone.ne_none_str (fin_bl I q (by simp))
    | _ => exact absurd (show false = true from hs) Bool.false_ne_true
  | bl i =>
    cases rx
    cases y with
    | non => cases ry; exact PySem.EqNone.ne_bool_none (fin_bl I q (by simp))
    | bl j => cases ry; exact ne_bool (fin_bl I q (congrArg not dec_bl))
    | str j => obtain ⟨t', rfl⟩ := ry; exact PySem.EqMixed.ne_bool_str (fin_bl I q (by simp))
    | _ => exact absurd (show false = true from hs) Bool.false_ne_true
  | int i =>
    obtain ⟨t, rfl⟩ := rx
    cases y with
    | non => cases ry; exact PySem.EqNone.ne_int_none (fin_bl I q (by simp))
    | int j => obtain ⟨t', rfl⟩ := ry; exact ne_int (fin_bl I q (congrArg not dec_int))
    | str j => obtain ⟨t', rfl⟩ := ry; exact PySem.EqMixed.ne_int_str (fin_bl I q (by simp))
    | _ => exact absurd (show false = true from hs) Bool.false_ne_true
  | str i =>
    obtain ⟨t, rfl⟩ := rx
    cases y with
    | non => cases ry; exact PySem.EqNone.ne_str_none (fin_bl I q (by simp))
    | bl j => cases ry; exact PySem.EqMixed.ne_str_bool (fin_bl I q (by simp))
    | int j => obtain ⟨t', rfl⟩ := ry; exact PySem.EqMixed.ne_str_int (fin_bl I q (by simp))
    | str j => obtain ⟨t', rfl⟩ := ry; exact ne_str (fin_bl I q (congrArg not dec_str))
    | _ => exact absurd (show false = true from hs) Bool.false_ne_true
  | byt i =>
    obtain ⟨t, rfl⟩ := rx
    cases y with
    | byt j => obtain ⟨t', rfl⟩ := ry; exact PySem.W.ne_bytes (fin_bl I q (congrArg not dec_byt))
    | _ => exact absurd (show false = true from hs) Bool.false_ne_true
  | _ => cases y <;> exact absurd (show false = true from hs) Bool.false_ne_true

theorem op_lt : OpR X (compareOp .Lt) (rI0 fun i j => .bl (decide (i < j))) := opB0 fun _ _ _ _ _ _ _ q => lt_int q
theorem op_le : OpR X (compareOp .LtE) (rI0 fun i j => .bl (decide (i ≤ j))) := opB0 fun _ _ _ _ _ _ _ q => le_int q
theorem op_gt : OpR X (compareOp .Gt) (rI0 fun i j => .bl (decide (j < i))) := opB0 fun _ _ _ _ _ _ _ q => gt_int q
theorem op_notin_str : OpR X (compareOp .NotIn) (fun x y H Q => ∃ i j, x = .str i ∧ y = .str j ∧ Q (.bl (!(!(Builtin.Str.occurrences j i 0 j.length 1).isEmpty))) H) := by
  intro pins s σ H x y v u Q I rx ry h
  obtain ⟨i, j, rfl, rfl, q⟩ := h
  obtain ⟨t, rfl⟩ := rx
  obtain ⟨t', rfl⟩ := ry
  exact notIn_str (fin_bl I q rfl)
/-- two rules for one operation: by cases -/
theorem OpR.or {f : Value → Value → Sem Value} {r r' : R2} (h : OpR X f r) (h' : OpR X f r') : OpR X f (fun x y H Q => r x y H Q ∨ r' x y H Q) := by
  intro pins s σ H x y v u Q I rx ry q
  rcases q with q | q
  · exact h pins s σ H x y v u Q I rx ry q
  · exact h' pins s σ H x y v u Q I rx ry q

theorem nomark (b : Expr) {op : CmpOp} (h : op ≠ .In := by decide) (h2 : op ≠ .NotIn := by decide) : behindInMarks op b = false := by
  have e1 : (op == CmpOp.In) = false := by cases op <;> first | rfl | exact absurd rfl h
  have e2 : (op == CmpOp.NotIn) = false := by cases op <;> first | rfl | exact absurd rfl h2
  cases b <;> simp [behindInMarks, e1, e2]
/-- a comparison as a value; hm: nomark b, or (for in, not in) by with_unfolding_all rfl -/
theorem pe_cmpR {op : CmpOp} {r : R2} (ho : OpR X (compareOp op) r) (ha : PE X a ta) (hb : PE X b tb) (hm : behindInMarks op b = false) : PE X (.Compare a [op] [b] pos) (tOp r ta tb) := by
  intro pins s σ H Q I h
  exact wpAny_Compare1 (binT ha hb I h fun v u s2 x y H2 I2 rx ry q => ho pins s2 σ H2 x y v u Q I2 rx ry q) hm
/-- a reading of a value as a test -/
def tTest (t : TE) : TT := fun σ H Q => t σ H fun x H' => ∃ k, x = .bl k ∧ Q k H'
theorem pt_cmpR {op : CmpOp} {r : R2} (ho : OpR X (compareOp op) r) (ha : PE X a ta) (hb : PE X b tb) (hm : behindInMarks op b = false) : PT X (.Compare a [op] [b] pos) (tTest (tOp r ta tb)) := by
  intro pins s σ H Q I h
  refine wpAny_isTrue_Compare1 (thn (ha pins s σ H _ I h) fun v s1 ⟨x, H1, I1, r1, q1⟩ => thn (hb pins s1 σ H1 _ I1 q1) fun u s2 ⟨y, H2, I2, r2, q2⟩ =>
    thn (ho pins s2 σ H2 x y v u _ I2 r1 r2 q2) fun c s3 ⟨z, H3, I3, r3, k, e, q3⟩ => ?_) hm
  subst e
  cases r3
  exact wpAny_truthy_bool ⟨H3, I3, q3⟩
/-- a op1 b op2 c -/
def tChain (r r' : R2) (ta tb tc : TE) : TE := fun σ H Q => ta σ H fun x H1 => tb σ H1 fun y H2 => r x y H2 fun z H3 => ∃ k, z = .bl k ∧
  (if k = true then tc σ H3 fun w' H4 => r' y w' H4 Q else Q (.bl false) H3)
theorem pe_chain {op op' : CmpOp} {r r' : R2} (ho : OpR X (compareOp op) r) (ho' : OpR X (compareOp op') r') (ha : PE X a ta) (hb : PE X b tb) (hc : PE X c tc)
    (hm : lastMarks [op, op'] [b, c] = false := by with_unfolding_all rfl) : PE X (.Compare a [op, op'] [b, c] pos) (tChain r r' ta tb tc) := by
  intro pins s σ H Q I h
  refine Compare_chain (thn (ha pins s σ H _ I h) fun v s1 ⟨x, H1, I1, r1, q1⟩ => chain_link (thn (hb pins s1 σ H1 _ I1 q1) fun u s2 ⟨y, H2, I2, r2, q2⟩ =>
    thn (ho pins s2 σ H2 x y v u _ I2 r1 r2 q2) fun d s3 ⟨z, H3, I3, r3, k, e, q3⟩ => ?_)) hm
  subst e
  cases r3
  refine wpAny_truthy_bool ?_
  cases k with
  | false => exact ite_ff ⟨.bl false, H3, I3, rfl, q3⟩
  | true => exact ite_tt (chain_last (thn (hc pins s3 σ H3 _ I3 q3) fun w' s4 ⟨z', H4, I4, r4, q4⟩ => ho' pins s4 σ H4 y z' u w' Q I4 r2 r4 q4))
theorem pt_chain {op op' : CmpOp} {r r' : R2} (ho : OpR X (compareOp op) r) (ho' : OpR X (compareOp op') r') (ha : PE X a ta) (hb : PE X b tb) (hc : PE X c tc)
    (hm : lastMarks [op, op'] [b, c] = false := by with_unfolding_all rfl) : PT X (.Compare a [op, op'] [b, c] pos) (tTest (tChain r r' ta tb tc)) := by
  intro pins s σ H Q I h
  refine isTrue_chain (thn (ha pins s σ H _ I h) fun v s1 ⟨x, H1, I1, r1, q1⟩ => test_link (thn (hb pins s1 σ H1 _ I1 q1) fun u s2 ⟨y, H2, I2, r2, q2⟩ =>
    thn (ho pins s2 σ H2 x y v u _ I2 r1 r2 q2) fun d s3 ⟨z, H3, I3, r3, k, e, q3⟩ => ?_)) hm
  subst e
  cases r3
  refine wpAny_truthy_bool ?_
  cases k with
  | false =>
    obtain ⟨k', e', q'⟩ := q3
    cases e'
    exact ite_ff ⟨H3, I3, q'⟩
  | true =>
    refine ite_tt (test_last (thn (hc pins s3 σ H3 _ I3 q3) fun w' s4 ⟨z', H4, I4, r4, q4⟩ => thn (ho' pins s4 σ H4 y z' u w' _ I4 r2 r4 q4) fun d' s5 ⟨z2, H5, I5, r5, k2, e2, q5⟩ => ?_))
    subst e2
    cases r5
    exact wpAny_truthy_bool ⟨H5, I5, q5⟩

/-! ### truth -/
theorem line63 : (sizeLine : Nat) < 2 ^ 63 := by rw [sizeLine_eq]; decide
/-! ### strs and bytes -/
theorem op_add_str : OpR X (binaryOp .Add) (fun x y H Q => ∃ i j, x = .str i ∧ y = .str j ∧ i.length + j.length ≤ sizeLine ∧ Q (.str (i ++ j)) H) := by
  intro pins s σ H x y v u Q I rx ry h
  obtain ⟨i, j, rfl, rfl, hz, q⟩ := h
  obtain ⟨t, rfl⟩ := rx
  obtain ⟨t', rfl⟩ := ry
  exact add_str (fun t' tk => ⟨.str (i ++ j), H, I.tok _, ⟨_, rfl⟩, q⟩) hz
/-! ### scalar builtins, by CallR -/
theorem vals1 {x : V} {us : List Value} (r : Vals [x] us) : ∃ u, us = [u] ∧ RelV x u := by
  cases r with
  | cons r1 r2 => cases r2; exact ⟨_, rfl, r1⟩
theorem call_str_int : CallR X (.type "str") (fun xs H Q => ∃ i, xs = [.int i] ∧ i.natAbs.log2 < 1920 ∧ Q (.str (toString i)) H) := by
  intro pins s σ H xs us Q I r h
  obtain ⟨i, rfl, hz, q⟩ := h
  obtain ⟨u, rfl, t, rfl⟩ := vals1 r
  exact PySem.P.str_of_int hz ⟨.str _, H, I.tok _, ⟨_, rfl⟩, q⟩
end
end L2

namespace L2
open PySem PySem.Spec PyProof.Rows

/-! ### an instance, its attributes a map -/
structure ObjM (h : Heap) (x dx C : Addr) (mA : Str → Option Value) : Prop where
  obj : h.get? x = some (PySem.W.instObj C dx)
  ns : h.Ns1 dx mA
  ne : dx ≠ x

theorem lookIn_ns {h : Heap} {dx : Addr} {mA : Str → Option Value} (n : h.Ns1 dx mA) : ∃ od, h.get? dx = some od ∧ ∀ name, PySem.W.lookIn name od = some (mA name) := by
  obtain ⟨o, es, ep, ho, hd, hk, _, hm⟩ := n
  refine ⟨o, ho, fun name => ?_⟩
  have e := hm name
  unfold nsFind findBy at e
  rw [← Array.find?_toList] at e
  unfold PySem.W.lookIn
  rw [hd]
  dsimp only
  split
  · rename_i y q
    rw [q] at e
    exact congrArg some e
  · rename_i q
    rw [q] at e
    have a : es.toList.any (·.refKey) = false := by
      rw [List.any_eq_false]
      intro y hy
      obtain ⟨z, t, hkey⟩ := hk y (Array.mem_toList_iff.mp hy)
      simp [DictEntry.refKey, hkey]
    have a' : ¬ es.toList.any (·.refKey) = true := by rw [a]; exact Bool.false_ne_true
    rw [if_neg a']
    exact congrArg some e

theorem ObjM.look {h : Heap} {x dx C : Addr} {mA : Str → Option Value} (I : ObjM h x dx C mA) : ∃ od, PySem.W.InstAt h x (PySem.W.instObj C dx) C (some od) ∧ ∀ name, PySem.W.lookIn name od = some (mA name) :=
  let ⟨od, ho, hl⟩ := lookIn_ns I.ns
  ⟨od, ⟨I.obj, rfl, rfl, ho⟩, hl⟩

section
variable {prog : Program} {w : World} {A : Around} {E : Value → Shared → Prop} {s : Shared} {K : PySem.W.Frag} {x dx C f : Addr} {mA : Str → Option Value} {name : Str} {v : Value}

end

/-! ### the attributes as a list of pairs -/
theorem RelO.none_of {o : Option Value} (r : RelO none o) : o = none := by
  cases o with
  | none => rfl
  | some u => exact (show False from r).elim
section
variable {P : Program} {w : World} {H H' : Hp} {h h' : Heap} {a C dx : Addr} {fs fs' : List (Str × V)}
theorem ins_get (hok : HOk P w H h) (e : H a = some (.ins C dx fs)) : ∃ mA, ObjM h a dx C mA ∧ (∀ f, RelO (fs.lookup f) (mA f)) ∧ PySem.Within mA (fs.map (·.1)) ∧ fs.length ≤ 1000 ∧ H dx = some (.own a) := by
  obtain ⟨d, z, ne, ob, mA, n, r, q⟩ := (show ObjOk P w H h a (.ins C dx fs) from hok a _ e)
  exact ⟨mA, ⟨ob, n, ne⟩, r, q, z, d⟩
end

/-! ### what of the text a class must have -/
structure Cls (K : PySem.W.Frag) (C : Addr) : Prop where
  pg : PySem.W.plainGet K C Str.empty = true
  hd : PySem.W.hasDictIn K C = true
  po : PySem.W.plainOver K C = true
  sa : PySem.W.findIn K (.ref C) "__setattr__" = some (some (.builtin "object.__setattr__"))
theorem Cls.get {K : PySem.W.Frag} {C : Addr} (c : Cls K C) (f : Str) : PySem.W.plainGet K C f = true := c.pg
/-- a constant of the class -/
structure Con (K : PySem.W.Frag) (C : Addr) (f : Str) (v : V) (u : Value) : Prop where
  at_ : PySem.W.findIn K (.ref C) f = some (some u)
  rel : RelV v u
  get : PySem.W.specialIn K u "__get__" = some none
  cp : PySem.W.copiedNames.contains f = false
/-- a method: a plain def of the class or of one above it -/
structure Meth (K : PySem.W.Frag) (C : Addr) (m : Str) (f : Addr) : Prop where
  at_ : PySem.W.findIn K (.ref C) m = some (some (.ref f))
  fn : PySem.W.isFn K (.ref f) = true
  kp : PySem.W.keepIn K (.ref f) = true

section
variable {X : Cx} {pins : List (Addr × Obj)} {σ : St} {H : Hp} {s : Shared} {a C dx : Addr} {fs : List (Str × V)} {f : Str} {v : V} {A : Around} {E : Value → Shared → Prop}

/-- a new instance, tracked, without attributes -/
theorem Inv.made (I : Inv X pins σ H s) : Inv X pins σ (upd (upd H s.heap.objs.size (.own (s.heap.objs.size + 1))) (s.heap.objs.size + 1) (.ins C s.heap.objs.size []))
    { s with heap := (s.heap.push PySem.W.emptyDict).push (PySem.W.instObj C s.heap.objs.size) } := by
  have e1 : (s.heap.push PySem.W.emptyDict).get? s.heap.objs.size = some PySem.W.emptyDict := Heap.get?_push_size s.heap rfl
  have e2 : ((s.heap.push PySem.W.emptyDict).push (PySem.W.instObj C s.heap.objs.size)).get? (s.heap.objs.size + 1) = some (PySem.W.instObj C s.heap.objs.size) := by
    have := Heap.get?_push_size (s.heap.push PySem.W.emptyDict) (o := PySem.W.instObj C s.heap.objs.size) rfl
    rwa [Heap.size_push] at this
  have e3 : (s.heap.push PySem.W.emptyDict).Ns s.heap.objs.size (fun _ => none) := ⟨PySem.W.emptyDict, #[], _, e1, rfl, (fun e he => absurd he (by simp)), fun _ => rfl⟩
  have I1 := I.laid (a := s.heap.objs.size) (o := .own (s.heap.objs.size + 1)) (h' := s.heap.push PySem.W.emptyDict) (t' := s.toks) (fun b u q => Heap.get?_push_of_some _ q) (Nat.le_refl _) ⟨_, e1⟩
  refine I1.laid (a := s.heap.objs.size + 1) (o := .ins C s.heap.objs.size []) (t' := s.toks) (fun b u q => Heap.get?_push_of_some _ q) (Nat.le_of_eq (Heap.size_push _ _)) ?_
  have ne : s.heap.objs.size ≠ s.heap.objs.size + 1 := Nat.ne_of_lt (Nat.lt_succ_self _)
  refine ⟨by rw [upd_ne ne, upd_same], Nat.zero_le _, ne, e2, fun _ => none, (Heap.Ns1.of_empty e3).at fun o q => Heap.get?_push_of_some _ q, fun _ => True.intro, fun y hy => absurd rfl hy⟩

end

/-! ### readings and rules -/
section
variable {X : Cx} {o e value : Expr} {f : Str} {pos pos' tpos : Pos} {ta tv : TE}
end

/-! ### isinstance -/
section
variable {X : Cx} {pins : List (Addr × Obj)} {σ : St} {H : Hp} {s : Shared} {A : Around} {E : Value → Shared → Prop} {Q : Value → Shared → Prop} {c : Value} {b : Bool}
/-- the type of a value, as the fragment's deciders take it; for an instance its class -/
inductive TyOf (K : PySem.W.Frag) (H : Hp) : V → Value → Prop where
  | non : TyOf K H .non (.type "NoneType")
  | bl (x : Bool) : TyOf K H (.bl x) (.type "bool")
  | int (i : Int) : TyOf K H (.int i) (.type "int")
  | str (x : Str) : TyOf K H (.str x) (.type "str")
  | flt (x : UInt64) : TyOf K H (.flt x) (.type "float")
  | lst {a : Addr} {xs : List V} (e : H a = some (.lst xs)) : TyOf K H (.ref a) (.type "list")
  | frz {a : Addr} {o : Obj} {xs : List V} (e : H a = some (.frz o (.lst xs))) : TyOf K H (.ref a) (.type "list")
  | tup {a : Addr} {xs : List V} (e : H a = some (.tup xs)) : TyOf K H (.ref a) (.type "tuple")
  | dK {a : Addr} {kvs : List (Key × V)} (e : H a = some (.dK kvs)) : TyOf K H (.ref a) (.type "dict")
  | dT {a : Addr} {kvs : List (List Key × V)} (e : H a = some (.dT kvs)) : TyOf K H (.ref a) (.type "dict")
  | ins {a C dx : Addr} {fs : List (Str × V)} (e : H a = some (.ins C dx fs)) (cl : Cls K C) (ha : PySem.W.findIn K (.ref C) "__class__" = some (some (.builtin "object.__class__")))
      (hn : PySem.W.specialIn K (.builtin "object.__class__") "__get__" = some (some (.builtin "getset_descriptor.__get__"))) (htk : PySem.W.takesIn K (.builtin "object.__class__") = some true)
      (hm : PySem.W.mroIn K C (.type "object") = some true) : TyOf K H (.ref a) (.ref C)
/-- isinstance(x, c) for one class c, a built-in or an own one: kitOne's answer -/
theorem isinst_ok {x : V} {u t : Value} (I : Inv X pins σ H s) (rx : RelV x u) (ty : TyOf X.K H x t) (e : PySem.W.kitOne X.K t c = some b) (h : ∀ tk, Q (.bool b) { s with toks := tk }) :
    wpAny (model X.prog X.w) A (call (.builtin "isinstance") [u, c]) Q E s := by
  cases ty with
  | non => cases (show u = Value.none from rx); exact PySem.W.kia_one PySem.W.kitx_none I.kIn True.intro e (fun z => nomatch z) h
  | bl y => cases (show u = Value.bool y from rx); exact PySem.W.kia_one PySem.W.kitx_bool I.kIn True.intro e (fun z => nomatch z) h
  | int i => obtain ⟨t, q⟩ := (show ∃ t, u = Value.int i t from rx); cases q; exact PySem.W.kia_one PySem.W.kitx_int I.kIn True.intro e (fun z => nomatch z) h
  | str y => obtain ⟨t, q⟩ := (show ∃ t, u = Value.str y t from rx); cases q; exact PySem.W.kia_one PySem.W.kitx_str I.kIn True.intro e (fun z => nomatch z) h
  | flt y => obtain ⟨t, q⟩ := (show ∃ t, u = Value.float y t from rx); cases q; exact PySem.W.kia_one PySem.W.kitx_float I.kIn True.intro e (fun z => nomatch z) h
  | @lst a xs ea =>
    cases (show u = Value.ref a from rx)
    obtain ⟨_, _, n, _, h1⟩ := (show ObjOk X.prog X.w H s.heap a (.lst xs) from I.hok a _ ea)
    exact PySem.W.kia_one PySem.W.kitx_list I.kIn ⟨_, h1, rfl⟩ e (fun z => nomatch z) h
  | @frz a ob xs ea =>
    cases (show u = Value.ref a from rx)
    obtain ⟨_, _, _, n, _, h1⟩ := (show ObjOk X.prog X.w H s.heap a (.frz ob (.lst xs)) from I.hok a _ ea)
    exact PySem.W.kia_one PySem.W.kitx_list I.kIn ⟨_, h1, rfl⟩ e (fun z => nomatch z) h
  | @tup a xs ea =>
    cases (show u = Value.ref a from rx)
    obtain ⟨_, _, _, p⟩ := (show ObjOk X.prog X.w H s.heap a (.tup xs) from I.hok a _ ea)
    obtain ⟨o, h1, h2, _⟩ := p
    exact PySem.W.kia_one PySem.W.kitx_tuple I.kIn ⟨o, h1, h2⟩ e (fun z => nomatch z) h
  | @dK a kvs ea =>
    cases (show u = Value.ref a from rx)
    obtain ⟨_, _, vs, _, p⟩ := (show ObjOk X.prog X.w H s.heap a (.dK kvs) from I.hok a _ ea)
    obtain ⟨o, es, ep, h1, h2, _⟩ := p
    exact PySem.W.kia_one PySem.W.kitx_dict I.kIn ⟨o, h1, h2.1⟩ e (fun z => nomatch z) h
  | @dT a kvs ea =>
    cases (show u = Value.ref a from rx)
    obtain ⟨_, _, xs, _, o, es, ep, h1, h2, _⟩ := (show ObjOk X.prog X.w H s.heap a (.dT kvs) from I.hok a _ ea)
    exact PySem.W.kia_one PySem.W.kitx_dict I.kIn ⟨o, h1, h2.1⟩ e (fun z => nomatch z) h
  | @ins a C dx fs ea cl ha hn htk hm =>
    cases (show u = Value.ref a from rx)
    obtain ⟨mA, O, _⟩ := ins_get I.hok ea
    obtain ⟨od, J, _⟩ := O.look
    exact PySem.W.kia_one (PySem.W.kitx_own (cl.get _) cl.hd ha hn htk hm) I.kIn J e (fun z => nomatch z) h
end
end L2

namespace L2
open PySem PySem.Spec PyProof.Rows

/-! ### room -/
structure Room (k : Nat) (A : Around) : Prop where
  hd : A.handled = none
  dp : A.depth + 3 * k + 5 < recursionLimit
  un : A.units + 16 * k + 200 < cLine
theorem Room.mono {j k : Nat} {A : Around} (r : Room k A) (h : j ≤ k) : Room j A := ⟨r.hd, by have := r.dp; omega, by have := r.un; omega⟩
theorem Room.deeper {k : Nat} {A : Around} (r : Room (k + 1) A) (env : Env) : Room k (A.deeper env) :=
  ⟨r.hd, by have := r.dp; show A.depth + 1 + 3 * k + 5 < _; omega, by have := r.un; show A.units + 3 + 16 * k + 200 < _; omega⟩
theorem Room.in1 {k : Nat} {A : Around} (r : Room (k + 1) A) : Room k A.in1 :=
  ⟨r.hd, by have := r.dp; show A.depth + 3 * k + 5 < _; omega, by have := r.un; show A.units + 1 + 16 * k + 200 < _; omega⟩
theorem Room.depth {k : Nat} {A : Around} (r : Room k A) : A.depth < recursionLimit := by have := r.dp; omega
theorem Room.units {k : Nat} {A : Around} (r : Room k A) : A.units + 64 < cLine := by have := r.un; omega
theorem Room.units0 {k : Nat} {A : Around} (r : Room k A) : A.units < cLine := by have := r.un; omega

/-! ### argument lists and displays -/
def tNil : TA := fun _ H Q => Q [] H
def tCons (ta : TE) (tr : TA) : TA := fun σ H Q => ta σ H fun x H1 => tr σ H1 fun xs H2 => Q (x :: xs) H2
section
variable {X : Cx} {e : Expr} {es : List Expr} {te : TE} {t : TA} {pos : Pos}
theorem pa_nil : PA X [] tNil := fun _ _ _ _ H Q I h => Calls.spliced_nil ⟨[], H, I, .nil, h⟩
theorem pa_cons (ha : PE X e te) (hr : PA X es t) (hs : starEach (e :: es) X.env = (false, eval e X.env) :: starEach es X.env := by rfl) : PA X (e :: es) (tCons te t) := by
  intro pos pins s σ H Q I h
  rw [hs]
  show wpAny _ _ (spliced ((false, eval e X.env) :: backTo pos (starEach es X.env))) _ _ s
  refine Calls.spliced_cons (thn (ha pins s σ H _ I h) fun u s1 ⟨x, H1, I1, r1, q1⟩ => ?_)
  exact thn (hr pos pins s1 σ H1 _ I1 q1) fun us s2 ⟨xs, H2, I2, r2, q2⟩ => ⟨x :: xs, H2, I2, .cons r1 r2, q2⟩

/-- a tuple, a list of written items -/
def tTup (t : TA) : TE := fun σ H Q => t σ H fun xs H1 => xs.length ≤ sizeLine ∧ ∀ p, H1 p = none → Q (.ref p) (upd H1 p (.tup xs))
def tLst (t : TA) : TE := fun σ H Q => t σ H fun xs H1 => xs.length ≤ sizeLine ∧ ∀ p, H1 p = none → Q (.ref p) (upd H1 p (.lst xs))
theorem pe_tup {x1} (h : PA X es t) : PE X (.Tuple es x1 pos) (tTup t) := by
  intro pins s σ H Q I hq
  refine wpAny_Tuple_spliced (thn (h pos pins s σ H _ I hq) fun us s1 ⟨xs, H1, I1, r, z, q⟩ => ⟨by rw [← r.length]; exact z, ?_⟩)
  have hf : H1 s1.heap.objs.size = none := I1.hok.fresh (Nat.le_refl _)
  refine ⟨.ref s1.heap.objs.size, upd H1 s1.heap.objs.size (.tup xs), I1.laid (t' := s1.toks) (fun b u e => Heap.get?_push_of_some _ e) (Nat.le_refl _) ?_, rfl, q _ hf⟩
  exact ⟨z, us, r, ⟨_, Heap.get?_push_size _ rfl, rfl, _, rfl⟩⟩
theorem pe_lst (h : PA X es t) : PE X (.List es pos) (tLst t) := by
  intro pins s σ H Q I hq
  refine wpAny_List_spliced (thn (h pos pins s σ H _ I hq) fun us s1 ⟨xs, H1, I1, r, z, q⟩ => ⟨by rw [← r.length]; exact z, ?_⟩)
  have hf : H1 s1.heap.objs.size = none := I1.hok.fresh (Nat.le_refl _)
  refine ⟨.ref s1.heap.objs.size, upd H1 s1.heap.objs.size (.lst xs), I1.laid (t' := s1.toks) (fun b u e => Heap.get?_push_of_some _ e) (Nat.le_refl _) ?_, rfl, q _ hf⟩
  exact ⟨z, us, 0, r, Heap.get?_push_size _ rfl⟩
end

/-! ### what a def promises -/
/-- a def's promise: the bound arguments in the parameters' order, the heap, the wanted end, the wanted exception -/
abbrev Sp := List V → Hp → VK → XK → Prop
/-- how an exception lies behind a call (file 08 gives it): the callers' frames, abstract heap and state ahead of the call, the wish, the exception, the state -/
abbrev CXT := List Env → Hp → Shared → XK → Value → Shared → Prop

/-- the state at a call -/
structure Env0 (P : Program) (w : World) (K : PySem.W.Frag) (mg : Str → Option Value) (base : Heap) (A : Around) (outer : List Env) (s : Shared) (H : Hp) : Prop where
  frames : A.frames = some outer
  mod : Mod K mg base
  bs : ∀ b o, base.get? b = some o → s.heap.get? b = some o ∧ H b = none
  bsz : base.objs.size ≤ s.heap.objs.size
  funs : s.heap.FunFrames base outer
  frf : ∀ b ∈ frs outer, H b = none
  hok : HOk P w H s.heap
  bare : AllBare s.gens
/-- a call's end -/
def CE (outer : List Env) (P : Program) (w : World) (H : Hp) (s : Shared) (Q : VK) (u : Value) (s' : Shared) : Prop :=
  ∃ v H', s'.os = s.os ∧ AllBare s'.gens ∧ Un (frs outer) [] H H' s.heap s'.heap ∧ HOk P w H' s'.heap ∧ RelV v u ∧ Q v H'
def CR (CX : CXT) (outer : List Env) (P : Program) (w : World) (H : Hp) (s : Shared) (Q : VK) (E : XK) (r : Result) (s' : Shared) : Prop :=
  match r with
  | .ok (.ret u) => CE outer P w H s Q u s'
  | .ok _ => False
  | .error e => CX outer H s E e s'
structure FnOk (P : Program) (w : World) (K : PySem.W.Frag) (mg : Str → Option Value) (base : Heap) (CX : CXT) (k : Nat) (f : Addr) (fd : FuncData) (ps : List Str) (sp : Sp) : Prop where
  len : ∀ vs H Q E, sp vs H Q E → vs.length = ps.length
  run : ∀ (A : Around) (outer : List Env) (s : Shared) (H : Hp) (args : Args) (us : List Value) (vs : List V) (Q : VK) (E : XK), Room k A → Env0 P w K mg base A outer s H → BindsTo s fd args (ps.zip us) → Vals vs us → sp vs H Q E →
    codeAny (model P w) A (.call (.ref f) args) (CR CX outer P w H s Q E) s
theorem FnOk.mono {P : Program} {w : World} {K : PySem.W.Frag} {mg : Str → Option Value} {base : Heap} {CX : CXT} {j k : Nat} {f : Addr} {fd : FuncData} {ps : List Str} {sp : Sp} (F : FnOk P w K mg base CX j f fd ps sp) (h : j ≤ k) :
    FnOk P w K mg base CX k f fd ps sp := ⟨F.len, fun A outer s H args us vs Q E hr => F.run A outer s H args us vs Q E (hr.mono h)⟩
/-- a weaker promise -/
theorem FnOk.imp {P : Program} {w : World} {K : PySem.W.Frag} {mg : Str → Option Value} {base : Heap} {CX : CXT} {k : Nat} {f : Addr} {fd : FuncData} {ps : List Str} {sp sp' : Sp} (F : FnOk P w K mg base CX k f fd ps sp)
    (h : ∀ vs H Q E, sp' vs H Q E → sp vs H Q E) : FnOk P w K mg base CX k f fd ps sp' :=
  ⟨fun vs H Q E q => F.len vs H Q E (h _ _ _ _ q), fun A outer s H args us vs Q E hr he hb hv hs => F.run A outer s H args us vs Q E hr he hb hv (h _ _ _ _ hs)⟩

theorem Env0.in1 {P : Program} {w : World} {K : PySem.W.Frag} {mg : Str → Option Value} {base : Heap} {A : Around} {outer : List Env} {s : Shared} {H : Hp} (e : Env0 P w K mg base A outer s H) :
    Env0 P w K mg base A.in1 outer s H := ⟨e.frames, e.mod, e.bs, e.bsz, e.funs, e.frf, e.hok, e.bare⟩

section
variable {X : Cx} {pins : List (Addr × Obj)} {σ : St} {H : Hp} {s s' : Shared}
/-- from a body: what a callee wants -/
theorem Inv.env0 (I : Inv X pins σ H s) : Env0 X.prog X.w X.K X.mg X.base X.A X.stack s H :=
  ⟨I.ok.frames, I.ok.mod, I.bs, Nat.le_trans I.ok.bsz I.sz, I.stack, I.stkFree, I.hok, I.bare⟩
/-- behind a call -/
theorem Inv.after {Q : VK} {u : Value} (I : Inv X pins σ H s) (h : CE X.stack X.prog X.w H s Q u s') : EP X pins σ Q u s' := by
  obtain ⟨v, H', os, bare, un, hok, r, q⟩ := h
  obtain ⟨hh, g, d, t, os'⟩ := s'
  obtain rfl : os' = s.os := os
  exact ⟨v, H', I.call (h' := hh) (g' := g) (d' := d) (t' := t) (ch := []) un hok bare (fun b z => absurd z (by simp)), r, q⟩
end

/-! ### calls -/
/-- f(..): the written arguments, then the defaults dvs; E: what is wanted of an exception -/
def tCall (sp : Sp) (dvs : List V) (E : XK) (t : TA) : TE := fun σ H Q => t σ H fun vs H1 => sp (vs ++ dvs) H1 Q E
/-- how the parameters are bound: us the positional arguments, kw the keywords' values by name, ds the defaults that fill up -/
def Binds (K : PySem.W.Frag) (fd : FuncData) (ps : List Str) (ds : List Value) : Prop :=
  ∀ (s : Shared) (us : List Value), K.In s.heap → (us ++ ds).length = ps.length → BindsTo s fd ⟨us, []⟩ (ps.zip (us ++ ds))
/-- every parameter is given -/
theorem Binds.all {K : PySem.W.Frag} {fd : FuncData} {ps : List Str} (h : ∀ us : List Value, us.length = ps.length → bindArgs fd ⟨us, []⟩ = pure (ps.zip us)) : Binds K fd ps [] := fun s us _ hl => by
  rw [List.append_nil] at hl ⊢
  exact .of_eq (h us hl)

/-- an exception of a callee reaches what this body wants of exceptions -/
def Passes (CX : CXT) (X : Cx) (E : XK) : Prop := ∀ (pins : List (Addr × Obj)) (σ : St) (H : Hp) (s : Shared) (e : Value) (s' : Shared), Inv X pins σ H s → CX X.stack H s E e s' → X.xe e s'

section
variable {X : Cx} {CX : CXT} {k : Nat} {f C : Addr} {fd : FuncData} {ps : List Str} {sp : Sp} {dvs : List V} {ds : List Value} {E : XK} {x m : Str} {p pos apos : Pos} {e o : Expr} {es : List Expr} {ta : TE} {t : TA}

/-- the callee runs -/
theorem run_fn {pins : List (Addr × Obj)} {σ : St} {H : Hp} {s : Shared} {Q : VK} {us : List Value} {vs : List V} (F : FnOk X.prog X.w X.K X.mg X.base CX k f fd ps sp) (hr : Room k X.A) (hb : Binds X.K fd ps ds) (hd : Vals dvs ds) (hx : Passes CX X E)
    (I : Inv X pins σ H s) (r : Vals vs us) (h : sp (vs ++ dvs) H Q E) : wpAny (model X.prog X.w) X.A (call (.ref f) us) (EP X pins σ Q) X.xe s := by
  have r2 : Vals (vs ++ dvs) (us ++ ds) := r.append hd
  have hl : (us ++ ds).length = ps.length := by rw [← r2.length]; exact F.len _ _ _ _ h
  refine wpAny_call (codeAny_mono (F.run X.A X.stack s H ⟨us, []⟩ (us ++ ds) (vs ++ dvs) Q E hr I.env0 (hb s us I.kIn hl) r2 h) fun r s' hq => ?_)
  cases r with
  | error e => exact hx pins σ H s e s' I hq
  | ok fl =>
    cases fl with
    | ret u => exact I.after hq
    | next => exact False.elim hq
    | brk => exact False.elim hq
    | cont => exact False.elim hq

theorem pe_call (F : FnOk X.prog X.w X.K X.mg X.base CX k f fd ps sp) (hr : Room k X.A) (hg : Gl X x) (hm : X.mg x = some (.ref f)) (hk : PySem.W.keepIn X.K (.ref f) = true) (hb : Binds X.K fd ps ds) (hd : Vals dvs ds) (hx : Passes CX X E)
    (ha : PA X (e :: es) t) (hdb : (x == ("__debug__" : Str)) = false := by decide) (he : starEach (e :: es) X.env = (false, eval e X.env) :: starEach es X.env := by rfl) (hpl : (backTo pos (starEach es X.env)).any (·.1) = false := by rfl) :
    PE X (.Call (.Name x p) (e :: es) [] pos) (tCall sp dvs E t) := by
  intro pins s σ H Q I h
  refine wpAny_Call_Name_kw (ld_glob I hg hm ?_ hdb)
  refine PySem.W.callWith_K (h₀ := X.base) I.ok.mod.kin hk (thn (ha pos pins s σ H _ I h) fun us s1 ⟨vs, H1, I1, r, q⟩ => ⟨I1.kIn, ?_⟩) he hpl
  exact run_fn F hr hb hd hx I1 r q
/-- what a class must have to be made -/
structure Mk (K : PySem.W.Frag) (C f : Addr) : Prop where
  makes : PySem.W.makesIn K C = true
  init : PySem.W.findIn K (.ref C) "__init__" = some (some (.ref f))
  fn : PySem.W.isFn K (.ref f) = true
  kp : PySem.W.keepIn K (.ref C) = true

end

/-! ### keywords -/
section
variable {X : Cx} {CX : CXT} {k : Nat} {f C : Addr} {fd : FuncData} {ps ks : List Str} {sp : Sp} {E : XK} {x m : Str} {p pos apos kpos : Pos} {e o : Expr} {es : List Expr} {kws : List Keyword} {te ta : TE} {t tk : TA} {nm : Option Str}
/-- how a call with keywords binds: g puts the positional values us and the keywords' values ws (names ks) in the parameters' order, defaults among them -/
structure KBinds (K : PySem.W.Frag) (fd : FuncData) (ps ks : List Str) (g : List Value → List Value → List Value) (gV : List V → List V → List V) : Prop where
  to : ∀ (s : Shared) (us ws : List Value), K.In s.heap → (g us ws).length = ps.length → BindsTo s fd ⟨us, ks.zip ws⟩ (ps.zip (g us ws))
  rel : ∀ {vs : List V} {us : List Value} {zs : List V} {ws : List Value}, Vals vs us → Vals zs ws → Vals (gV vs zs) (g us ws)
variable {g : List Value → List Value → List Value} {gV : List V → List V → List V}
end

/-! ### a def's body keeps its promise -/
/-- names: the parameters first -/
structure FnScope (N P : List Str) (sc : Scope) : Prop where
  kind : sc.kind = .function
  co : sc.isCoroutine = false
  gen : sc.isGenerator = false
  nd : N.Nodup
  pre : N.take P.length = P
  par : ∀ x ∈ P, sc.names.lookup x = some .local ∨ sc.names.lookup x = some .cell
  nofree : ∀ y ∈ sc.names, y.2 ≠ .free

theorem bindL_out {kindOf : Str → Option NameKind} {x : Str} : ∀ {binds : List (Str × Value)} {m : Str → Option Value}, (∀ v, (x, v) ∉ binds) → bindL kindOf binds m x = m x
  | [], _, _ => rfl
  | (n, v) :: r, m, h => by
    unfold bindL
    rw [bindL_out fun w hw => h w (List.mem_cons_of_mem _ hw)]
    split
    · have : x ≠ n := by rintro rfl; exact h v List.mem_cons_self
      simp [this]
    · rfl
theorem bindC_out {kindOf : Str → Option NameKind} {x : Str} : ∀ {binds : List (Str × Value)} {m : Str → Option Value}, (∀ v, (x, v) ∉ binds) → bindC kindOf binds m x = m x
  | [], _, _ => rfl
  | (n, v) :: r, m, h => by
    unfold bindC
    rw [bindC_out fun w hw => h w (List.mem_cons_of_mem _ hw)]
    split
    · rfl
    · have : x ≠ n := by rintro rfl; exact h v List.mem_cons_self
      simp [this]
theorem bindL_get {kindOf : Str → Option NameKind} {x : Str} {v : Value} : ∀ {P : List Str} {vs : List Value} {i : Nat} {m : Str → Option Value}, P.Nodup → P[i]? = some x → vs[i]? = some v → kindOf x = some .local →
    bindL kindOf (P.zip vs) m x = some v
  | [], _, _, _, _, h, _, _ => by simp at h
  | _ :: _, [], _, _, _, _, h, _ => by simp at h
  | p :: P, w :: vs, 0, m, nd, h1, h2, hk => by
    simp at h1 h2; subst h1; subst h2
    show bindL kindOf ((p, w) :: P.zip vs) m p = _
    unfold bindL
    rw [bindL_out fun v hv => (List.nodup_cons.mp nd).1 (List.of_mem_zip hv).1, if_pos hk]
    simp
  | p :: P, w :: vs, i + 1, m, nd, h1, h2, hk => by
    show bindL kindOf ((p, w) :: P.zip vs) m x = _
    unfold bindL
    exact bindL_get (i := i) (List.nodup_cons.mp nd).2 (by simpa using h1) (by simpa using h2) hk
theorem bindC_get {kindOf : Str → Option NameKind} {x : Str} {v : Value} : ∀ {P : List Str} {vs : List Value} {i : Nat} {m : Str → Option Value}, P.Nodup → P[i]? = some x → vs[i]? = some v → kindOf x ≠ some .local →
    bindC kindOf (P.zip vs) m x = some v
  | [], _, _, _, _, h, _, _ => by simp at h
  | _ :: _, [], _, _, _, _, h, _ => by simp at h
  | p :: P, w :: vs, 0, m, nd, h1, h2, hk => by
    simp at h1 h2; subst h1; subst h2
    show bindC kindOf ((p, w) :: P.zip vs) m p = _
    unfold bindC
    rw [bindC_out fun v hv => (List.nodup_cons.mp nd).1 (List.of_mem_zip hv).1, if_neg hk]
    simp
  | p :: P, w :: vs, i + 1, m, nd, h1, h2, hk => by
    show bindC kindOf ((p, w) :: P.zip vs) m x = _
    unfold bindC
    exact bindC_get (i := i) (List.nodup_cons.mp nd).2 (by simpa using h1) (by simpa using h2) hk

/-- the names' values at the entry -/
def start (N : List Str) (vs : List V) : St := vs.map some ++ List.replicate (N.length - vs.length) none

/-- the context of a def's body, at its entry; an exception leaves the frame, then lies as CX says -/
def cxOf (CX : CXT) (P : Program) (w : World) (K : PySem.W.Frag) (mg : Str → Option Value) (base : Heap) (N : List Str) (qual : Str) (scope : Scope) (f : Addr) (cd : Value) (A : Around) (outer : List Env) (s : Shared) (H : Hp) (E : XK) : Cx where
  prog := P
  w := w
  K := K
  mg := mg
  base := base
  A := A.deeper (envOfC qual scope s.heap.objs.size f cd)
  N := N
  s₀ := s
  H₀ := H
  env := envOfC qual scope s.heap.objs.size f cd
  outer := outer
  stack := envOfC qual scope s.heap.objs.size f cd :: outer
  ex := []
  calm := true
  fn := fun _ => true
  pn := []
  xe := fun e s' => wpAny (model P w) (A.deeper (envOfC qual scope s.heap.objs.size f cd)) (leaving (envOfC qual scope s.heap.objs.size f cd) e) (fun _ s'' => CX outer H s E e s'') (fun e' s'' => CX outer H s E e' s'') s'

theorem cell_has {sc : Scope} {n : Nat} {x : Str} (h : sc.names.lookup x = some .cell) : ∃ c, (cellsFrom n sc.names []).lookup x = some c := by
  have q := PySem.W.cellsFrom_some sc.names n [] (.inl h)
  exact Option.isSome_iff_exists.mp q

theorem inv_start {CX : CXT} {P : Program} {w : World} {K : PySem.W.Frag} {mg : Str → Option Value} {base : Heap} {N ps : List Str} {qual : Str} {scope : Scope} {f : Addr} {cd : Value} {A : Around} {outer : List Env} {s s1 : Shared} {H : Hp} {E : XK} {us : List Value} {vs : List V}
    (S : FnScope N ps scope) (hd : A.handled = none) (e0 : Env0 P w K mg base A outer s H) (hl : vs.length = ps.length) (r : Vals vs us)
    (x : InCallC s s.heap.objs.size (bindL (envOfC qual scope s.heap.objs.size f cd).kindOf (ps.zip us) fun _ => none) (cellsFrom (s.heap.objs.size + 1) scope.names []) (bindC (envOfC qual scope s.heap.objs.size f cd).kindOf (ps.zip us) fun _ => none) s1) :
    Inv (cxOf CX P w K mg base N qual scope f cd A outer s H E) [] (start N vs) H s1 := by
  have hpl : ps.length ≤ N.length := by have := congrArg List.length S.pre; rw [List.length_take] at this; omega
  obtain ⟨h1, tk, rfl, hk⟩ := x.done
  have noA : ∀ b : Addr, b ∉ (cxOf CX P w K mg base N qual scope f cd A outer s H E).ex := fun b z => absurd (show b ∈ ([] : List Addr) from z) (by simp)
  refine ⟨⟨e0.mod, S.kind, rfl, rfl, Nat.le_refl _, fun y z c h1 h2 => ?_, fun y hy => ?_, fun y c _ h => ?_, fun _ => hd, Around.frames_deeper e0.frames, .inr ⟨rfl, rfl⟩, fun b z => absurd z (noA b), e0.bs, e0.bsz, fun b _ _ => noA b, fun b z => absurd z (noA b), e0.funs, e0.frf⟩,
    rfl, e0.bare, Un.kept hk, ⟨_, x.toInCall.ns, fun i y v h1 h2 h3 => ?_⟩, fun y c h => ⟨_, x.cell y c h⟩, e0.hok.fresh (Nat.le_refl _), fun y c h => ?_, fun p hp => absurd (show p ∈ ([] : List (Addr × Obj)) from hp) (by simp), e0.hok.kept hk, ?_⟩
  · exact name_of_addr x.apart (PySem.mem_of_lookup h1) (PySem.mem_of_lookup h2)
  · have hy : scope.names.lookup y = some .cell ∨ scope.names.lookup y = some .free := hy
    rcases hy with hy | hy
    · exact cell_has hy
    · exact absurd rfl (S.nofree _ (PySem.mem_of_lookup hy))
  · exact Nat.le_of_lt (x.above y c (PySem.mem_of_lookup h))
  · have hi : i < vs.length := by
      unfold start at h2
      by_cases hi : i < vs.length
      · exact hi
      · rw [List.getElem?_append_right (by simpa using hi)] at h2
        rw [List.getElem?_replicate] at h2
        split at h2 <;> cases h2
    have ha : vs[i]? = some v := by
      unfold start at h2
      rw [List.getElem?_append_left (by simpa using hi), List.getElem?_map] at h2
      cases e : vs[i]? with
      | none => rw [e] at h2; cases h2
      | some a => rw [e] at h2; cases h2; rfl
    obtain ⟨u, hu, rv⟩ := r.get ha
    have hp : ps[i]? = some y := by
      rw [← S.pre, List.getElem?_take_of_lt (by omega)]; exact h1
    have ndP : ps.Nodup := by rw [← S.pre]; exact S.nd.sublist (List.take_sublist _ _)
    refine ⟨u, rv, ?_⟩
    rcases S.par y (List.mem_of_getElem? hp) with k | k
    · exact .inl ⟨k, bindL_get ndP hp hu k⟩
    · obtain ⟨c, e⟩ := cell_has (n := s.heap.objs.size + 1) k
      refine .inr ⟨.inl k, c, e, ?_⟩
      have q := x.cell y c e
      rw [bindC_get ndP hp hu (by show scope.names.lookup y ≠ _; rw [k]; decide)] at q
      exact q
  · exact e0.hok.fresh (Nat.le_of_lt (x.above y c (PySem.mem_of_lookup h)))
  · unfold start
    show _ = N.length
    rw [List.length_append, List.length_map, List.length_replicate]
    omega

/-- THE RULE: a def (or a method) of the text, by its body. The body's reading t is chosen for each entry; it is run at the parameters' values -/
theorem fn_of {CX : CXT} {P : Program} {w : World} {K : PySem.W.Frag} {mg : Str → Option Value} {base : Heap} {k : Nat} {f : Addr} {name qual : Str} {params : Arguments} {body : List Stmt} {scope : Scope} {dV kV doc pm cdv ct oc : Value} {an od : Option Addr}
    {osl : Array (Option Value)} {N ps : List Str} {sp : Sp} (lk : K.lookup f = some ⟨oc, od, .func (PySem.W.fnOf name qual params body scope dV kV doc pm an cdv ct), osl⟩) (hcd : PySem.W.codeIn K cdv qual = true) (S : FnScope N ps scope)
    (len : ∀ vs H Q E, sp vs H Q E → vs.length = ps.length)
    (hbody : ∀ (A : Around) (outer : List Env) (s : Shared) (H : Hp) (vs : List V) (Q : VK) (E : XK), Room k (A.deeper (envOfC qual scope s.heap.objs.size f cdv)) → sp vs H Q E →
      ∃ t, PSs (cxOf CX P w K mg base N qual scope f cdv A outer s H E) body t ∧ t { nx := fun _ H' => Q .non H', rt := Q } (start N vs) H) :
    FnOk P w K mg base CX (k + 1) f (PySem.W.fnOf name qual params body scope dV kV doc pm an cdv ct) ps sp := by
  refine ⟨len, fun A outer s H args us vs Q E hr e0 hb r hsp => ?_⟩
  have hl := len _ _ _ _ hsp
  have KX : K.In s.heap := e0.mod.kin.keeps fun b o e => (e0.bs b o e).1
  have lim : s.heap.NoLimit := e0.mod.nolimit.keeps fun b o e => (e0.bs b o e).1
  have hkind : ∀ y ∈ ps.zip us, scope.names.lookup y.1 = some .local ∨ (scope.names.lookup y.1 = some .cell ∧ ((cellsFrom (s.heap.objs.size + 1) scope.names []).lookup y.1).isSome = true) := fun ⟨n, v⟩ hy => by
    rcases S.par n (List.of_mem_zip hy).1 with q | q
    · exact .inl q
    · exact .inr ⟨q, PySem.W.cellsFrom_some _ _ _ (.inl q)⟩
  refine codeAny_call_function hr.depth (KX _ _ lk) rfl S.co S.gen rfl (PySem.W.codeRec_of KX hcd) (hb _ _ _ _ ?_)
  refine wpAny_newFunctionEnv_cells S.kind hkind fun env he s1 x => ?_
  subst he
  refine ⟨lim.keeps x.toInCall.keep, codeAny_func ?_⟩
  obtain ⟨t, ht, hq⟩ := hbody A outer s H vs Q E (hr.deeper _) hsp
  have I : Inv (cxOf CX P w K mg base N qual scope f cdv A outer s H E) [] (start N vs) H s1 := inv_start S hr.hd e0 hl r x
  refine wpAny_mono (ht [] s1 (start N vs) H _ I hq) (fun fl s' hs => ?_) fun e s' hs => hs
  have fin : ∀ {σ' : St} {H' : Hp} {v : V} {u : Value}, Inv (cxOf CX P w K mg base N qual scope f cdv A outer s H E) [] σ' H' s' → RelV v u → Q v H' → CE outer P w H s Q u s' :=
    fun {σ' H' v u} J rv q => ⟨v, H', J.os, J.bare, J.base, J.hok, rv, q⟩
  cases fl with
  | ret u =>
    obtain ⟨v, σ', H', J, rv, q⟩ := hs
    exact fin J rv q
  | next =>
    obtain ⟨σ', H', J, q⟩ := hs
    exact fin (v := V.non) (u := Value.none) J rfl q
  | brk =>
    obtain ⟨_, _, _, q⟩ := hs
    exact False.elim q
  | cont =>
    obtain ⟨_, _, _, q⟩ := hs
    exact False.elim q
end L2

namespace L2
open PySem PySem.Spec PyProof.Rows
section
variable {X : Cx} {x : Str} {p pos : Pos} {e : Expr} {es : List Expr} {t : TA} {id T : String} {r : List V → Hp → VK → Prop}

def tCB (r : List V → Hp → VK → Prop) (t : TA) : TE := fun σ H Q => t σ H fun vs H1 => r vs H1 Q
/-- f(e, ..), f a built-in function -/
theorem pe_callB (hc : CallR X (.builtin id) r) (hg : Gl X x) (hm : X.mg x = none) (hv : bootBuiltins x = some (.builtin id)) (ha : PA X (e :: es) t) (hn : x ≠ "__name__" := by decide) (hdb : (x == ("__debug__" : Str)) = false := by decide)
    (he : starEach (e :: es) X.env = (false, eval e X.env) :: starEach es X.env := by rfl) (hpl : (backTo pos (starEach es X.env)).any (·.1) = false := by rfl) : PE X (.Call (.Name x p) (e :: es) [] pos) (tCB r t) := by
  intro pins s σ H Q I h
  refine wpAny_Call_Name_kw (ld_blt I hg hm hv ?_ hn hdb)
  exact PyProof.Rows.callWith_builtin1 (thn (ha pos pins s σ H _ I h) fun us s1 ⟨vs, H1, I1, r1, q1⟩ => hc pins s1 σ H1 vs us Q I1 r1 q1) he hpl
/-- T(e, ..), T a built-in type -/
theorem pe_callTy (hc : CallR X (.type T) r) (hg : Gl X x) (hm : X.mg x = none) (hv : bootBuiltins x = some (.type T)) (ha : PA X (e :: es) t) (hn : x ≠ "__name__" := by decide) (hdb : (x == ("__debug__" : Str)) = false := by decide)
    (he : starEach (e :: es) X.env = (false, eval e X.env) :: starEach es X.env := by rfl) (hpl : (backTo pos (starEach es X.env)).any (·.1) = false := by rfl) : PE X (.Call (.Name x p) (e :: es) [] pos) (tCB r t) := by
  intro pins s σ H Q I h
  refine wpAny_Call_Name_kw (ld_blt I hg hm hv ?_ hn hdb)
  exact PyProof.Rows.callWith_type1 (thn (ha pos pins s σ H _ I h) fun us s1 ⟨vs, H1, I1, r1, q1⟩ => hc pins s1 σ H1 vs us Q I1 r1 q1) he hpl
end
end L2

namespace HT
open PySem PyProof.Rows

section
open PySem.SeqAt
open PySem.AutoSeq1 (wpAny_loadPart')
open PySem.MeetsSeq PySem.MeetsSeq2 PySem.MeetsSeq3

end

section
variable {prog : Program} {w : World} {A : Around} {E : Value → Shared → Prop} {s : Shared}

/-- t + u, t not empty -/
theorem cat_tup {t b : Addr} {vs ws : List Value} {Q : Value → Shared → Prop} (ht : IsTup s.heap t vs.toArray) (hb : IsTup s.heap b ws.toArray) (hv : vs ≠ [])
    (h1 : ws = [] → Q (.ref t) s) (h2 : ws ≠ [] → Q (.ref s.heap.objs.size) { s with heap := s.heap.push { cls := .type "tuple", data := .seq (vs ++ ws).toArray } })
    (hsz : vs.length + ws.length ≤ sizeLine) : wpAny (model prog w) A (binaryOp .Add (.ref t) (.ref b)) Q E s := by
  obtain ⟨⟨cls, dd, data, sl⟩, ho, hc, n, hd⟩ := id ht
  obtain ⟨⟨cls2, dd2, data2, sl2⟩, ho2, hc2, n2, hd2⟩ := id hb
  simp only at hc hd hc2 hd2
  subst hc hd hc2 hd2
  have e : vs.toArray ++ ws.toArray = (vs ++ ws).toArray := by simp
  by_cases hw : ws = []
  · exact concat_meets ⟨_, ho, rfl⟩ ⟨_, ho2, rfl⟩ noFill_tuple_add seq_tuple_add PySem.F.slot_tuple_add PySem.F.entry_tuple_add (PySem.F.args_tuple_add_2 _ _)
      (tuple_addW1 t b vs.toArray ws.toArray n n2 dd dd2 sl sl2 (by simpa using hv) (by simp [hw])) ⟨ho, ho2, h1 hw⟩
  · refine concat_meets ⟨_, ho, rfl⟩ ⟨_, ho2, rfl⟩ noFill_tuple_add seq_tuple_add PySem.F.slot_tuple_add PySem.F.entry_tuple_add (PySem.F.args_tuple_add_2 _ _)
      (tuple_addW2 t b vs.toArray ws.toArray n n2 dd dd2 sl sl2 (by simpa using hv) (by simpa using hw) (by rw [List.size_toArray, List.size_toArray]; exact hsz)) ⟨ho, ho2, ?_⟩
    rw [e]
    exact h2 hw

/-! ### t[a:b], not the whole -/
/-- a slice's bound as a place among n (d where it is left out) -/
def sIx (n d : Nat) : Option Int → Nat
  | none => d
  | some v => if v < 0 then (v + (n : Int)).toNat else min v.toNat n
theorem sIx_le (n d : Nat) (hd : d ≤ n) (o : Option Int) : sIx n d o ≤ n := by
  cases o with
  | none => exact hd
  | some v =>
    show (if v < 0 then (v + (n : Int)).toNat else min v.toNat n) ≤ n
    by_cases hv : v < 0
    · rw [if_pos hv]; omega
    · rw [if_neg hv]; exact Nat.min_le_right _ _
theorem clip_eq (v : Int) (n d : Nat) : (if v < 0 then max (v + (n : Int)) 0 else min v (n : Int)) = ((sIx n d (some v) : Nat) : Int) := by
  show (if v < 0 then max (v + (n : Int)) 0 else min v (n : Int)) = (((if v < 0 then (v + (n : Int)).toNat else min v.toNat n) : Nat) : Int)
  by_cases hv : v < 0
  · simp only [if_pos hv]; omega
  · simp only [if_neg hv]; omega
theorem adjust_gen (lo hi : Option Int) (n : Nat) : Builtin.Slice.sliceAdjust lo hi 1 (n : Int) = (((sIx n 0 lo : Nat) : Int), ((sIx n n hi : Nat) : Int)) := by
  have h1 : ¬ ((1 : Int) < 0) := by omega
  unfold Builtin.Slice.sliceAdjust
  simp only [h1, if_false]
  refine Prod.ext ?_ ?_
  · cases lo with
    | none => rfl
    | some v => exact clip_eq v n 0
  · cases hi with
    | none => rfl
    | some v => exact clip_eq v n n
theorem places_gen (i j : Nat) : Builtin.Slice.slicePlaces (i : Int) (j : Int) 1 = j - i := by
  unfold Builtin.Slice.slicePlaces
  have h1 : (1 : Int) > 0 := by omega
  simp only [h1, if_true, Int.ediv_one]
  split <;> omega
theorem slicePart_ {v : Value} {o : Option Int} {Q : Option Int → Shared → Prop} (p : IsPart v o) (h : Q o s) : wpAny (model prog w) A (Builtin.Slice.slicePartIndex v) Q E s := by
  cases p with
  | none => exact slicePart_none h
  | int i t => exact slicePart_int h
theorem sliceApplied_gen {sl : Addr} {vl vu : Value} {lo hi : Option Int} {n : Nat} {Q : Int × Int × Nat → Shared → Prop} (hs : s.heap.IsSliceOf sl vl vu .none) (pl : IsPart vl lo) (pu : IsPart vu hi)
    (h : Q (((sIx n 0 lo : Nat) : Int), 1, sIx n n hi - sIx n 0 lo) s) : wpAny (model prog w) A (Builtin.Slice.sliceApplied (.ref sl) (pure (n : Int))) Q E s := by
  obtain ⟨os, hos, hcs, hds⟩ := id hs
  unfold Builtin.Slice.sliceApplied Builtin.Slice.sliceFields
  refine wpAny_bind (wpAny_bind (wpAny_field hos hds (x := vl) rfl (wpAny_bind (wpAny_field hos hds (x := vu) rfl (wpAny_bind (wpAny_field hos hds (x := .none) rfl (wpAny_pure ?_)))))))
  refine wpAny_bind (slicePart_none ?_)
  show wpAny _ _ (if ((1 : Int) == 0) = true then _ else _) _ _ s
  rw [if_neg (by decide)]
  refine wpAny_bind (slicePart_ pl (wpAny_bind (slicePart_ pu (wpAny_bind (wpAny_pure ?_)))))
  show wpAny _ _ (match Builtin.Slice.sliceAdjust lo hi 1 (n : Int) with | (lo, hi) => pure (lo, (1 : Int), Builtin.Slice.slicePlaces lo hi 1)) _ _ s
  rw [adjust_gen lo hi n]
  show wpAny _ _ (pure (((sIx n 0 lo : Nat) : Int), (1 : Int), Builtin.Slice.slicePlaces ((sIx n 0 lo : Nat) : Int) ((sIx n n hi : Nat) : Int) 1)) _ _ s
  rw [places_gen]
  exact wpAny_pure h
theorem pick_gen (xs : Array Value) (i k : Nat) : ((List.range k).filterMap fun (m : Nat) => xs[((i : Int) + (m : Int) * 1).toNat]?).toArray = ((xs.toList.drop i).take k).toArray := by
  have e : (fun (m : Nat) => xs[((i : Int) + (m : Int) * 1).toNat]?) = fun m => xs[i + m]? := by
    funext m
    have : ((i : Int) + (m : Int) * 1).toNat = i + m := by omega
    rw [this]
  rw [e]
  have := pick_run xs i k
  rw [List.filterMap_map] at this
  have e2 : ((fun x => xs[x]?) ∘ fun x => i + x) = fun m => xs[i + m]? := rfl
  rw [e2] at this
  rw [this]

theorem getItem_tuple_cut {t sl : Addr} {items : Array Value} {vl vu : Value} {lo hi : Option Int} {Q : Value → Shared → Prop} (ht : IsTup s.heap t items) (hs : s.heap.IsSliceOf sl vl vu .none) (pl : IsPart vl lo) (pu : IsPart vu hi)
    (hw : ¬ (sIx items.size 0 lo = 0 ∧ sIx items.size items.size hi = items.size))
    (h : Q (.ref s.heap.objs.size) { s with heap := s.heap.push { cls := .type "tuple", data := .seq ((items.toList.drop (sIx items.size 0 lo)).take (sIx items.size items.size hi - sIx items.size 0 lo)).toArray } })
    (hsz : items.size ≤ sizeLine) : wpAny (model prog w) A (getItem (.ref t) (.ref sl)) Q E s := by
  have htake : sizeOk (.seq ((items.toList.drop (sIx items.size 0 lo)).take (sIx items.size items.size hi - sIx items.size 0 lo)).toArray) := by
    show ((items.toList.drop (sIx items.size 0 lo)).take (sIx items.size items.size hi - sIx items.size 0 lo)).toArray.size ≤ sizeLine
    rw [List.size_toArray, List.length_take, List.length_drop, Array.length_toList]
    omega
  have hj : sIx items.size items.size hi ≤ items.size := sIx_le _ _ (Nat.le_refl _) hi
  obtain ⟨os, hos, hcs, hds⟩ := id hs
  have hTs : s.TypeIs (.ref sl) "slice" := ⟨os, hos, hcs⟩
  unfold getItem
  try with_reducible refine wpAny_holding ?_
  first | refine wpAny_bind (wpAny_pure ?_) | skip
  refine wpAny_bind (wpAny_sequenceKey ht.typeIs (by decide) ?_)
  refine wpAny_bind (wpAny_callSpecial?_slot (name := Str.ofString "__getitem__") ht.typeIs PyProof.Rows.slot_tuple_getitem
    (wpAny_call_entry PyProof.Rows.slot_tuple_getitem ht.typeIs entry_tuple_getitem ?_ (args_tuple_getitem _ _)))
  show wpAny _ _ (Builtin.Tuple.tupleItemsOf (.ref t) >>= _) _ _ s
  refine wpAny_bind (tupleItemsOf_ ht ?_)
  refine wpAny_bind (wpAny_typeOf hTs ?_)
  rw [if_pos (by decide)]
  refine wpAny_bind (sliceApplied_gen hs pl pu ?_)
  have hno : ¬ ((((sIx items.size 0 lo : Nat) : Int) == 0 && (1 : Int) == 1 && (sIx items.size items.size hi - sIx items.size 0 lo) == items.size) = true) := by
    intro q
    rw [Bool.and_eq_true, Bool.and_eq_true] at q
    have q1 : ((sIx items.size 0 lo : Nat) : Int) = 0 := eq_of_beq q.1.1
    have q2 : sIx items.size items.size hi - sIx items.size 0 lo = items.size := eq_of_beq q.2
    exact hw ⟨by omega, by omega⟩
  show wpAny _ _ (if (((sIx items.size 0 lo : Nat) : Int) == 0 && (1 : Int) == 1 && (sIx items.size items.size hi - sIx items.size 0 lo) == items.size) = true then _ else _) _ _ s
  rw [if_neg hno, pick_gen]
  first
    | exact wpAny_bind (m := Builtin.Tuple.tupleExact _) (wpAny_newObj_type (wpAny_pure ⟨_, rfl, wpAny_pure h⟩) htake)
    | exact wpAny_bind (m := Builtin.Tuple.tupleExact _) (wpAny_newObj_type (wpAny_bind (wpAny_pure (wpAny_pure ⟨_, rfl, wpAny_pure h⟩))) htake)
    | exact wpAny_bind (wpAny_bind (m := Builtin.Tuple.tupleExact _) (wpAny_newObj_type (wpAny_pure (wpAny_pure ⟨_, rfl, wpAny_pure h⟩)) htake))
    | exact wpAny_bind (wpAny_bind (m := Builtin.Tuple.tupleExact _) (wpAny_newObj_type (wpAny_pure ⟨_, rfl, wpAny_pure h⟩) htake))
end
end HT

namespace L2
open PySem PySem.Spec PyProof.Rows

/-! ### the parts of a slice -/
abbrev TO := St → Hp → (Option Int → Hp → Prop) → Prop
/-- a slice's part (left out, or an int) -/
def PO (X : Cx) (e : Option Expr) (t : TO) : Prop :=
  ∀ (pins : List (Addr × Obj)) (s : Shared) (σ : St) (H : Hp) (Q : Option Int → Hp → Prop), Inv X pins σ H s → t σ H Q →
    wpAny (model X.prog X.w) X.A (evalPart e X.env) (fun u s' => ∃ o H', Inv X pins σ H' s' ∧ IsPart u o ∧ Q o H') X.xe s
def tNoPart : TO := fun _ H Q => Q none H
def tPart (t : TE) : TO := fun σ H Q => t σ H fun x H1 => ∃ i, x = .int i ∧ Q (some i) H1

section
variable {X : Cx} {e : Expr} {te : TE} {lo hi : Option Expr} {tl th : TO} {pos p2 : Pos}

theorem po_none : PO X none tNoPart := by
  intro pins s σ H Q I h
  rw [evalPart_none]
  exact wpAny_pure ⟨none, H, I, .none, h⟩
theorem po_some (h : PE X e te) : PO X (some e) (tPart te) := by
  intro pins s σ H Q I hw
  rw [evalPart_some]
  refine thn (h pins s σ H _ I hw) fun u s1 ⟨x, H1, I1, r1, q1⟩ => ?_
  obtain ⟨i, rfl, q⟩ := q1
  obtain ⟨t, rfl⟩ := r1
  exact ⟨some i, H1, I1, .int i t, q⟩

/-- what a slice of a value is, by values: the slice object stands at sl -/
def SlR (X : Cx) (r : V → Option Int → Option Int → Hp → VK → Prop) : Prop :=
  ∀ (pins : List (Addr × Obj)) (s : Shared) (σ : St) (H : Hp) (x : V) (v vl vu : Value) (lo hi : Option Int) (sl : Addr) (Q : VK), Inv X pins σ H s → RelV x v → s.heap.IsSliceOf sl vl vu .none → IsPart vl lo → IsPart vu hi → r x lo hi H Q →
    ∃ T id, typeLookup (.type T) "__getitem__" = pure (some (.builtin id)) ∧ s.TypeIs v T ∧ wpAny (model X.prog X.w) X.A (getItem v (.ref sl)) (EP X pins σ Q) X.xe s
theorem SlR.or {r r' : V → Option Int → Option Int → Hp → VK → Prop} (h : SlR X r) (h' : SlR X r') : SlR X (fun x lo hi H Q => r x lo hi H Q ∨ r' x lo hi H Q) := by
  intro pins s σ H x v vl vu lo hi sl Q I rx hs pl pu q
  rcases q with q | q
  · exact h pins s σ H x v vl vu lo hi sl Q I rx hs pl pu q
  · exact h' pins s σ H x v vl vu lo hi sl Q I rx hs pl pu q
def tSl (r : V → Option Int → Option Int → Hp → VK → Prop) (te : TE) (tl th : TO) : TE := fun σ H Q => te σ H fun x H1 => tl σ H1 fun l H2 => th σ H2 fun u H3 => r x l u H3 Q
/-- a[lo:hi], any a -/
theorem pe_slice {r : V → Option Int → Option Int → Hp → VK → Prop} (hr : SlR X r) (he : PE X e te) (hl : PO X lo tl) (hu : PO X hi th) : PE X (.Subscript e (.Slice lo hi none p2) pos) (tSl r te tl th) := by
  intro pins s σ H Q I h
  refine Subscript_ (thn (he pins s σ H _ I h) fun v s1 ⟨x, H1, I1, r1, q1⟩ => ?_)
  refine wpAny_Slice (thn (hl pins s1 σ H1 _ I1 q1) fun vl s2 ⟨l, H2, I2, pl, q2⟩ => thn (hu pins s2 σ H2 _ I2 q2) fun vu s3 ⟨u, H3, I3, pu, q3⟩ => ?_)
  rw [evalPart_none]
  refine wpAny_pure ?_
  have I4 : Inv X pins σ H3 { s3 with heap := s3.heap.push { cls := .type "slice", data := .fields #[vl, vu, .none] } } := I3.kept (t' := s3.toks) fun b ob q => Heap.get?_push_of_some _ q
  obtain ⟨T, id, hT, ht, hg⟩ := hr pins { s3 with heap := s3.heap.push { cls := .type "slice", data := .fields #[vl, vu, .none] } } σ H3 x v vl vu l u s3.heap.objs.size Q I4 r1 (Heap.IsSliceOf.new ..) pl pu q3
  show wpAny (model X.prog X.w) X.A (subscriptTail e (.Slice lo hi none p2) v (.ref s3.heap.objs.size)) (EP X pins σ Q) X.xe { s3 with heap := s3.heap.push { cls := .type "slice", data := .fields #[vl, vu, .none] } }
  exact tail_any (ops := [.ref s3.heap.objs.size, v]) ht hT hg (by with_unfolding_all rfl)

/-- the items of xs[lo:hi] -/
def cutV (xs : List V) (lo hi : Option Int) : List V := (xs.drop (HT.sIx xs.length 0 lo)).take (HT.sIx xs.length xs.length hi - HT.sIx xs.length 0 lo)
theorem cutV_length (xs : List V) (lo hi : Option Int) : (cutV xs lo hi).length ≤ xs.length := by
  unfold cutV
  rw [List.length_take, List.length_drop]
  omega
/-- t[lo:hi], not the whole of it (the whole would be t itself) -/
def rSlT (K : PySem.W.Frag) : V → Option Int → Option Int → Hp → VK → Prop := fun x lo hi H Q => ∃ a xs, x = .ref a ∧ SqT K H a xs ∧
  ¬ (HT.sIx xs.length 0 lo = 0 ∧ HT.sIx xs.length xs.length hi = xs.length) ∧ ∀ p, H p = none → Q (.ref p) (upd H p (.tup (cutV xs lo hi)))
theorem sl_tup : SlR X (rSlT X.K) := by
  intro pins s σ H x v vl vu lo hi sl Q I rx hs pl pu h
  obtain ⟨a, xs, rfl, hx, hw, q⟩ := h
  cases rx
  obtain ⟨its, r, ht, hz⟩ := I.tuple hx
  have hlen : its.toArray.size = xs.length := by rw [List.size_toArray]; exact r.length.symm
  refine ⟨"tuple", _, PyProof.Rows.slot_tuple_getitem.lookup, ht.typeIs, ?_⟩
  refine HT.getItem_tuple_cut ht hs pl pu (by rw [hlen]; exact hw) ?_ (by rw [hlen]; exact hz)
  rw [hlen]
  refine ⟨.ref s.heap.objs.size, _, I.laid (t' := s.toks) (o := .tup (cutV xs lo hi)) (fun b ob q => Heap.get?_push_of_some _ q) (Nat.le_refl _) ?_, rfl, q _ (I.hok.fresh (Nat.le_refl _))⟩
  exact ⟨Nat.le_trans (cutV_length xs lo hi) hz, _, (r.drop (HT.sIx xs.length 0 lo)).take (HT.sIx xs.length xs.length hi - HT.sIx xs.length 0 lo), IsTup.new _ _⟩

/-! ### t < u, t + u -/
/-- t + u, t not empty: u empty gives t itself -/
def rCatT (K : PySem.W.Frag) : R2 := fun x y H Q => ∃ a b xs ys, x = .ref a ∧ y = .ref b ∧ SqT K H a xs ∧ SqT K H b ys ∧ xs ≠ [] ∧ xs.length + ys.length ≤ sizeLine ∧
  (ys = [] → Q (.ref a) H) ∧ (ys ≠ [] → ∀ p, H p = none → Q (.ref p) (upd H p (.tup (xs ++ ys))))
theorem Vals.nil_iff {xs : List V} {us : List Value} (r : Vals xs us) : us = [] ↔ xs = [] := by
  cases r with
  | nil => simp
  | cons _ _ => simp
theorem op_catT : OpR X (binaryOp .Add) (rCatT X.K) := by
  intro pins s σ H x y v u Q I rx ry h
  obtain ⟨a, b, xs, ys, rfl, rfl, ha, hb, hx, hz, q1, q2⟩ := h
  cases rx
  cases ry
  obtain ⟨its, r1, p1, _⟩ := I.tuple ha
  obtain ⟨its2, r2, p2, _⟩ := I.tuple hb
  refine HT.cat_tup p1 p2 (fun z => hx (r1.nil_iff.mp z)) (fun z => ⟨.ref a, H, I, rfl, q1 (r2.nil_iff.mp z)⟩) (fun z => ?_) (by rw [← r1.length, ← r2.length]; exact hz)
  refine ⟨.ref s.heap.objs.size, _, I.laid (t' := s.toks) (o := .tup (xs ++ ys)) (fun b ob q => Heap.get?_push_of_some _ q) (Nat.le_refl _) ?_, rfl, q2 (fun w => z (r2.nil_iff.mpr w)) _ (I.hok.fresh (Nat.le_refl _))⟩
  exact ⟨by rw [List.length_append]; exact hz, _, r1.append r2, IsTup.new _ _⟩
end
end L2

namespace L2
open PySem PySem.Spec PyProof.Rows

/-! ### places -/
/-- the place that an index of any sign means -/
def ixN (n : Nat) (i : Int) : Option Nat := if 0 ≤ i then (if i < n then some i.toNat else none) else if -(n : Int) ≤ i then some (i + n).toNat else none
def atI {α : Type} (xs : List α) (i : Int) : Option α := (ixN xs.length i).bind fun j => xs[j]?
theorem ixN_seq {n : Nat} {i : Int} {j : Nat} (h : ixN n i = some j) : seqIndex? i n = some j ∧ j < n ∧ -(n : Int) ≤ i ∧ i < n := by
  unfold ixN at h
  by_cases h0 : 0 ≤ i
  · rw [if_pos h0] at h
    by_cases h1 : i < n
    · rw [if_pos h1] at h
      have e : i.toNat = j := Option.some.inj h
      exact ⟨by rw [seqIndex_of h0 h1, e], by omega, by omega, h1⟩
    · rw [if_neg h1] at h; cases h
  · rw [if_neg h0] at h
    by_cases h1 : -(n : Int) ≤ i
    · rw [if_pos h1] at h
      have e : (i + n).toNat = j := Option.some.inj h
      exact ⟨by rw [seqIndex_neg (by omega) h1, e], by omega, h1, by omega⟩
    · rw [if_neg h1] at h; cases h
theorem atI_get {α : Type} {xs : List α} {i : Int} {v : α} (h : atI xs i = some v) : ∃ j, seqIndex? i xs.length = some j ∧ xs[j]? = some v ∧ j < xs.length ∧ -(xs.length : Int) ≤ i ∧ i < xs.length := by
  unfold atI at h
  cases e : ixN xs.length i with
  | none => rw [e] at h; cases h
  | some j =>
    rw [e] at h
    obtain ⟨h1, h2, h3, h4⟩ := ixN_seq e
    exact ⟨j, h1, h, h2, h3, h4⟩
theorem atI_nat {α : Type} {xs : List α} {j : Nat} {v : α} (h : xs[j]? = some v) : atI xs (j : Int) = some v := by
  have hj : j < xs.length := (List.getElem?_eq_some_iff.mp h).1
  have e : ixN xs.length (j : Int) = some j := by
    unfold ixN
    rw [if_pos (by omega), if_pos (by omega)]; simp
  unfold atI; rw [e]; exact h
/-! ### what may be subscripted -/
/-- what stands as an index of a plain subscript -/
def PlainIx (b : Expr) : Prop := ∀ o i, subscripted b false o i = operate [o, i] (getItem o i)
/-- a subscript by values -/
def IxR (X : Cx) (r : R2) : Prop :=
  ∀ (value slice : Expr) (pins : List (Addr × Obj)) (s : Shared) (σ : St) (H : Hp) (x y : V) (v u : Value) (Q : VK), Inv X pins σ H s → RelV x v → RelV y u → r x y H Q →
    subscripted slice false v u = operate [v, u] (getItem v u) → wpAny (model X.prog X.w) X.A (subscriptTail value slice v u) (EP X pins σ Q) X.xe s
/-- a call of a builtin's method by values: the receiver, the arguments -/
def MtR (X : Cx) (id : String) (r : V → List V → Hp → VK → Prop) : Prop :=
  ∀ (pins : List (Addr × Obj)) (s : Shared) (σ : St) (H : Hp) (x : V) (xs : List V) (v : Value) (us : List Value) (Q : VK), Inv X pins σ H s → RelV x v → Vals xs us → r x xs H Q →
    wpAny (model X.prog X.w) X.A (call (.builtin id) (v :: us)) (EP X pins σ Q) X.xe s
section
variable {X : Cx} {a b : Expr} {ta tb : TE} {pos : Pos}
theorem IxR.or {r r' : R2} (h : IxR X r) (h' : IxR X r') : IxR X (fun x y H Q => r x y H Q ∨ r' x y H Q) := by
  intro value slice pins s σ H x y v u Q I rx ry q hs
  rcases q with q | q
  · exact h value slice pins s σ H x y v u Q I rx ry q hs
  · exact h' value slice pins s σ H x y v u Q I rx ry q hs
theorem MtR.or {id : String} {r r' : V → List V → Hp → VK → Prop} (h : MtR X id r) (h' : MtR X id r') : MtR X id (fun x xs H Q => r x xs H Q ∨ r' x xs H Q) := by
  intro pins s σ H x xs v us Q I rx rs q
  rcases q with q | q
  · exact h pins s σ H x xs v us Q I rx rs q
  · exact h' pins s σ H x xs v us Q I rx rs q
/-- a[b] -/
theorem pe_ix {r : R2} (hr : IxR X r) (ha : PE X a ta) (hb : PE X b tb) (hs : PlainIx b) : PE X (.Subscript a b pos) (tOp r ta tb) := by
  intro pins s σ H Q I h
  exact Subscript_ (binT ha hb I h fun v u s2 x y H2 I2 rx ry q => hr a b pins s2 σ H2 x y v u Q I2 rx ry q (hs _ _))

def rIxL (K : PySem.W.Frag) : R2 := fun x y H Q => ∃ p xs i v, x = .ref p ∧ y = .int i ∧ SqL K H p xs ∧ atI xs i = some v ∧ Q v H
def rIxT (K : PySem.W.Frag) : R2 := fun x y H Q => ∃ p xs i v, x = .ref p ∧ y = .int i ∧ SqT K H p xs ∧ atI xs i = some v ∧ Q v H
def rIxS : R2 := fun x y H Q => ∃ z i c, x = .str z ∧ y = .int i ∧ z.length ≤ sizeLine ∧ atI z.cps.toList i = some c ∧ Q (.str ⟨#[c]⟩) H
theorem ix_list : IxR X (rIxL X.K) := by
  intro value slice pins s σ H x y v u Q I rx ry h hs
  obtain ⟨p, xs, i, z, rfl, rfl, hq, he, q⟩ := h
  cases rx
  obtain ⟨t, rfl⟩ := ry
  obtain ⟨its, r, pl, hz⟩ := I.list hq
  obtain ⟨j, h1, h2, h3, h4, h5⟩ := atI_get he
  obtain ⟨w, ew, rw'⟩ := r.get h2
  have hl := r.length
  have hn := line63
  have fin : EP X pins σ Q w s := ⟨z, H, I, rw', q⟩
  by_cases h0 : 0 ≤ i
  · have hj : i.toNat = j := by
      rw [seqIndex_of h0 h5] at h1
      exact Option.some.inj h1
    exact item_listR pl.isList h0 (by omega) (by rw [hj]; simpa using ew) fin hs
  · have hj : (i + (its.toArray.size : Int)).toNat = j := by
      rw [seqIndex_neg (by omega) h4] at h1
      rw [List.size_toArray, ← hl]
      exact Option.some.inj h1
    exact subscriptTail_builtinR (x := w) pl.isList.typeIs slot_list_getitem.lookup
      (wpAny_getItem_list_neg (Q := fun r s' => r = w ∧ EP X pins σ Q r s') pl.isList (by omega) (by rw [List.size_toArray] <;> omega) (by omega) (by rw [hj]; simpa using ew) ⟨rfl, fin⟩) hs
theorem ix_tup : IxR X (rIxT X.K) := by
  intro value slice pins s σ H x y v u Q I rx ry h hs
  obtain ⟨p, xs, i, z, rfl, rfl, hq, he, q⟩ := h
  cases rx
  obtain ⟨t, rfl⟩ := ry
  obtain ⟨its, r, pl, hz⟩ := I.tuple hq
  obtain ⟨j, h1, h2, h3, h4, h5⟩ := atI_get he
  obtain ⟨w, ew, rw'⟩ := r.get h2
  have hl := r.length
  have hn := line63
  have fin : EP X pins σ Q w s := ⟨z, H, I, rw', q⟩
  exact subscriptTail_builtinR (x := w) pl.typeIs slot_tuple_getitem.lookup
    (getItem_tuple (j := j) (Q := fun r s' => r = w ∧ EP X pins σ Q r s') pl (by omega) (by omega) (by rw [List.size_toArray, ← hl]; exact h1) (by simpa using ew) ⟨rfl, fin⟩) hs
theorem ix_str : IxR X rIxS := by
  intro value slice pins s σ H x y v u Q I rx ry h hs
  obtain ⟨z, i, c, rfl, rfl, hz, he, q⟩ := h
  obtain ⟨t, rfl⟩ := rx
  obtain ⟨t', rfl⟩ := ry
  obtain ⟨j, h1, h2, h3, h4, h5⟩ := atI_get he
  have hl : z.cps.toList.length = z.length := by simp [Str.length]
  rw [hl] at h1 h4 h5
  have hn := line63
  exact tail_any (typeIs_str s z t) slot_str_getitem.lookup (getItem_str (c := c) (by
    have e1 : decide (i < -(2 ^ 63 : Int)) = false := decide_eq_false (by omega)
    have e2 : decide (i ≥ 2 ^ 63) = false := decide_eq_false (by omega)
    rw [e1, e2, Bool.or_false]) (by rw [h1]; simpa using h2) ⟨.str ⟨#[c]⟩, H, I.tok _, ⟨_, rfl⟩, q⟩) hs
/-! ### xs[i] = v, any sign -/
/-- the list's object behind a store -/
theorem mapSeq_set (its : List Value) (n j : Nat) (u : Value) : Obj.mapSeq (·.setIfInBounds j u) { cls := .type "list", data := .seq its.toArray n } = { cls := .type "list", data := .seq (its.set j u).toArray n } := by
  simp [Obj.mapSeq]
theorem Inv.lst {pins : List (Addr × Obj)} {σ : St} {H : Hp} {s : Shared} {p : Addr} {xs : List V} (I : Inv X pins σ H s) (h : H p = some (.lst xs)) :
    ∃ (its : List Value) (n : Nat), Vals xs its ∧ s.heap.get? p = some { cls := .type "list", data := .seq its.toArray n } ∧ xs.length ≤ sizeLine := by
  obtain ⟨z, its, n, r, e⟩ := I.hok p _ h
  exact ⟨its, n, r, e, z⟩
/-- the list at p is written by an update of its object -/
theorem Inv.lstUpd {pins : List (Addr × Obj)} {σ : St} {H : Hp} {s : Shared} {p : Addr} {xs ys : List V} {its its' : List Value} {n n' : Nat} {f : Obj → Obj} (I : Inv X pins σ H s) (h : H p = some (.lst xs))
    (ho : s.heap.get? p = some { cls := .type "list", data := .seq its.toArray n }) (hf : f { cls := .type "list", data := .seq its.toArray n } = { cls := .type "list", data := .seq its'.toArray n' }) (r : Vals ys its') (hz : ys.length ≤ sizeLine) (t : Nat) :
    Inv X pins σ (upd H p (.lst ys)) { s with heap := s.heap.update p f, toks := t } := by
  have e : (s.heap.update p f).get? p = some { cls := .type "list", data := .seq its'.toArray n' } := by
    rw [Heap.get?_update_self f ho (by rw [hf] <;> rfl), hf]
  refine I.write (x := p) (e := p) (by rw [h]; trivial) (.inl rfl) (fun b u hb q => (Heap.get?_update_other _ _ (Ne.symm hb)).trans q) ⟨_, e⟩ ?_
  exact ⟨hz, its', n', r, e⟩
def rSetL : V → V → V → Hp → (Hp → Prop) → Prop := fun o i v H Q => ∃ p xs k j, o = .ref p ∧ i = .int k ∧ H p = some (.lst xs) ∧ ixN xs.length k = some j ∧ Q (upd H p (.lst (xs.set j v)))
theorem set_list : PSet X rSetL := by
  intro pins s σ H o i v ov iv u Q I ro ri rv h
  obtain ⟨p, xs, k, j, rfl, rfl, hp, hj, q⟩ := h
  cases ro
  obtain ⟨t, rfl⟩ := ri
  obtain ⟨its, n, r, ho, hz⟩ := I.lst hp
  obtain ⟨h1, h2, h3, h4⟩ := ixN_seq hj
  have hl := r.length
  have hn := line63
  have I' : Inv X pins σ (upd H p (.lst (xs.set j v))) { s with heap := s.heap.update p (Obj.mapSeq (·.setIfInBounds j u)) } :=
    I.lstUpd hp ho (mapSeq_set its n j u) (r.set rv j) (by rw [List.length_set]; exact hz) s.toks
  by_cases h0 : 0 ≤ k
  · have hk : k.toNat = j := by
      rw [seqIndex_of h0 h4] at h1
      exact Option.some.inj h1
    exact PySem.W.ki_setAt ho h0 (by omega) (by rw [List.size_toArray, ← hl]; exact h4) (by rw [hk]; exact ⟨_, I', q⟩)
  · have hk : (k + (its.toArray.size : Int)).toNat = j := by
      rw [seqIndex_neg (by omega) h3] at h1
      rw [List.size_toArray, ← hl]
      exact Option.some.inj h1
    exact PySem.W.ki_setBack ho (by omega) (by rw [List.size_toArray, ← hl]; exact h3) (by omega) (by rw [hk]; exact ⟨_, I', q⟩)

/-! ### slices -/
/-! ### in, not in: flat items -/
def flatV : V → Bool
  | .non => true
  | .bl _ => true
  | .int _ => true
  | .str _ => true
  | _ => false
/-- == of flat values -/
def eqV : V → V → Bool
  | .non, .non => true
  | .bl a, .bl b => a == b
  | .bl a, .int b => (if a then 1 else 0) == b
  | .int a, .bl b => a == (if b then 1 else 0)
  | .int a, .int b => a == b
  | .str a, .str b => a == b
  | _, _ => false
theorem eqAt_V {A : Around} {s : Shared} {y x : V} {u v : Value} (ry : RelV y u) (rx : RelV x v) (fy : flatV y = true) (fx : flatV x = true) : SeqAt.EqAt A s u v (eqV y x) := by
  cases y with
  | non =>
    cases ry
    cases x with
    | non => cases rx; exact SeqAt.EqAt.same _
    | bl b => cases rx; exact SeqAt.EqAt.none_bool b
    | int b => obtain ⟨t, rfl⟩ := rx; exact SeqAt.EqAt.none_int b t
    | str b => obtain ⟨t, rfl⟩ := rx; exact SeqAt.EqAt.none_str b t
    | _ => exact absurd (show false = true from fx) Bool.false_ne_true
  | bl a =>
    cases ry
    cases x with
    | non => cases rx; exact SeqAt.EqAt.bool_none a
    | bl b => cases rx; exact SeqAt.EqAt.bool_bool a b
    | int b => obtain ⟨t, rfl⟩ := rx; exact SeqAt.EqAt.bool_int a b t
    | str b => obtain ⟨t, rfl⟩ := rx; exact SeqAt.EqAt.bool_str a b t
    | _ => exact absurd (show false = true from fx) Bool.false_ne_true
  | int a =>
    obtain ⟨t', rfl⟩ := ry
    cases x with
    | non => cases rx; exact SeqAt.EqAt.int_none a t'
    | bl b => cases rx; exact SeqAt.EqAt.int_bool a t' b
    | int b => obtain ⟨t, rfl⟩ := rx; exact SeqAt.EqAt.int_int a t' b t
    | str b => obtain ⟨t, rfl⟩ := rx; exact SeqAt.EqAt.int_str a t' b t
    | _ => exact absurd (show false = true from fx) Bool.false_ne_true
  | str a =>
    obtain ⟨t', rfl⟩ := ry
    cases x with
    | non => cases rx; exact SeqAt.EqAt.str_none a t'
    | bl b => cases rx; exact SeqAt.EqAt.str_bool a t' b
    | int b => obtain ⟨t, rfl⟩ := rx; exact SeqAt.EqAt.str_int a t' b t
    | str b => obtain ⟨t, rfl⟩ := rx; exact SeqAt.EqAt.str_str a t' b t
    | _ => exact absurd (show false = true from fx) Bool.false_ne_true
  | _ => exact absurd (show false = true from fy) Bool.false_ne_true
/-- the items' answers, read off the values (a value's own answer does not lean on its token) -/
def eqU (x : V) (u : Value) : Bool := match u with
  | .none => eqV .non x
  | .bool b => eqV (.bl b) x
  | .int i _ => eqV (.int i) x
  | .str z _ => eqV (.str z) x
  | _ => false
theorem eqU_of {x y : V} {u : Value} (r : RelV y u) (f : flatV y = true) : eqU x u = eqV y x := by
  cases y with
  | non => cases r; rfl
  | bl b => cases r; rfl
  | int i => obtain ⟨t, rfl⟩ := r; rfl
  | str z => obtain ⟨t, rfl⟩ := r; rfl
  | _ => exact absurd (show false = true from f) Bool.false_ne_true
theorem any_eqU {x : V} : ∀ {xs : List V} {us : List Value}, Vals xs us → xs.all flatV = true → us.any (eqU x) = xs.any fun y => eqV y x
  | _, _, .nil, _ => rfl
  | y :: xs, u :: us, .cons r t, f => by
    rw [List.all_cons, Bool.and_eq_true] at f
    rw [List.any_cons, List.any_cons, eqU_of r f.1, any_eqU t f.2]
theorem mem_eqAt {A : Around} {s : Shared} {x : V} {v : Value} (rx : RelV x v) (fx : flatV x = true) : ∀ {xs : List V} {us : List Value}, Vals xs us → xs.all flatV = true → ∀ u ∈ us, SeqAt.EqAt A s u v (eqU x u)
  | _, _, .nil, _ => fun u hu => by cases hu
  | y :: xs, u :: us, .cons r t, f => fun u' hu => by
    rw [List.all_cons, Bool.and_eq_true] at f
    rcases List.mem_cons.mp hu with rfl | hu
    · rw [eqU_of r f.1]; exact eqAt_V r rx f.1 fx
    · exact mem_eqAt rx fx t f.2 u' hu
def inV (x : V) (xs : List V) : Bool := xs.any fun y => eqV y x
/-- x in a list or tuple of flat items -/
def rIn (K : PySem.W.Frag) (neg : Bool) : R2 := fun x y H Q => ∃ p xs, y = .ref p ∧ (SqL K H p xs ∨ SqT K H p xs) ∧ flatV x = true ∧ xs.all flatV = true ∧ Q (.bl (if neg then !inV x xs else inV x xs)) H
theorem op_in_seq : OpR X (compareOp .In) (rIn X.K false) := by
  intro pins s σ H x y v u Q I rx ry h
  obtain ⟨p, xs, rfl, hq, fx, fs, q⟩ := h
  cases ry
  rcases hq with hq | hq
  · obtain ⟨its, r, pl, hz⟩ := I.list hq
    refine SeqAt.in_listAt (eqU x) pl.isList (fun w hw => mem_eqAt rx fx r fs w (by simpa using hw)) ⟨.bl _, H, I, rfl, ?_⟩
    rw [show its.toArray.any (eqU x) = its.any (eqU x) by simp, any_eqU r fs]
    exact q
  · obtain ⟨its, r, pl, hz⟩ := I.tuple hq
    refine SeqAt.in_tupleAt (eqU x) pl (fun w hw => mem_eqAt rx fx r fs w (by simpa using hw)) ⟨.bl _, H, I, rfl, ?_⟩
    rw [show its.toArray.any (eqU x) = its.any (eqU x) by simp, any_eqU r fs]
    exact q
/-! ### len, list(x), tuple(x) of any list or tuple that is read -/
theorem call_len_seq : CallR X (.builtin "len") (fun xs H Q => ∃ p ys, xs = [.ref p] ∧ (SqL X.K H p ys ∨ SqT X.K H p ys) ∧ Q (.int ys.length) H) := by
  intro pins s σ H xs us Q I r h
  obtain ⟨p, ys, rfl, hq, q⟩ := h
  obtain ⟨u, rfl, rx⟩ := vals1 r
  cases rx
  have hn := line63
  rcases hq with hq | hq
  · obtain ⟨its, r', pl, hz⟩ := I.list hq
    have hlen := r'.length
    exact Calls.call_len_list pl.isList (by simp only [List.size_toArray] <;> omega) ⟨.int ys.length, H, I.tok _, ⟨s.toks + 1, by rw [List.size_toArray, hlen]⟩, q⟩
  · obtain ⟨its, r', pl, hz⟩ := I.tuple hq
    have hlen := r'.length
    exact len_tuple pl (by simp only [List.size_toArray] <;> omega) ⟨.int ys.length, H, I.tok _, ⟨s.toks + 1, by rw [List.size_toArray, hlen]⟩, q⟩
theorem call_len_str : CallR X (.builtin "len") (fun xs H Q => ∃ z, xs = [.str z] ∧ z.length ≤ sizeLine ∧ Q (.int z.length) H) := by
  intro pins s σ H xs us Q I r h
  obtain ⟨z, rfl, hz, q⟩ := h
  obtain ⟨u, rfl, t, rfl⟩ := vals1 r
  have hn := line63
  exact len_str (by omega) ⟨.int z.length, H, I.tok _, ⟨_, rfl⟩, q⟩
theorem CallR.or {f : Value} {r r' : List V → Hp → VK → Prop} (h : CallR X f r) (h' : CallR X f r') : CallR X f (fun xs H Q => r xs H Q ∨ r' xs H Q) := by
  intro pins s σ H xs us Q I rs q
  rcases q with q | q
  · exact h pins s σ H xs us Q I rs q
  · exact h' pins s σ H xs us Q I rs q
theorem call_list_of : CallR X (.type "list") (fun xs H Q => ∃ p ys, xs = [.ref p] ∧ (SqL X.K H p ys ∨ SqT X.K H p ys) ∧ ∀ l, H l = none → Q (.ref l) (upd H l (.lst ys))) := by
  intro pins s σ H xs us Q I r h
  obtain ⟨p, ys, rfl, hq, q⟩ := h
  obtain ⟨u, rfl, rx⟩ := vals1 r
  cases rx
  have fin : ∀ (its : List Value), Vals ys its → ys.length ≤ sizeLine → ∀ (h' : Heap) (c' : Nat), (∀ b o', s.heap.get? b = some o' → h'.get? b = some o') →
      h'.get? s.heap.objs.size = some { cls := .type "list", dict := none, data := .seq its.toArray c', slots := #[] } → EP X pins σ Q (.ref s.heap.objs.size) { s with heap := h' } := fun its r' hz h' c' kp e =>
    ⟨.ref s.heap.objs.size, _, I.laid (t' := s.toks) kp (Nat.le_refl _) (show ObjOk X.prog X.w _ h' _ (.lst ys) from ⟨hz, its, c', r', e⟩), rfl, q _ (I.hok.fresh (Nat.le_refl _))⟩
  rcases hq with hq | hq
  · obtain ⟨its, r', pl, hz⟩ := I.list hq
    have hlen := r'.length
    obtain ⟨o, ho, hc, n, hd⟩ := pl.isList
    exact call_list_seq p (.inl rfl) ho hc hd (fun h' c' kp e => fin its r' hz h' c' kp e) (by simp only [List.size_toArray] <;> omega)
  · obtain ⟨its, r', pl, hz⟩ := I.tuple hq
    have hlen := r'.length
    obtain ⟨o, ho, hc, n, hd⟩ := pl
    exact call_list_seq p (.inr rfl) ho hc hd (fun h' c' kp e => fin its r' hz h' c' kp e) (by simp only [List.size_toArray] <;> omega)
theorem call_tuple_of : CallR X (.type "tuple") (fun xs H Q => ∃ p ys, xs = [.ref p] ∧ ((SqL X.K H p ys ∧ ∀ l, H l = none → Q (.ref l) (upd H l (.tup ys))) ∨ (SqT X.K H p ys ∧ Q (.ref p) H))) := by
  intro pins s σ H xs us Q I r h
  obtain ⟨p, ys, rfl, h⟩ := h
  obtain ⟨u, rfl, rx⟩ := vals1 r
  cases rx
  rcases h with ⟨hq, q⟩ | ⟨hq, q⟩
  · obtain ⟨its, r', pl, hz⟩ := I.list hq
    have hlen := r'.length
    refine call_tuple_list pl.isList (fun h' kp => ?_) (by simp only [List.size_toArray] <;> omega)
    have I1 : Inv X pins σ H { s with heap := h' } := I.kept (t' := s.toks) kp
    have I2 : Inv X pins σ (upd H h'.objs.size (.tup ys)) { s with heap := h'.push { cls := .type "tuple", data := .seq its.toArray } } :=
      I1.laid (t' := s.toks) (fun b o e => Heap.get?_push_of_some _ e) (Nat.le_refl _) (show ObjOk X.prog X.w _ _ _ (.tup ys) from ⟨hz, its, r', IsTup.new _ _⟩)
    exact ⟨.ref h'.objs.size, _, I2, rfl, q _ (I1.hok.fresh (Nat.le_refl _))⟩
  · obtain ⟨its, r', pl, hz⟩ := I.tuple hq
    exact call_tuple_same pl ⟨.ref p, H, I, rfl, q⟩

/-! ### the call of a builtin's method: o.m(..) -/
/-- the value is of that builtin type -/
def tyV (K : PySem.W.Frag) (T : String) (x : V) (H : Hp) : Prop := match x with
  | .str _ => T = "str"
  | .int _ => T = "int"
  | .ref p => (T = "list" ∧ ∃ xs, SqL K H p xs) ∨ (T = "tuple" ∧ ∃ o, K.lookup p = some o ∧ o.cls = .type "tuple" ∧ o.dict = none) ∨
      (T = "dict" ∧ ((∃ kvs, H p = some (.dK kvs)) ∨ ∃ kvs, H p = some (.dT kvs))) ∨ (T = "set" ∧ ∃ S n, H p = some (.set S n))
  | _ => False
theorem tyV_is {pins : List (Addr × Obj)} {σ : St} {H : Hp} {s : Shared} {T : String} {x : V} {v : Value} (I : Inv X pins σ H s) (r : RelV x v) (ty : tyV X.K T x H) :
    s.TypeIs v T ∧ ∀ a, v = .ref a → ∃ ob, s.heap.get? a = some ob ∧ ob.dict = none := by
  cases x with
  | str z =>
    obtain ⟨t, rfl⟩ := r
    cases (show T = "str" from ty)
    exact ⟨typeIs_str s z t, fun _ e => nomatch e⟩
  | int i =>
    obtain ⟨t, rfl⟩ := r
    cases (show T = "int" from ty)
    exact ⟨typeIs_int s i t, fun _ e => nomatch e⟩
  | ref p =>
    cases r
    rcases ty with ⟨rfl, xs, hq⟩ | ⟨rfl, o, hk, hc, hd⟩ | ⟨rfl, hk⟩ | ⟨rfl, S, n, hk⟩
    · obtain ⟨its, _, pl, _⟩ := I.list hq
      refine ⟨pl.isList.typeIs, fun a e => ?_⟩
      cases e
      obtain ⟨o, n, e, c, hd, _⟩ := pl
      exact ⟨o, e, hd⟩
    · refine ⟨⟨o, I.kIn p o hk, hc⟩, fun a e => ?_⟩
      cases e
      exact ⟨o, I.kIn _ o hk, hd⟩
    · have z : ∃ o, s.heap.get? p = some o ∧ o.ExactDict := by
        rcases hk with ⟨kvs, hk⟩ | ⟨kvs, hk⟩
        · obtain ⟨_, _, _, _, o, _, _, e, ex, _⟩ := I.hok p _ hk
          exact ⟨o, e, ex⟩
        · obtain ⟨_, _, _, _, o, _, _, e, ex, _⟩ := I.hok p _ hk
          exact ⟨o, e, ex⟩
      obtain ⟨o, e, ex⟩ := z
      refine ⟨⟨o, e, ex.1⟩, fun a e2 => ?_⟩
      cases e2
      exact ⟨o, e, ex.2.1⟩
    · obtain ⟨o, _, _, _, e, ex, _⟩ := I.hok p _ hk
      refine ⟨⟨o, e, ex.1⟩, fun a e2 => ?_⟩
      cases e2
      exact ⟨o, e, ex.2.1⟩
  | _ => exact False.elim ty
def tBM0 (K : PySem.W.Frag) (T : String) (r : V → List V → Hp → VK → Prop) (to : TE) : TE := fun σ H Q => to σ H fun x H1 => tyV K T x H1 ∧ r x [] H1 Q
def tBM (K : PySem.W.Frag) (T : String) (r : V → List V → Hp → VK → Prop) (to : TE) (t : TA) : TE := fun σ H Q => to σ H fun x H1 => tyV K T x H1 ∧ t σ H1 fun xs H2 => r x xs H2 Q
variable {o e : Expr} {es : List Expr} {to : TE} {t : TA} {name : Str} {apos cpos : Pos} {T id : String} {r : V → List V → Hp → VK → Prop}
theorem pe_bm0 (pa : PlainAttrs T) (slot : Slot T name id) (hty : typeOf (.builtin id) = pure (.type "method_descriptor")) (hm : MtR X id r) (ho : PE X o to)
    (hbase : attributeBase o name X.env (eval o X.env) = eval o X.env := by rfl) (hline : (apos.endLine == cpos.line) = true := by rfl) : PE X (.Call (.Attribute o name apos) [] [] cpos) (tBM0 X.K T r to) := by
  intro pins s σ H Q I h
  refine wpAny_Call_method0_late hbase hline (thn (ho pins s σ H _ I h) fun v s1 ⟨x, H1, I1, r1, ty, q1⟩ => ?_)
  obtain ⟨h1, h2⟩ := tyV_is I1 r1 ty
  exact ⟨T, id, pa, slot, hty, h1, h2, Calls.callWith_builtin rfl (PySem.evalArgs_none (hm pins s1 σ H1 x [] v [] Q I1 r1 .nil q1))⟩
theorem pe_bm (pa : PlainAttrs T) (slot : Slot T name id) (hty : typeOf (.builtin id) = pure (.type "method_descriptor")) (hm : MtR X id r) (ho : PE X o to) (ha : PA X (e :: es) t)
    (hbase : attributeBase o name X.env (eval o X.env) = eval o X.env := by rfl)
    (hfew : ((backTo cpos (starEach (e :: es) X.env)).all (fun x => !x.1) && (backToKw cpos (keywordEach [] X.env)).all (fun x => x.1.isSome)
      && decide ((e :: es).length + ([] : List Keyword).length + (if ([] : List Keyword).isEmpty then 0 else 1) < 30)) = true := by rfl)
    (hline : (apos.endLine == cpos.line) = true := by rfl) (hs : starEach (e :: es) X.env = (false, eval e X.env) :: starEach es X.env := by rfl) (hplain : (backTo cpos (starEach es X.env)).any (·.1) = false := by rfl) :
    PE X (.Call (.Attribute o name apos) (e :: es) [] cpos) (tBM X.K T r to t) := by
  intro pins s σ H Q I h
  refine wpAny_Call_method_late hbase hfew hline rfl (thn (ho pins s σ H _ I h) fun v s1 ⟨x, H1, I1, r1, ty, q1⟩ => ?_)
  obtain ⟨h1, h2⟩ := tyV_is I1 r1 ty
  refine ⟨T, id, pa, slot, hty, h1, h2, ?_⟩
  have hA := ha cpos pins s1 σ H1 _ I1 q1
  rw [hs] at hA ⊢
  refine Calls.callWith_builtin (by show (false || (backTo cpos (starEach es X.env)).any (·.1)) = false; rw [hplain] <;> rfl) (Calls.evalArgs_plain ?_)
  exact thn hA fun us s2 ⟨vs, H2, I2, r2, q2⟩ => hm pins s2 σ H2 x vs v us Q I2 r1 r2 q2
/- xs.append(e), list.index on a module's tuple .. are MtR facts of 06m -/
end
end L2

namespace L2
open PySem PySem.Spec PyProof.Rows

def MtM (X : Cx) (id : String) (r : V → List V → Hp → VK → Prop) : Prop :=
  ∀ (pins : List (Addr × Obj)) (s : Shared) (σ : St) (H : Hp) (x : V) (xs : List V) (v : Value) (us : List Value) (Q : VK), Inv X pins σ H s → RelV x v → Vals xs us → r x xs H Q →
    wpAny (model X.prog X.w) X.A (call (.builtin id) (v :: us)) (EP X pins σ Q) X.xe s

/-! ### lists of values -/
theorem Vals.one : ∀ {x : V} {us : List Value}, Vals [x] us → ∃ u, us = [u] ∧ RelV x u
  | _, _, .cons r .nil => ⟨_, rfl, r⟩
theorem Vals.two : ∀ {x y : V} {us : List Value}, Vals [x, y] us → ∃ u v, us = [u, v] ∧ RelV x u ∧ RelV y v
  | _, _, _, .cons r (.cons q .nil) => ⟨_, _, rfl, r, q⟩
theorem Vals.zero : ∀ {us : List Value}, Vals [] us → us = []
  | _, .nil => rfl
theorem Vals.eraseIdx : ∀ {xs : List V} {us : List Value} (i : Nat), Vals xs us → Vals (xs.eraseIdx i) (us.eraseIdx i)
  | _, _, _, .nil => .nil
  | _, _, 0, .cons _ t => t
  | _, _, i + 1, .cons r t => .cons r (Vals.eraseIdx i t)
theorem Vals.reverse {xs : List V} {us : List Value} (h : Vals xs us) : Vals xs.reverse us.reverse := by
  induction h with
  | nil => exact .nil
  | cons r t ih => rw [List.reverse_cons, List.reverse_cons]; exact Vals.append ih (.cons r .nil)
theorem Vals.rep {xs : List V} {us : List Value} (h : Vals xs us) : ∀ k : Nat, Vals (List.replicate k xs).flatten (List.replicate k us).flatten
  | 0 => .nil
  | k + 1 => by
    rw [List.replicate_succ, List.replicate_succ, List.flatten_cons, List.flatten_cons]
    exact Vals.append h (Vals.rep h k)
theorem foldl_rep (its : List Value) : ∀ (k : Nat) (acc : List Value),
    List.foldl (fun x1 x2 => x1 ++ x2) acc.toArray (List.replicate k its.toArray) = (acc ++ (List.replicate k its).flatten).toArray
  | 0, acc => by simp
  | k + 1, acc => by
    have e : acc.toArray ++ its.toArray = (acc ++ its).toArray := by simp
    have e2 : (acc ++ its) ++ (List.replicate k its).flatten = acc ++ (List.replicate (k + 1) its).flatten := by
      rw [List.replicate_succ, List.flatten_cons, List.append_assoc]
    rw [← e2, ← foldl_rep its k (acc ++ its), ← e, List.replicate_succ, List.foldl_cons]

section
variable {X : Cx} {pins : List (Addr × Obj)} {σ : St} {H : Hp} {s : Shared} {l b : Addr} {xs ys zs : List V}

/-! ### the two steps: a tracked list is rewritten, a new list is laid -/
theorem Inv.lset {its its' : List Value} {n : Nat} {f : Array Value → Array Value} {t' : Nat} (I : Inv X pins σ H s) (hH : H l = some (.lst xs))
    (e : s.heap.get? l = some { cls := .type "list", data := .seq its.toArray n }) (hf : f its.toArray = its'.toArray) (hv : Vals ys its') (hz : ys.length ≤ sizeLine) :
    Inv X pins σ (upd H l (.lst ys)) { s with heap := s.heap.update l (Obj.mapSeq f), toks := t' } := by
  have q := PySem.IsL.update e f
  rw [hf] at q
  refine I.write (x := l) (e := l) (by rw [hH]; exact trivial) (.inl rfl) (fun b' u hb hu => (Heap.get?_update_other s.heap (Obj.mapSeq f) (Ne.symm hb)).trans hu) ⟨_, q⟩ ?_
  exact ⟨hz, its', _, hv, q⟩
theorem Inv.lnew {its : List Value} {t' : Nat} (I : Inv X pins σ H s) (hv : Vals ys its) (hz : ys.length ≤ sizeLine) :
    Inv X pins σ (upd H s.heap.objs.size (.lst ys)) { s with heap := s.heap.push { cls := .type "list", data := .seq its.toArray }, toks := t' } :=
  I.laid (fun _ _ q => Heap.get?_push_of_some _ q) (Nat.le_refl _) ⟨hz, its, 0, hv, Heap.get?_push_size _ rfl⟩
theorem Inv.fresh (I : Inv X pins σ H s) : H s.heap.objs.size = none := I.hok.fresh (Nat.le_refl _)
theorem Inv.lstM (I : Inv X pins σ H s) (hH : H l = some (.lst xs)) : xs.length ≤ sizeLine ∧ ∃ (its : List Value) (n : Nat), Vals xs its ∧ xs.length = its.length ∧ s.heap.get? l = some { cls := .type "list", data := .seq its.toArray n } := by
  obtain ⟨z, its, n, r, e⟩ := I.hok l _ hH
  exact ⟨z, its, n, r, r.length, e⟩

theorem notLongL {n : Nat} (h : n ≤ sizeLine) : Builtin.List.listTooLong n = false := by
  unfold Builtin.List.listTooLong
  exact decide_eq_false (by omega)
end

section
variable {X : Cx}

/-! ### methods -/
def rAppend : V → List V → Hp → VK → Prop := fun x vs H Q => ∃ l xs y, x = .ref l ∧ vs = [y] ∧ H l = some (.lst xs) ∧ xs.length < sizeLine ∧ Q .non (upd H l (.lst (xs ++ [y])))
theorem mt_append : MtM X "list.append" rAppend := by
  intro pins s σ H x vs v us Q I rx rv h
  obtain ⟨l, xs, y, rfl, rfl, hH, hz, q⟩ := h
  cases rx
  obtain ⟨u, rfl, ru⟩ := rv.one
  obtain ⟨z, its, n, r, hl, e⟩ := I.lstM hH
  refine call_meets F.slot_list_append ⟨_, e, rfl⟩ F.entry_list_append (F.args_list_append_2 _ _) (PySem.list_append l its.toArray n u (by rw [List.size_toArray]; omega)) ⟨e, ?_⟩
  refine ⟨.non, _, I.lset (its' := its ++ [u]) hH e (by simp) (r.append (.cons ru .nil)) ?_, rfl, q⟩
  rw [List.length_append, List.length_singleton]
  omega

/-! ### list + list, list += list, list * int -/
def rCat : R2 := fun x y H Q => ∃ l b xs zs, x = .ref l ∧ y = .ref b ∧ H l = some (.lst xs) ∧ H b = some (.lst zs) ∧ xs.length + zs.length ≤ sizeLine ∧ ∀ p, H p = none → Q (.ref p) (upd H p (.lst (xs ++ zs)))
theorem op_cat : OpR X (binaryOp .Add) rCat := by
  intro pins s σ H x y v u Q I rx ry h
  obtain ⟨l, b, xs, zs, rfl, rfl, hH, hB, hz, q⟩ := h
  cases rx
  cases ry
  obtain ⟨z, its, n, r, hl, e⟩ := I.lstM hH
  obtain ⟨z2, its2, n2, r2, hl2, e2⟩ := I.lstM hB
  refine PySem.P.add_list e e2 ?_ (by rw [List.size_toArray, List.size_toArray]; omega)
  have ea : its.toArray ++ its2.toArray = (its ++ its2).toArray := by simp
  rw [ea]
  exact ⟨.ref _, _, I.lnew (t' := s.toks) (r.append r2) (by rw [List.length_append]; omega), rfl, q _ I.fresh⟩
/-- a list times an int (a negative one is nothing) -/
def rRep : R2 := fun x y H Q => ∃ l k xs, x = .ref l ∧ y = .int k ∧ H l = some (.lst xs) ∧ -(2 ^ 63) ≤ k ∧ k < 2 ^ 63 ∧ xs.length * k.toNat ≤ sizeLine ∧
  ∀ p, H p = none → Q (.ref p) (upd H p (.lst (List.replicate k.toNat xs).flatten))
theorem len_rep {α : Type} (xs : List α) (k : Nat) : (List.replicate k xs).flatten.length = k * xs.length := by
  induction k with
  | zero => simp
  | succ k ih => rw [List.replicate_succ, List.flatten_cons, List.length_append, ih, Nat.succ_mul, Nat.add_comm]
theorem op_rep : OpR X (binaryOp .Mult) rRep := by
  intro pins s σ H x y v u Q I rx ry h
  obtain ⟨l, k, xs, rfl, rfl, hH, h1, h2, hz, q⟩ := h
  cases rx
  obtain ⟨t, rfl⟩ := ry
  obtain ⟨z, its, n, r, hl, e⟩ := I.lstM hH
  have hlen : its.toArray.size * k.toNat ≤ sizeLine := by rw [List.size_toArray, ← hl]; exact hz
  have hcap : ¬ its.toArray.size * k.toNat > (2 ^ 63 - 1) / 8 := by
    have : (sizeLine : Nat) ≤ (2 ^ 63 - 1) / 8 := by decide
    omega
  have hfit : ¬ (!Builtin.List.listFitsIndex k) = true := by
    rw [fitsIndex_both h1 h2]
    exact Bool.false_ne_true
  have hlong : ¬ Builtin.List.listTooLong (its.toArray.size * k.toNat) = true := by
    rw [notLongL hlen]
    exact Bool.false_ne_true
  have hnew : List.foldl (fun x1 x2 => x1 ++ x2) #[] (List.replicate (if its.toArray.isEmpty = true then 0 else k.toNat) its.toArray) = (List.replicate k.toNat its).flatten.toArray := by
    have f0 : ∀ m : Nat, List.foldl (fun x1 x2 => x1 ++ x2) #[] (List.replicate m its.toArray) = (List.replicate m its).flatten.toArray := fun m => by
      have := foldl_rep its m []
      rw [List.nil_append] at this
      exact this
    rw [f0]
    cases its with
    | nil => simp
    | cons a r' => rw [if_neg (by simp)]
  refine wpAny_binaryOp_repeat_ref (T := "list") (U := "int") (by decide) ⟨_, e, rfl⟩ (fun s' => typeIs_int s' k t) noFill_list_mul F.fills_int_mul F.slot_int_rmul repeat_list F.slot_int_index.lookup
    (call_meets F.slot_int_rmul (typeIs_int s k t) F.entry_int_rmul (F.args_int_rmul_2 _ _) (int___rmul___int_list k t l its.toArray n)
      ⟨e, rfl, ⟨_, e, rfl⟩, call_meets F.slot_list_mul ⟨_, e, rfl⟩ F.entry_list_mul (F.args_list_mul_2 _ _) (AutoListH.list___mul___list_int_3 l its.toArray n k t hfit hcap hlong) ⟨e, ?_⟩⟩)
  rw [hnew]
  exact ⟨.ref _, _, I.lnew (t' := s.toks) (r.rep k.toNat) (by rw [len_rep, Nat.mul_comm]; exact hz), rfl, q _ I.fresh⟩

/-! ### del xs[i] -/
end

/-! ### xs[a:b] = ys -/
section
variable {prog : Program} {w : World} {A : Around} {E : Value → Shared → Prop} {s : Shared}
set_option maxRecDepth 100000 in
end

section
variable {X : Cx}
end
end L2

namespace Att
open PySem PySem.W PySem.Calls PyProof.Rows

/-! ### the script -/
theorem ints_of_wellAll {P : Params} {h : Heap} : ∀ (ns : List Int) (vs : List Value), WellAll P h vs (ns.map WData.int) → IntsAre vs ns := by
  intro ns
  induction ns with
  | nil =>
    intro vs w
    rw [List.map_nil] at w
    cases w
    exact .nil
  | cons n ns ih =>
    intro vs w
    rw [List.map_cons] at w
    cases w with
    | cons a b =>
      cases a
      exact .cons _ _ (ih _ b)

theorem script_of {l : OpenLaw} {n : Nat} (hn : l.most = some n) {P : Params} {h : Heap} {args : List WData} {vals : List Value}
    (hpre : l.row.toRowW.claim.pre args = true) (hwl : WellAll P h vals args) :
    ∃ a vs ns, vals = [Value.ref a] ∧ args = [WData.list (ns.map WData.int)] ∧ h.get? a = some { cls := .type "list", data := .seq vs.toArray } ∧ IntsAre vs ns ∧ ns.length ≤ n := by
  have hsh : WShape.hasAll [] args [.list .int] = true := (pre_splitW hpre).1
  have hc : l.pre.holds [] { args := args } = true := (pre_splitW hpre).2
  obtain ⟨d, r, rfl, h1, h2⟩ := hasAllW_cons hsh
  obtain rfl := hasAllW_nil h2
  obtain ⟨xs, rfl, h3⟩ := hasW_list h1
  obtain ⟨ns, rfl⟩ := items_int h3
  have hlen : ns.length ≤ n := by
    unfold OpenLaw.pre at hc
    have h4 : (WTm.not (.lt (.lit (.int (n : Int))) (.len (.arg 0)))).holds [] { args := [.list (ns.map .int)] } = true := by
      have h4 := (holds_andW hc).1
      rw [hn] at h4
      exact h4
    have h5 := condW_of h4 (w_not (w_lt w_lit (w_len_list (w_arg rfl))))
    rw [List.length_map] at h5
    refine Nat.le_of_not_lt fun q => ?_
    have q' : (n : Int) < ((ns.length : Nat) : Int) := by omega
    first
      | (rw [decide_eq_true q'] at h5; exact absurd h5 (by decide))
      | (simp at h5; omega)
  cases hwl with
  | cons w1 w2 =>
    cases w2
    cases w1 with
    | list ho hall => exact ⟨_, _, ns, rfl, rfl, ho, ints_of_wellAll ns _ hall, hlen⟩

theorem post_true (l : OpenLaw) (args : List WData) : l.row.toRowW.claim.post args (.bool true) args = true :=
  postW_of (r := l.row.toRowW) (X := (true == true))
    (show WShape.has [] (.bool true) .bool = true by first | rfl | decide | simp [WShape.has, WShape.arms, WShape.armsAll])
    (show (WTm.eq .res (.lit (.bool true))).value [] { args := args, res := some (.bool true), after := args } = some (.bool (true == true)) from w_eq_bool (w_res rfl) w_lit) rfl

/-! ### the attachment: holds_open's last premise (the goal 'hc' behind k_head) from a wpAny of the law's body -/
/-- the same from a codeAny of the CALL (for a layer whose function contracts speak of calls) -/
theorem attach_call {l : OpenLaw} {n : Nat} {q : Program} {loose : List Str} {XP : (Str → Option Value) → Heap → Prop} {YP : World → Heap → Prop} {d : DefRec}
    (hn : l.most = some n) (hdf : d.params.defaults = [])
    (call : ∀ (w : World) (s₀ s₁ : Shared) (mg mb : Str → Option Value) (fa : Addr) (o : Obj) (pm cd doc : Value) (a : Addr) (vs : List Value) (ns : List Int),
      Ground q loose [] XP w s₀ mg mb s₁.heap → YP w s₁.heap →
      s₁.heap.get? fa = some o → o.data = .func (docDef d.name d.params d.body d.scope pm cd doc) → s₁.heap.CodeRec cd d.name → mg d.name = some (.ref fa) →
      s₁.heap.get? a = some { cls := .type "list", data := .seq vs.toArray } → IntsAre vs ns → ns.length ≤ n → s₁.gens = #[] →
      codeAny (model l.prog w) callerA (.call (.ref fa) ⟨[.ref a], []⟩) (fun r s' => r = .ok (.ret (.bool true)) ∧ OldK s₁.heap s'.heap ∧ s'.os = s₁.os ∧ AllBare s'.gens) s₁) :
    WalkO q loose XP YP l.row.toRowW d [] (fun f vs => PySem.call f vs) := by
  intro w s₀ s₁ mg mb G Y fa o pm cd doc dV kV ho hd hcd hD hmg hg args vals as hpre hlay hrd hwl hlo
  obtain rfl : dV = .none := Dflts.none hD hdf
  obtain rfl : kV = .none := Dflts.noKw hD
  obtain ⟨a, vs, ns, rfl, rfl, hobj, hints, hlen⟩ := script_of hn hpre hwl
  refine enter_call (codeAny_mono (call w s₀ s₁ mg mb fa o pm cd doc a vs ns G Y ho (fd_plain hd) hcd hmg hobj hints hlen hg) fun r s' hq => ?_)
  obtain ⟨rfl, h2, h3, h4⟩ := hq
  exact ⟨.inl ⟨.bool true, .bool true, [], rfl, fun _ => rfl, .bool true, post_true l _, fun _ => ⟨List.Pairwise.nil, fun _ hm => (nomatch hm)⟩⟩, h2, h3, h4⟩

/-! ### rules over ANY heap (no ledger) from facts about the written part K: the library's own take a ledger (News) for what they write -/
section
variable {prog : Program} {w : World} {A : Around} {E : Value → Shared → Prop} {s : Shared} {K : Frag}

/-! the whole heap as the ledger: makes every rule that writes through a ledger a rule over any heap -/
end
end Att

namespace L2
open PySem PySem.Spec PyProof.Rows

theorem vals_ints : ∀ {vs : List Value} {ns : List Int}, IntsAre vs ns → Vals (ns.map V.int) vs
  | _, _, .nil => .nil
  | _, _, .cons n t h => .cons ⟨t, rfl⟩ (vals_ints h)

/-- nothing is tracked but the script, known to the object (or it is an object of the module) -/
def Only (H : Hp) : Prop := ∀ b, H b = none ∨ ∃ o xs, H b = some (.frz o (.lst xs))

/-- THE HEAD: the law's promise, at the heap behind the top. F, the promise of the law's def, may use that base is part of the heap (so K.In base, base.Ns mainGlobals mg stand in Mod) -/
theorem law_call {P : Program} {w : World} {K : PySem.W.Frag} {mg mb : Str → Option Value} {CX : CXT} {k : Nat} {fa a : Addr} {fd : FuncData} {x : Str} {sp : Sp} {s₁ : Shared} {vs : List Value} {ns : List Int}
    (KX : K.In s₁.heap) (hns : s₁.heap.Ns mainGlobals mg) (hb : s₁.heap.Ns builtinsNs mb) (hbb : ∀ x : Str, x ≠ "__name__" → mb x = bootBuiltins x) (hlim : s₁.heap.NoLimit) (hg : s₁.gens = #[])
    (ha : s₁.heap.get? a = some { cls := .type "list", data := .seq vs.toArray }) (hi : IntsAre vs ns) (hl : ns.length ≤ sizeLine) (hr : Room k callerA)
    (F : ∀ base : Heap, K.In base → base.Ns mainGlobals mg → FnOk P w K mg base CX k fa fd [x] sp) (hbind : ∀ (s : Shared) (u : Value), BindsTo s fd ⟨[u], []⟩ [(x, u)])
    (hsp : ∀ H : Hp, Only H → SqL K H a (ns.map V.int) → sp [.ref a] H (fun v _ => v = .bl true) fun _ _ _ => False)
    (hCX : ∀ H e s', CX [] H s₁ (fun _ _ _ => False) e s' → False) :
    codeAny (model P w) callerA (.call (.ref fa) ⟨[.ref a], []⟩) (fun r s' => r = .ok (.ret (.bool true)) ∧ OldK s₁.heap s'.heap ∧ s'.os = s₁.os ∧ AllBare s'.gens) s₁ := by
  have rv := vals_ints hi
  have lenV := hi.length
  -- from an abstract heap in which nothing but the script may be tracked
  have core : ∀ H : Hp, Only H → SqL K H a (ns.map V.int) → HOk P w H s₁.heap → (∀ b, H b ≠ none → b = a) → (H a ≠ none → K.lookup a = none) →
      codeAny (model P w) callerA (.call (.ref fa) ⟨[.ref a], []⟩) (fun r s' => r = .ok (.ret (.bool true)) ∧ OldK s₁.heap s'.heap ∧ s'.os = s₁.os ∧ AllBare s'.gens) s₁ := by
    intro H hO hS hok hA hK
    have base_of : ∀ {b : Addr} {o : Obj}, s₁.heap.get? b = some o → H b = none → (hidT s₁.heap H).get? b = some o := fun e n => hidT_get e n
    have noA : ∀ {b : Addr} {o : Obj} {es : Array DictEntry} {ep : Nat}, s₁.heap.get? b = some o → o.data = .dict es ep → H b = none := fun {b o es ep} e d => by
      cases q : H b with
      | none => rfl
      | some u =>
        have e' : b = a := hA b (by rw [q]; simp)
        subst e'
        rw [ha] at e; cases e
        have d' : Data.seq vs.toArray _ = Data.dict es ep := d
        cases d'
    have nsK : ∀ {b : Addr} {m : Str → Option Value}, s₁.heap.Ns b m → (hidT s₁.heap H).Ns b m := fun {b m} ⟨o, es, ep, e, d, r⟩ => ⟨o, es, ep, base_of e (noA e d), d, r⟩
    have hKb : K.In (hidT s₁.heap H) := fun b o e => base_of (KX b o e) (by
      cases q : H b with
      | none => rfl
      | some u =>
        have e' : b = a := hA b (by rw [q]; simp)
        subst e'
        rw [hK (by rw [q]; simp)] at e; cases e)
    have hM : Mod K mg (hidT s₁.heap H) := ⟨hKb, nsK hns, ⟨mb, nsK hb, hbb⟩, let ⟨mc, h1, h2⟩ := hlim; ⟨mc, nsK h1, h2⟩⟩
    have e0 : Env0 P w K mg (hidT s₁.heap H) callerA [] s₁ H := ⟨rfl, hM, fun b o e => of_hidT e, Nat.le_of_eq (hidT_size _ _), trivial, fun b hb => absurd (show b ∈ ([] : List Addr) from hb) (by simp), hok, .of_eq hg⟩
    refine codeAny_mono ((F _ hKb (nsK hns)).run callerA [] s₁ H ⟨[.ref a], []⟩ [.ref a] [.ref a] _ _ hr e0 (hbind s₁ (.ref a)) (.cons rfl .nil) (hsp H hO hS)) fun r s' h => ?_
    cases r with
    | error e => exact (hCX H e s' h).elim
    | ok fl =>
      cases fl with
      | next => exact False.elim h
      | brk => exact False.elim h
      | cont => exact False.elim h
      | ret u =>
        obtain ⟨v, H', os, bare, un, hok', r', q⟩ := h
        have q' : v = .bl true := q
        subst q'
        obtain rfl : u = Value.bool true := r'
        refine ⟨rfl, OldK.of_keep fun b o e => ?_, os, bare⟩
        cases q : H b with
        | none => exact un.keep b o e q (by intro z; exact absurd (show b ∈ ([] : List Addr) from z) (by simp)) (by simp)
        | some u =>
          rcases hO b with z | ⟨ob, xs, z⟩
          · rw [q] at z; cases z
          · have z2 := un.frzs b ob _ z
            obtain ⟨e1, _⟩ := hok b _ z
            obtain ⟨e2, _⟩ := hok' b _ z2
            rw [e] at e1; cases e1
            exact e2
  cases hk : K.lookup a with
  | some o =>
    -- the script is one of the module's own objects
    have e := KX a o hk
    rw [ha] at e
    cases e
    refine core (fun _ => none) (fun _ => .inl rfl) (.inr ⟨_, vs.toArray, _, hk, rfl, rfl, rfl, by rw [List.size_toArray, lenV]; exact hl, by simpa using rv⟩) (fun b u z => by have z' : (none : Option HO) = some u := z; cases z') (fun b z => absurd rfl z) fun z => absurd rfl z
  | none =>
    refine core (fun b => if b = a then some (.frz { cls := .type "list", data := .seq vs.toArray } (.lst (ns.map V.int))) else none) (fun b => ?_) (.inl (.inr ⟨{ cls := .type "list", data := .seq vs.toArray }, if_pos rfl⟩)) (fun b u z => ?_) (fun b z => ?_) fun _ => hk
    · by_cases hb : b = a
      · exact .inr ⟨_, _, if_pos hb⟩
      · exact .inl (if_neg hb)
    · by_cases hb : b = a
      · have z' := (if_pos hb).symm.trans z
        cases z'
        subst hb
        exact ⟨ha, by rw [List.length_map]; exact hl, vs, _, rv, ha⟩
      · have z' := (if_neg hb).symm.trans z
        cases z'
    · by_cases hb : b = a
      · exact hb
      · exact absurd (if_neg hb) z
end L2

namespace L2
open PySem PySem.Spec PyProof.Rows

abbrev KOf {K : PySem.W.Frag} {h : Heap} (_ : K.In h) : PySem.W.Frag := K

/-- the goal that k_head leaves (case hc), from the law's promise. F gives the function object fd (K's own) once, then the promise over every base -/
theorem walk_of {l : PySem.W.OpenLaw} {n k : Nat} {q : Program} {loose : List Str} {XP : (Str → Option Value) → Heap → Prop} {YP : World → Heap → Prop} {d : DefRec} {K : Params → PySem.W.Frag} {CX : World → CXT} {sp : World → Sp} {x : Str}
    (hn : l.most = some n) (hn2 : n ≤ sizeLine) (hdf : d.params.defaults = []) (hr : Room k callerA)
    (hY : ∀ (w : World) (h : Heap), YP w h → (K w.params).In h)
    (F : ∀ (w : World) (mg : Str → Option Value) (fa : Addr) (h : Heap), (K w.params).In h → h.Ns mainGlobals mg → mg d.name = some (.ref fa) →
      ∃ fd : FuncData, (∀ (s : Shared) (u : Value), BindsTo s fd ⟨[u], []⟩ [(x, u)]) ∧
        ∀ base : Heap, (K w.params).In base → base.Ns mainGlobals mg → FnOk l.prog w (K w.params) mg base (CX w) k fa fd [x] (sp w))
    (hsp : ∀ (w : World) (H : Hp) (a : Addr) (ns : List Int), ns.length ≤ n → Only H → SqL (K w.params) H a (ns.map V.int) → sp w [.ref a] H (fun v _ => v = .bl true) fun _ _ _ => False)
    (hCX : ∀ (w : World) (H : Hp) (s : Shared) (e : Value) (s' : Shared), CX w [] H s (fun _ _ _ => False) e s' → False) :
    PySem.W.WalkO q loose XP YP l.row.toRowW d [] (fun f vs => PySem.call f vs) := by
  refine Att.attach_call hn hdf fun w s₀ s₁ mg mb fa o pm cd doc a vs ns G Y ho hd hcd hmg hobj hints hlen hg => ?_
  have KX := hY w _ Y
  obtain ⟨fd, hb, hF⟩ := F w mg fa _ KX G.T.g hmg
  exact law_call KX G.T.g G.T.b G.T.builtins G.T.nolimit hg hobj hints (Nat.le_trans hlen hn2) hr hF hb (fun H hO hS => hsp w H a ns hlen hO hS) fun H e s' => hCX w H s₁ e s'
end L2

/- THE LAST THEOREM (shape; LID, My.* are yours):
   My.Adr: a structure of the addresses that your layer names (classes, functions); My.Txt K t: a structure (Prop) of the equations over K;
   My.txt_mk : {K} {implicit addresses ..} (e1 : nsIn K mainGlobals "law" = some (some (.ref f))) (e2 : K.lookup f = some ⟨oc, od, .func (fnOf "law" "law" params body scope dV kV doc pm an cdv ct), sl⟩) (e3 : codeIn K cdv "law" = true) .. : ∃ t, My.Txt K t

set_option maxRecDepth 100000 in set_option maxHeartbeats 0 in theorem PySem.Challenge.cw_LID_holds : PySem.Challenge.rw_LID.Holds := by
  w_on; o_law; k_head; (case hw => w_witness2)
  k_fill
  refine L2.walk_of (l := PySem.Challenge.rw_LID) (n := 63) (k := 40) (x := "script") (CX := fun w => ..) (sp := fun _ => My.sp_law) rfl (by decide) rfl ⟨rfl, by decide, by decide⟩ (fun w h Y => PySem.W.kIn_of Y) ?F ?S ?C
  case F =>
    intro w mg fa h KX G hmg
    have T : ∃ t, My.Txt (L2.KOf KX) t := by
      dsimp only [L2.KOf]                          -- K must stand as «<heap const> w.params» for k_is
      refine' My.txt_mk ?e1 ?e2 ?e3 ..
      (case e1 => PySem.W.k_is)                    -- in the order: a name -> its address -> its object -> its parts
      (case e2 => PySem.W.k_is)
      ..
    obtain ⟨t, T⟩ := T
    have e0 := hmg.symm.trans (PySem.W.mg_of KX G T.law)
    cases e0                                       -- fa is the law's own address
    exact ⟨_, fun s u => .of_eq rfl, fun base kb nb => My.law_fn T kb nb⟩     -- if «.of_eq rfl» comes too early: refine' ⟨_, ?b, fun base kb nb => My.law_fn T kb nb⟩; exact fun s u => .of_eq rfl
  case S => exact fun w H a ns hl hO hS => ..
  case C => exact ..
(the tactic k_is has no namespace: write k_is) -/

/-! SHORT WORDS over the layer: a def of the text, its body, what a loop and a test want. -/
namespace L2
open PySem PySem.Spec PyProof.Rows

/-! ### the text by places -/
def defArgs (s : Stmt) : Arguments := match s with
  | .FunctionDef _ a _ _ _ _ _ _ _ _ => a
  | _ => { posonlyargs := [], args := [], vararg := none, kwonlyargs := [], kw_defaults := [], kwarg := none, defaults := [] }
def defBody (s : Stmt) : List Stmt := match s with
  | .FunctionDef _ _ b _ _ _ _ _ _ _ => b
  | _ => []
def defScope (s : Stmt) : Scope := match s with
  | .FunctionDef _ _ _ _ _ _ sc _ _ _ => sc
  | _ => { kind := .function, names := [], isGenerator := false, isCoroutine := false }

/-! ### no exception leaves a def -/
abbrev CX0 : CXT := fun _ _ _ _ _ _ => False
abbrev E0 : XK := fun _ _ _ => False
theorem pass0 {X : Cx} : Passes CX0 X E0 := fun _ _ _ _ _ _ _ h => h.elim

/-! ### a def (or method) of the text as it stands behind the top -/
structure Fun (K : PySem.W.Frag) (x qual : Str) (st : Stmt) (f : Addr) (fd : FuncData) : Prop where
  ex : ∃ (oc : Value) (od : Option Addr) (kV doc pm : Value) (an : Option Addr) (cdv ct : Value) (osl : Array (Option Value)),
    fd = PySem.W.fnOf x qual (defArgs st) (defBody st) (defScope st) .none kV doc pm an cdv ct ∧ K.lookup f = some ⟨oc, od, .func fd, osl⟩ ∧ PySem.W.codeIn K cdv qual = true
  kp : PySem.W.keepIn K (.ref f) = true
section
variable {P : Program} {w : World} {K : PySem.W.Frag} {mg : Str → Option Value} {base : Heap}
/-- THE RULE for a def: its body as a term of rules, and the reading of that term -/
theorem Fun.ok {x qual : Str} {st : Stmt} {f : Addr} {fd : FuncData} {N ps : List Str} {k : Nat} {sp : Sp} (F : Fun K x qual st f fd) (S : FnScope N ps (defScope st)) (len : ∀ vs H Q E, sp vs H Q E → vs.length = ps.length)
    (hbody : ∀ (cdv : Value) (A : Around) (outer : List Env) (s : Shared) (H : Hp) (vs : List V) (Q : VK) (E : XK), Room k (A.deeper (envOfC qual (defScope st) s.heap.objs.size f cdv)) → sp vs H Q E →
      ∃ t, PSs (cxOf CX0 P w K mg base N qual (defScope st) f cdv A outer s H E).nox (defBody st) t ∧ t { nx := fun _ H' => Q .non H', rt := Q } (start N vs) H) : FnOk P w K mg base CX0 (k + 1) f fd ps sp := by
  obtain ⟨oc, od, kV, doc, pm, an, cdv, ct, osl, rfl, lk, hcd⟩ := F.ex
  refine fn_of lk hcd S len fun A outer s H vs Q E hr hsp => ?_
  obtain ⟨t, h, q⟩ := hbody cdv A outer s H vs Q E hr hsp
  exact ⟨t, h.nox, q⟩
/-- how its arguments bind (no defaults): h is «fun _ _ _ _ _ _ us hl => match us, hl with | [_, _], _ => rfl», one _ a parameter -/
theorem Fun.binds {x qual : Str} {st : Stmt} {f : Addr} {fd : FuncData} {ps : List Str} (F : Fun K x qual st f fd)
    (h : ∀ (kV doc pm : Value) (an : Option Addr) (cdv ct : Value) (us : List Value), us.length = ps.length → bindArgs (PySem.W.fnOf x qual (defArgs st) (defBody st) (defScope st) .none kV doc pm an cdv ct) ⟨us, []⟩ = pure (ps.zip us)) : Binds K fd ps [] := by
  obtain ⟨oc, od, kV, doc, pm, an, cdv, ct, osl, rfl, lk, hcd⟩ := F.ex
  exact .all (h kV doc pm an cdv ct)
theorem fun_mk {x qual : Str} {st : Stmt} {f : Addr} {oc : Value} {od an : Option Addr} {osl : Array (Option Value)} {kV doc pm cdv ct : Value} (l : K.lookup f = some ⟨oc, od, .func (PySem.W.fnOf x qual (defArgs st) (defBody st) (defScope st) .none kV doc pm an cdv ct), osl⟩)
    (c : PySem.W.codeIn K cdv qual = true) (k : PySem.W.keepIn K (.ref f) = true) : Fun K x qual st f (PySem.W.fnOf x qual (defArgs st) (defBody st) (defScope st) .none kV doc pm an cdv ct) := ⟨⟨oc, od, kV, doc, pm, an, cdv, ct, osl, rfl, l, c⟩, k⟩
end
/-! ### expressions in short: the name that stands in the i-th slot -/
section
variable {X : Cx}
theorem pv (i : Nat) {x : Str} {pos : Pos} (hN : X.N[i]? = some x := by rfl) (hv : Vis X.env.scope x := by first | exact Or.inl rfl | exact Or.inr (Or.inl rfl) | exact Or.inr (Or.inr rfl)) (hd : (x == ("__debug__" : Str)) = false := by decide)
    (hcd : (x == ("__classdict__" : Str)) = false := by decide) : PE X (.Name x pos) (tVar i) := pe_var hN hv hd hcd
end

/-! ### tests -/
theorem iteF {A B : Prop} (h : B) : if false = true then A else B := by
  rw [if_neg Bool.false_ne_true]
  exact h
theorem ite2 {c A B : Prop} [Decidable c] (h1 : c → A) (h2 : ¬ c → B) : if c then A else B := by
  by_cases h : c
  · rw [if_pos h]
    exact h1 h
  · rw [if_neg h]
    exact h2 h
/-! ### heaps -/
/-- all that was tracked is as it was -/
def Same (H H' : Hp) : Prop := ∀ b o, H b = some o → H' b = some o
theorem Same.refl (H : Hp) : Same H H := fun _ _ h => h
theorem Same.trans {H H1 H2 : Hp} (a : Same H H1) (b : Same H1 H2) : Same H H2 := fun c o h => b c o (a c o h)
theorem Same.free {H H' : Hp} (e : Same H H') {l : Addr} (h : H' l = Option.none) : H l = Option.none := by
  cases q : H l with
  | none => rfl
  | some o =>
    rw [e l o q] at h
    cases h
theorem Same.seq {K : PySem.W.Frag} {H H' : Hp} {a : Addr} {xs : List V} (e : Same H H') (h : SqL K H a xs) : SqL K H' a xs := by
  rcases h with (h | ⟨o, h⟩) | h
  · exact .inl (.inl (e _ _ h))
  · exact .inl (.inr ⟨o, e _ _ h⟩)
  · exact .inr h

end L2

set_option Elab.async false
set_option linter.all false
set_option maxRecDepth 100000
set_option maxHeartbeats 1000000
/-! A comprehension over the hand layer: its block's context, its rule. -/
namespace L2
open PySem PySem.Spec PyProof.Rows

/-- the cells that a comprehension's block takes over -/
def clOf (cells : List (Str × Addr)) (names : List (Str × NameKind)) (acc : List (Str × Addr)) : List (Str × Addr) :=
  match names with
  | [] => acc
  | (n, k) :: r => clOf cells r (if k == .free then (n, (cells.lookup n).getD 0) :: acc else acc)

theorem clOf_sub {cells : List (Str × Addr)} : ∀ {names : List (Str × NameKind)} {acc : List (Str × Addr)}, (∀ y ∈ names, y.2 = .free → ∃ c, cells.lookup y.1 = some c) → (∀ x c, acc.lookup x = some c → cells.lookup x = some c) →
    ∀ x c, (clOf cells names acc).lookup x = some c → cells.lookup x = some c
  | [], acc, _, h, x, c, e => h x c e
  | (n, k) :: r, acc, hf, h, x, c, e => by
    unfold clOf at e
    refine clOf_sub (fun y hy => hf y (List.mem_cons_of_mem _ hy)) ?_ x c e
    intro x' c' e'
    by_cases hk : k = .free
    · subst hk
      obtain ⟨d, hd⟩ := hf (n, .free) List.mem_cons_self rfl
      have hd' : cells.lookup n = some d := hd
      simp only [beq_self_eq_true, if_true, List.lookup_cons] at e'
      cases hx : x' == n with
      | true =>
        rw [hx] at e'
        have e2 : x' = n := by simpa using hx
        subst e2
        simp only [hd', Option.getD_some] at e'
        rw [hd']; exact e'
      | false =>
        rw [hx] at e'
        exact h x' c' e'
    · have hb : (k == NameKind.free) = false := by simpa using hk
      simp only [hb, Bool.false_eq_true, if_false] at e'
      exact h x' c' e'

theorem clOf_has {cells : List (Str × Addr)} : ∀ {names : List (Str × NameKind)} {acc : List (Str × Addr)} {x : Str}, ((∃ c, acc.lookup x = some c) ∨ (x, NameKind.free) ∈ names) → ∃ c, (clOf cells names acc).lookup x = some c
  | [], acc, x, h => by
    rcases h with h | h
    · exact h
    · cases h
  | (n, k) :: r, acc, x, h => by
    unfold clOf
    refine clOf_has ?_
    by_cases hk : k = .free
    · subst hk
      simp only [beq_self_eq_true, if_true, List.lookup_cons]
      cases hx : x == n with
      | true => exact .inl ⟨_, rfl⟩
      | false =>
        rcases h with h | h
        · exact .inl h
        · rcases List.mem_cons.mp h with h | h
          · cases h
            simp at hx
          · exact .inr h
    · have hb : (k == NameKind.free) = false := by simpa using hk
      simp only [hb, Bool.false_eq_true, if_false]
      rcases h with h | h
      · exact .inl h
      · rcases List.mem_cons.mp h with h | h
        · cases h
          exact absurd rfl hk
        · exact .inr h

theorem closure_forIn {env : Env} : ∀ {names : List (Str × NameKind)} {acc : List (Str × Addr)}, (∀ y ∈ names, y.2 = .free → ∃ c, env.cells.lookup y.1 = some c) →
    (forIn names acc fun (x : Str × NameKind) (r : List (Str × Addr)) => (if x.2 == .free then (do let a ← cellOf env x.1; pure (ForInStep.yield ((x.1, a) :: r))) else pure (ForInStep.yield r) : Sem (ForInStep (List (Str × Addr))))) = (pure (clOf env.cells names acc) : Sem (List (Str × Addr)))
  | [], acc, _ => rfl
  | (n, k) :: r, acc, hf => by
    rw [List.forIn_cons]
    have ih := fun acc' => closure_forIn (env := env) (names := r) (acc := acc') fun y hy => hf y (List.mem_cons_of_mem _ hy)
    by_cases hk : k = .free
    · subst hk
      obtain ⟨c, hc⟩ := hf (n, .free) List.mem_cons_self rfl
      have hc' : env.cells.lookup n = some c := hc
      simp only [beq_self_eq_true, if_true, cellOf, hc', pure_bind, clOf, Option.getD_some]
      exact ih _
    · have hb : (k == NameKind.free) = false := by simpa using hk
      simp only [hb, Bool.false_eq_true, if_false, pure_bind, clOf]
      exact ih _

theorem closure_of {scope : Scope} {env : Env} (h : ∀ y ∈ scope.names, y.2 = .free → ∃ c, env.cells.lookup y.1 = some c) : closureFor scope env = pure (clOf env.cells scope.names []) := by
  have q := closure_forIn (env := env) (acc := []) h
  unfold closureFor
  exact (congrArg (fun m : Sem (List (Str × Addr)) => m >>= fun cs => pure cs) q).trans (by simp)
end L2

set_option Elab.async false
set_option linter.all false
set_option maxRecDepth 100000
set_option maxHeartbeats 4000000
namespace L2
open PySem PySem.Spec PyProof.Rows

/-- the context of a comprehension's block: entered at s₀, H₀ behind the list's making; fp: the iterator's records -/
def cxComp (X : Cx) (N' : List Str) (scope : Scope) (fp : List Addr) (s₀ : Shared) (H₀ : Hp) : Cx :=
  { X with N := N', s₀ := s₀, H₀ := H₀, env := compEnvC scope (clOf X.env.cells scope.names []) s₀.heap.objs.size X.env, outer := X.stack, ex := fp, fn := fun _ => false, pn := [], xe := fun _ _ => False }

/-- the written facts of a comprehension's scope -/
structure CompScope (X : Cx) (N' : List Str) (scope : Scope) : Prop where
  kind : scope.kind = .function
  nd : N'.Nodup
  nocell : ∀ y ∈ scope.names, y.2 ≠ .cell
  loc : ∀ y ∈ scope.names, y.2 = .local → scope.names.lookup y.1 = some .local
  fre : ∀ y ∈ scope.names, y.2 = .free → X.env.kindOf y.1 = some .cell
  own : ∀ x, (x, NameKind.free) ∈ scope.names → (relabel scope X.env).names.lookup x ≠ some .local

theorem relabel_back {scope : Scope} {env : Env} {x : Str} (hc : ∀ y ∈ scope.names, y.2 ≠ .cell) (h : (relabel scope env).names.lookup x = some .cell ∨ (relabel scope env).names.lookup x = some .free) : (x, NameKind.free) ∈ scope.names := by
  have key : ∀ (l : List (Str × NameKind)), (∀ y ∈ l, y.2 ≠ .cell) → ∀ k, (k = .cell ∨ k = .free) →
      (l.map fun (n, k) => if (k == NameKind.free && env.scope.kind == .function && env.kindOf n == some .cell) then (n, NameKind.cell) else (n, k)).lookup x = some k → (x, NameKind.free) ∈ l := by
    intro l
    induction l with
    | nil => intro _ k _ e; cases e
    | cons y r ih =>
      obtain ⟨n, kk⟩ := y
      intro hc k hk e
      have hr : ∀ y ∈ r, y.2 ≠ .cell := fun y hy => hc y (List.mem_cons_of_mem _ hy)
      have hkk : kk ≠ .cell := hc (n, kk) List.mem_cons_self
      rw [List.map_cons] at e
      by_cases hq : (kk == NameKind.free && env.scope.kind == .function && env.kindOf n == some .cell) = true
      · simp only [hq, if_true, List.lookup_cons] at e
        have hf : kk = .free := by
          have := (Bool.and_eq_true _ _ ▸ (Bool.and_eq_true _ _ ▸ hq).1).1
          simpa using this
        cases hx : x == n with
        | true =>
          have : x = n := by simpa using hx
          subst this; subst hf
          exact List.mem_cons_self
        | false =>
          rw [hx] at e
          exact List.mem_cons_of_mem _ (ih hr k hk e)
      · have hq' : (kk == NameKind.free && env.scope.kind == .function && env.kindOf n == some .cell) = false := by simpa using hq
        simp only [hq', Bool.false_eq_true, if_false] at e
        rw [List.lookup_cons] at e
        cases hx : x == n with
        | true =>
          have hx' : x = n := by simpa using hx
          subst hx'
          rw [hx] at e
          have e' : kk = k := by simpa using e
          rcases hk with hk | hk
          · exact absurd (e'.trans hk) hkk
          · rw [e', hk]; exact List.mem_cons_self
        | false =>
          have e2 : (r.map fun (n, k) => if (k == NameKind.free && env.scope.kind == .function && env.kindOf n == some .cell) then (n, NameKind.cell) else (n, k)).lookup x = some k := by
            rw [hx] at e
            exact e
          exact List.mem_cons_of_mem _ (ih hr k hk e2)
  rcases h with h | h
  · exact key _ hc _ (.inl rfl) h
  · exact key _ hc _ (.inr rfl) h

section
variable {X : Cx} {pins : List (Addr × Obj)} {σ : St} {H : Hp} {s : Shared} {N' : List Str} {scope : Scope} {fp : List Addr}

/-- what is to hold of the slots at the entry: each one that has a value is a captured name of the def around, with its value there -/
def Caught (X : Cx) (N' : List Str) (scope : Scope) (σ σ' : St) : Prop :=
  σ'.length = N'.length ∧ ∀ (i : Nat) (x : Str) (v : V), N'[i]? = some x → σ'[i]? = some (some v) → (x, NameKind.free) ∈ scope.names ∧ ∃ (j : Nat), X.N[j]? = some x ∧ σ[j]? = some (some v)

theorem comp_ok (S : CompScope X N' scope) (I : Inv X pins σ H s) (hf : ∀ b ∈ fp, FpOk X pins H b) (hlt : ∀ b ∈ fp, b < s.heap.objs.size) : (cxComp X N' scope fp s H).Ok := by
  have hfree : ∀ y ∈ scope.names, y.2 = .free → ∃ c, X.env.cells.lookup y.1 = some c := fun y hy hk => I.ok.has y.1 (.inl (S.fre y hy hk))
  have sub := clOf_sub (cells := X.env.cells) (names := scope.names) (acc := []) hfree (fun x c e => by cases e)
  refine ⟨I.ok.mod, S.kind, I.ok.glob, I.ok.blt, Nat.le_refl _, fun x y c e1 e2 => I.ok.inj x y c (sub x c e1) (sub y c e2), fun x hx => ?_, fun x c hz => ?_, I.ok.hd, I.ok.frames, .inl rfl, fun b hb => ?_, I.bs, Nat.le_trans I.ok.bsz I.sz, fun b o e hb => ?_, fun b hb hs => ?_, I.stack, I.stkFree⟩
  · exact clOf_has (.inr (relabel_back S.nocell hx))
  · exact absurd (show false = true from hz) Bool.false_ne_true
  · obtain ⟨_, hL, _, _, hc, _⟩ := hf b hb
    refine ⟨fun e => ?_, fun x c e => hc x c (sub x c e)⟩
    have e' : b = s.heap.objs.size := e
    exact absurd (hlt b hb) (by rw [e']; exact Nat.lt_irrefl _)
  · obtain ⟨_, _, _, h2, _⟩ := hf b hb
    rcases h2 with h2 | h2
    · exact I.ok.noex b o e h2
    · exact absurd (Nat.lt_of_lt_of_le (Heap.lt_size e) (Nat.le_trans I.ok.bsz h2)) (Nat.lt_irrefl _)
  · obtain ⟨_, hL, hfs, _⟩ := hf b hb
    rcases List.mem_cons.mp (I.stkSub b hs) with z | z
    · exact hL z
    · exact hfs z
/-- the block is entered: its names are new, the captured ones stand in their cells -/
theorem comp_inv (S : CompScope X N' scope) (I : Inv X pins σ H s) (hf : ∀ b ∈ fp, FpOk X pins H b) (hlt : ∀ b ∈ fp, b < s.heap.objs.size) {σ' : St} (hc : Caught X N' scope σ σ') {h1 : Heap} {tk : Nat}
    (hn : h1.Ns s.heap.objs.size (fun _ => none)) (hk : ∀ b o, s.heap.get? b = some o → h1.get? b = some o) : Inv (cxComp X N' scope fp s H) [] σ' H { s with heap := h1, toks := tk } := by
  have hfree : ∀ y ∈ scope.names, y.2 = .free → ∃ c, X.env.cells.lookup y.1 = some c := fun y hy hk => I.ok.has y.1 (.inl (S.fre y hy hk))
  have sub := clOf_sub (cells := X.env.cells) (names := scope.names) (acc := []) hfree (fun x c e => by cases e)
  refine ⟨comp_ok S I hf hlt, rfl, I.bare, Un.kept hk, ⟨_, hn, fun i x v e1 e2 e3 => ?_⟩, fun x c e => ?_, I.fresh, fun x c e => I.freeC x c (sub x c e), fun p hp => absurd (show p ∈ ([] : List (Addr × Obj)) from hp) (by simp), I.hok.kept hk, hc.1⟩
  · obtain ⟨hx, j, j1, j2⟩ := hc.2 i x v e1 e2
    obtain ⟨m, _, hl⟩ := I.loc
    have hkc : X.env.kindOf x = some .cell := S.fre (x, .free) hx rfl
    obtain ⟨u, r, l⟩ := hl j x v j1 j2 (.inr (.inl hkc))
    refine ⟨u, r, .inr ?_⟩
    rcases l with ⟨k, _⟩ | ⟨_, c, ec, z⟩
    · rw [hkc] at k; cases k
    · obtain ⟨c', ec'⟩ := clOf_has (cells := X.env.cells) (names := scope.names) (acc := []) (x := x) (.inr hx)
      have ec2 := sub x c' ec'
      rw [ec] at ec2
      cases ec2
      refine ⟨?_, c, ec', z.keeps hk⟩
      have e3' : Vis (relabel scope X.env) x := e3
      rcases e3' with q | q | q
      · exfalso
        exact S.own x hx q
      · exact .inl q
      · exact .inr q
  · obtain ⟨v, z⟩ := I.cell x c (sub x c e)
    exact ⟨v, z.keeps hk⟩
end
end L2

set_option Elab.async false
set_option linter.all false
set_option maxRecDepth 100000
set_option maxHeartbeats 4000000
namespace L2
open PySem PySem.Spec PyProof.Rows

/-- the tests of a comprehension -/
def PIfs (X : Cx) (ifs : List Expr) (t : TT) : Prop :=
  ∀ (pins : List (Addr × Obj)) (s : Shared) (σ : St) (H : Hp) (Q : Bool → Hp → Prop), Inv X pins σ H s → t σ H Q →
    wpAny (model X.prog X.w) X.A (forIn ifs true fun c r => if r = true then (do let ok ← isTrue c X.env (eval c X.env); pure (ForInStep.yield ok)) else pure (ForInStep.yield r)) (TP X pins σ Q) X.xe s
theorem pifs_nil {X : Cx} : PIfs X [] (fun _ H Q => Q true H) := by
  intro pins s σ H Q I h
  rw [List.forIn_nil]
  exact wpAny_pure ⟨H, I, h⟩
theorem pifs_one {X : Cx} {c : Expr} {t : TT} (h : PT X c t) : PIfs X [c] t := by
  intro pins s σ H Q I hq
  rw [List.forIn_cons]
  refine wpAny_bind ?_
  rw [if_pos rfl]
  refine wpAny_bind (thn (h pins s σ H Q I hq) fun b s1 q => wpAny_pure ?_)
  dsimp only
  rw [List.forIn_nil]
  exact wpAny_pure q

/-- a comprehension: W is what holds between two turns (the turn's number, a measure, the block's names, the list so far, the heap) -/
def tComp (wi : TI) (g : TG) (tc : TT) (te : TE) (σc : St → St) : TE := fun σ H Q => wi σ H fun J H1 => ∀ acc, H1 acc = none →
  ∃ W : Nat → Nat → St → List V → Hp → Prop, (∃ m, W 0 m (σc σ) [] (upd H1 acc (.lst []))) ∧ ∀ i m σ2 ys H2, W i m σ2 ys H2 → H2 acc = some (.lst ys) ∧
    ((J.stop i H2 ∧ Q (.ref acc) H2) ∨ (J.go i H2 ∧ ys.length < sizeLine ∧ ∀ x H3, J.yld i H2 x H3 → g x σ2 H3 fun σ4 H4 => tc σ4 H4 fun b H5 =>
      if b = true then te σ4 H5 fun y H6 => H6 acc = some (.lst ys) ∧ ∃ m', m' < m ∧ W (i + 1) m' σ4 (ys ++ [y]) (upd H6 acc (.lst (ys ++ [y]))) else ∃ m', m' < m ∧ W (i + 1) m' σ4 ys H5))

theorem turn_of_list {prog : Program} {w : World} {A : Around} {R : Result → Shared → Prop} {s : Shared} {elt target iter : Expr} {ifs : List Expr} {scope : Scope} {pos : Pos} {it acc : Value} {env : Env} (I : Nat → Shared → Prop)
    (turn : ∀ n s, I n s → wpAny (model prog w) A (pyNext it) (fun r s₁ => (r = none ∧ R (.ok .next) s₁) ∨ ∃ v, r = some v ∧
        wpAny (model prog w) A (letOwnedTupleGo target it v) (fun _ s₂ => wpAny (model prog w) A (assign target env v) (fun _ s₃ =>
          wpAny (model prog w) A (forIn ifs true fun c r => if r = true then (do let ok ← isTrue c env (eval c env); pure (ForInStep.yield ok)) else pure (ForInStep.yield r)) (fun ok s₄ =>
            if ok = true then wpAny (model prog w) A (eval elt env) (fun x s₅ => wpAny (model prog w) A (call (.builtin "list.append") [acc, x]) (fun _ s₆ => ∃ m, m < n ∧ I m s₆) (fun _ _ => False) s₅) (fun _ _ => False) s₄
            else ∃ m, m < n ∧ I m s₄) (fun _ _ => False) s₃) (fun _ _ => False) s₂) (fun _ _ => False) s₁) (fun _ _ => False) s)
    (n : Nat) (h : I n s) : codeAny (model prog w) A (.compLoop (.ListComp elt [⟨target, iter, ifs, 0⟩] scope pos) 0 it acc env) R s := by
  have no : ∀ {α : Type} {t : Sem α} {Q : α → Shared → Prop} {E : Value → Shared → Prop} {s : Shared}, wpAny (model prog w) A t Q (fun _ _ => False) s → wpAny (model prog w) A t Q E s := fun h => wpAny_mono h (fun _ _ q => q) fun _ _ f => f.elim
  refine codeAny_loop rfl I (fun n s hI => ?_) n h
  show wpAny _ A ((compTurn (.ListComp elt [⟨target, iter, ifs, 0⟩] scope pos) 0 it acc env).onRaise (fun x => do noteFrame x env; theTreesLotGoes x)) _ _ s
  refine wpAny_noted ?_
  rw [compTurn_list]
  refine wpAny_bind (wpAny_standAt (wpAny_bind (no (thn (turn n s hI) fun r s₁ h₁ => ?_))))
  rcases h₁ with ⟨rfl, h₁⟩ | ⟨v, rfl, h₁⟩
  · exact wpAny_pure h₁
  · refine wpAny_bind (no (thn h₁ fun _ s₂ h₂ => wpAny_bind (no (thn h₂ fun _ s₃ h₃ => wpAny_bind (no (thn h₃ fun ok s₄ h₄ => ?_))))))
    cases ok with
    | false => exact wpAny_pure ⟨rfl, h₄⟩
    | true => exact wpAny_bind (wpAny_bind (no (thn h₄ fun x s₅ h₅ => wpAny_bind (no (thn h₅ fun _ s₆ h₆ => wpAny_pure (wpAny_pure ⟨rfl, h₆⟩))))))

theorem hok_but {P : Program} {w : World} {H : Hp} {h h' : Heap} {C : Addr} (ok : HOk P w H h) (hC : H C = none) (hs : Heap.SameBut C h h') : HOk P w H h' := fun b o e =>
  (ok b o e).stay (fun c u hc q => (hs.2 c (by
    rintro rfl
    rcases hc with rfl | hc
    · rw [hC] at e; cases e
    · rw [hC] at hc; cases hc)).trans q) (fun _ q => q) fun _ _ q => q

theorem pe_comp {X : Cx} {tg iter elt : Expr} {ifs : List Expr} {scope : Scope} {pos : Pos} {N' : List Str} {wi : TI} {g : TG} {tc : TT} {te : TE} {σc : St → St}
    (S : CompScope X N' scope) (hcalm : X.calm = true) (hσ : ∀ σ : St, σ.length = X.N.length → Caught X N' scope σ (σc σ)) (hi : PI X tg iter wi)
    (hg : ∀ fp s₀ H₀, PG (cxComp X N' scope fp s₀ H₀) tg g) (hc : ∀ fp s₀ H₀, PIfs (cxComp X N' scope fp s₀ H₀) ifs tc) (he : ∀ fp s₀ H₀, PE (cxComp X N' scope fp s₀ H₀) elt te)
    (hs : ∀ x, foldedSetIterable iter X.env x = pure x := by intro _; rfl) : PE X (.ListComp elt [⟨tg, iter, ifs, 0⟩] scope pos) (tComp wi g tc te σc) := by
  intro pins s σ H Q I h
  have hfree : ∀ y ∈ scope.names, y.2 = .free → ∃ c, X.env.cells.lookup y.1 = some c := fun y hy hk => I.ok.has y.1 (.inl (S.fre y hy hk))
  have sub := clOf_sub (cells := X.env.cells) (names := scope.names) (acc := []) hfree (fun x c e => by cases e)
  rw [eval_ListComp]
  refine wpAny_comprehension_free (use := none) rfl hs (closure_of hfree) S.kind S.loc (thn (hi pins s σ H _ I h) fun v s1 h1 => thn h1 fun itv s2 h2 => ?_)
  obtain ⟨it, fp, tn, J, H2, rfl, I2, T, st2, f2, h2⟩ := h2
  obtain ⟨W, ⟨m0, w0⟩, turn⟩ := h2 s2.heap.objs.size I2.fresh
  have lt2 : ∀ b ∈ fp, b < s2.heap.objs.size := fun b hb => by
    obtain ⟨o, ho, _⟩ := T.obj _ _ st2 b hb
    exact Heap.lt_size ho
  refine wpAny_newObj_type (wpAny_newFunctionEnv S.nocell (by intro y hy; simp at hy) (fun h₁ hns₁ hsb₁ => ?_) S.kind)
  dsimp only at hns₁ hsb₁ ⊢
  -- the state behind the list's making: the block's entry
  have I3 : Inv X pins σ (upd H2 s2.heap.objs.size (.lst [])) { s2 with heap := s2.heap.push { cls := .type "list", data := .seq ([] : List Value).toArray } } := I2.lnew (t' := s2.toks) (ys := []) .nil (Nat.zero_le _)
  generalize hs3 : ({ s2 with heap := s2.heap.push { cls := .type "list", data := .seq ([] : List Value).toArray } } : Shared) = s3 at I3
  have e3 : s2.heap.push { cls := .type "list", data := .seq ([] : List Value).toArray } = s3.heap := by rw [← hs3]
  have sz3 : s3.heap.objs.size = s2.heap.objs.size + 1 := by rw [← e3, Heap.size_push]
  have up23 : ∀ b o, s2.heap.get? b = some o → s3.heap.get? b = some o := fun b o e => by rw [← e3]; exact Heap.get?_push_of_some _ e
  have f3 : ∀ b ∈ fp, FpOk X pins (upd H2 s2.heap.objs.size (.lst [])) b := fun b hb => by
    obtain ⟨q1, q2⟩ := f2 b hb
    exact ⟨by rw [upd_ne (Nat.ne_of_lt (lt2 b hb))]; exact q1, q2⟩
  have lt3 : ∀ b ∈ fp, b < s3.heap.objs.size := fun b hb => by rw [sz3]; exact Nat.lt_succ_of_lt (lt2 b hb)
  rw [e3] at hns₁ hsb₁ ⊢
  have up1 : ∀ b o, s3.heap.get? b = some o → h₁.get? b = some o := fun b o e => hsb₁.extBut b o (Nat.ne_of_lt (Heap.lt_size e)) (Heap.get?_push_of_some _ e)
  have hns0 : h₁.Ns s3.heap.objs.size (fun _ => none) := by
    have q := hns₁
    simpa using q
  have I4 : Inv (cxComp X N' scope fp s3 (upd H2 s2.heap.objs.size (.lst []))) [] (σc σ) (upd H2 s2.heap.objs.size (.lst [])) { s3 with heap := h₁, toks := s2.toks } := comp_inv S I3 f3 lt3 (hσ σ I.len) hns0 up1
  have st4 : tn 0 h₁ := T.keep _ _ _ st2 fun b hb o e => up1 b o (up23 b o e)
  generalize hX : cxComp X N' scope fp s3 (upd H2 s2.heap.objs.size (.lst [])) = X' at I4
  have xP : X'.prog = X.prog := by rw [← hX]; rfl
  have xw : X'.w = X.w := by rw [← hX]; rfl
  have xK : X'.K = X.K := by rw [← hX]; rfl
  have xA : X'.A = X.A := by rw [← hX]; rfl
  have xc : X'.calm = true := by rw [← hX]; exact hcalm
  have xx : X'.xe = fun _ _ => False := by rw [← hX]; rfl
  have xe : X'.env = compEnvC scope (clOf X.env.cells scope.names []) s3.heap.objs.size X.env := by rw [← hX]; rfl
  have hg' : PG X' tg g := by rw [← hX]; exact hg _ _ _
  have hc' : PIfs X' ifs tc := by rw [← hX]; exact hc _ _ _
  have he' : PE X' elt te := by rw [← hX]; exact he _ _ _
  have ex0 : X'.ex = fp := by rw [← hX]; rfl
  have fs0 : X'.fs = frs X.stack := by rw [← hX]; rfl
  have pn0 : X'.pn = [] := by rw [← hX]; rfl
  have s00 : X'.s₀ = s3 := by rw [← hX]; rfl
  have H00 : X'.H₀ = upd H2 s2.heap.objs.size (.lst []) := by rw [← hX]; rfl
  have ok4 := I4.ok
  have stat : ∀ {H' : Hp}, (∀ b ∈ fp, H' b = none) → ∀ b ∈ fp, FpOk X' [] H' b := fun {H'} hn b hb => by
    obtain ⟨_, q1, q2, q3, q4, q5⟩ := f3 b hb
    refine ⟨hn b hb, (ok4.exf b (by rw [ex0]; exact hb)).1, ok4.exfs b (by rw [ex0]; exact hb), .inl (by rw [ex0]; exact hb), (ok4.exf b (by rw [ex0]; exact hb)).2, fun p hp => ?_⟩
    rw [pn0] at hp
    exact absurd (show p ∈ ([] : List (Addr × Obj)) from hp) (by simp)
  -- behind the block
  have fin : ∀ (s' : Shared) (σ' : St) (H' : Hp), Inv X' [] σ' H' s' → Q (.ref s2.heap.objs.size) H' → compPost (model X.prog X.w) X.A X.xe none (EP X pins σ Q) (.ref s2.heap.objs.size) s3.heap.objs.size (.ok .next) s' := fun s' σ' H' I' q => by
    have hC : X'.env.locals = s3.heap.objs.size := by rw [xe]; rfl
    obtain ⟨m, hm, _⟩ := id I'.loc
    rw [hC] at hm
    refine ⟨m, hm, fun h' hs' => ⟨.ref s2.heap.objs.size, H', ?_, rfl, q⟩⟩
    have un := I'.base
    rw [fs0, ex0, s00, H00] at un
    have neC : ∀ b o, s3.heap.get? b = some o → b ≠ s3.heap.objs.size := fun b o e => Nat.ne_of_lt (Heap.lt_size e)
    have un' : Un (frs X.stack) fp (upd H2 s2.heap.objs.size (.lst [])) H' s3.heap h' :=
      ⟨fun b o e n hb hx => (hs'.2 b (neC b o e)).trans (un.keep b o e n hb hx), fun b o e n hb hx => let ⟨sl, z⟩ := un.slot b o e n hb hx; ⟨sl, (hs'.2 b (neC b o e)).trans z⟩, un.free,
        fun b o e hx => let ⟨o', z⟩ := un.there b o e hx; ⟨o', (hs'.2 b (neC b o e)).trans z⟩, un.tups, un.frzs, un.tbls⟩
    have hfr : H' s3.heap.objs.size = none := by rw [← hC]; exact I'.free
    have hok' : HOk X.prog X.w H' s'.heap := by rw [← xP, ← xw]; exact I'.hok
    refine I3.call' (s' := { s' with heap := h' }) (ch := fp) ?_ un' (hok_but hok' hfr hs') I'.bare fun b hb => ?_
    · have z := I'.os
      rw [s00] at z
      exact z
    · obtain ⟨_, q1, q2, q3, q4, q5⟩ := f3 b hb
      exact ⟨q3, q1, q4, q5⟩
  have loop : codeAny (model X.prog X.w) X.A (.compLoop (.ListComp elt [⟨tg, iter, ifs, 0⟩] scope pos) 0 (.ref it) (.ref s2.heap.objs.size) (compEnvC scope (clOf X.env.cells scope.names []) s3.heap.objs.size X.env))
      (compPost (model X.prog X.w) X.A X.xe none (EP X pins σ Q) (.ref s2.heap.objs.size) s3.heap.objs.size) { s3 with heap := h₁, toks := s2.toks } := by
    refine turn_of_list (fun n s' => ∃ i σ' ys H', Inv X' [] σ' H' s' ∧ tn i s'.heap ∧ (∀ b ∈ fp, H' b = none) ∧ W i n σ' ys H') ?_ m0 ⟨0, _, [], _, I4, st4, fun b hb => (f3 b hb).1, w0⟩
    rintro n s5 ⟨i, σ5, ys, H5, I5, st5, fr5, w5⟩
    obtain ⟨hacc, hh⟩ := turn i n σ5 ys H5 w5
    rcases hh with ⟨stop, q⟩ | ⟨go, hsz, step⟩
    · have d := T.done X' xP xw xK xc i [] s5 σ5 H5 (fun _ _ => False) I5 (stat fr5) st5 stop
      rw [xA] at d
      exact thn d fun r s6 ⟨hr, I6⟩ => .inl ⟨hr, fin s6 σ5 H5 I6 q⟩
    · have d := T.item X' xP xw xK xc i [] s5 σ5 H5 (fun _ _ => False) I5 (stat fr5) st5 go
      rw [xA] at d
      refine thn d fun r s6 ⟨u, hr, h6⟩ => .inr ⟨u, hr, thn h6 fun _ s7 ⟨x, H7, I7, r7, y7, st7, fr7⟩ => ?_⟩
      have I7' := I7.pinned (stat fr7) (T.obj _ _ st7)
      have a1 := hg' _ s7 σ5 H7 x u _ I7' r7 (step x H7 y7)
      rw [xP, xw, xA, xe, xx] at a1
      refine thn a1 fun _ s8 ⟨σ8, H8, I8, q8⟩ => ?_
      have a2 := hc' _ s8 σ8 H8 _ I8 q8
      rw [xP, xw, xA, xe, xx] at a2
      refine thn a2 fun ok s9 ⟨H9, I9, q9⟩ => ?_
      have back : ∀ {σz : St} {Hz : Hp} {sz : Shared}, Inv X' ([] ++ pinsAt fp s7.heap) σz Hz sz → tn (i + 1) sz.heap ∧ ∀ b ∈ fp, Hz b = none := fun {σz Hz sz} Iz => by
        refine ⟨T.keep _ _ _ st7 fun b hb o e => (Iz.pin (b, o) (List.mem_append_right _ (List.mem_append_right _ (mem_pinsAt hb e)))).1, fun b hb => ?_⟩
        obtain ⟨o, e, _⟩ := T.obj _ _ st7 b hb
        exact (Iz.pin (b, o) (List.mem_append_right _ (List.mem_append_right _ (mem_pinsAt hb e)))).2.1
      cases ok with
      | false =>
        obtain ⟨m', hm, w'⟩ := q9
        rw [if_neg Bool.false_ne_true]
        exact ⟨m', hm, i + 1, σ8, ys, H9, I9.unpinned, (back I9).1, (back I9).2, w'⟩
      | true =>
        rw [if_pos rfl] at q9 ⊢
        have a3 := he' _ s9 σ8 H9 _ I9 q9
        rw [xP, xw, xA, xe, xx] at a3
        refine thn a3 fun y sa ⟨yv, Ha, Ia, ra, hacc', m', hm, w'⟩ => ?_
        have a4 := mt_append (X := X') _ sa σ8 Ha (.ref s2.heap.objs.size) [yv] (.ref s2.heap.objs.size) [y] (fun v H' => H' = upd Ha s2.heap.objs.size (.lst (ys ++ [yv]))) Ia rfl (.cons ra .nil) ⟨_, ys, yv, rfl, rfl, hacc', hsz, rfl⟩
        rw [xP, xw, xA, xx] at a4
        refine thn a4 fun _ sb ⟨_, Hb, Ib, _, eb⟩ => ?_
        subst eb
        exact ⟨m', hm, i + 1, σ8, ys ++ [yv], _, Ib.unpinned, (back Ib).1, (back Ib).2, w'⟩
  have es : ({ s2 with heap := h₁, toks := s2.toks + ([] : List (Str × Value)).length } : Shared) = { s3 with heap := h₁, toks := s2.toks } := by rw [← hs3]; rfl
  refine codeAny_compStart_list ?_ ?_
  · exact es ▸ loop
  · exact T.self _ 0 _ _ _ st4 (es ▸ loop)
end L2

set_option Elab.async false
set_option linter.all false
set_option maxRecDepth 100000
set_option maxHeartbeats 4000000
/-! zip of two tuples over the hand layer. -/
namespace L2
open PySem PySem.Spec PyProof.Rows

section
variable {P : Program} {w : World} {A : Around} {E : Value → Shared → Prop} {s : Shared}

/-- the zip's own records -/
structure ZAp (z a b c d : Addr) : Prop where
  az : a ≠ z
  bz : b ≠ z
  cz : c ≠ z
  dz : d ≠ z
  ab : a ≠ b
  ac : a ≠ c
  ad : a ≠ d
  bc : b ≠ c
  bd : b ≠ d
  cd : c ≠ d

/-- z: the zip; a: its two iterators c, d (of the tuples t1, t2); b: the tuple that it keeps -/
structure ZAt (h : Heap) (z a b c d t1 t2 : Addr) (k : Nat) (f0 : Value) : Prop where
  zip : IsZip h z a b f0
  its : IsPair h a (.ref c) (.ref d)
  own : ∃ x y, IsPair h b x y
  i1 : h.IsTupleIter c t1 k
  i2 : h.IsTupleIter d t2 k

end
end L2

set_option Elab.async false
set_option linter.all false
set_option maxRecDepth 100000
set_option maxHeartbeats 4000000
namespace L2
open PySem PySem.Spec PyProof.Rows

end L2

set_option Elab.async false
set_option linter.all false
set_option maxRecDepth 100000
set_option maxHeartbeats 4000000
/-! Rules of our own over the hand layer: texts' signs walked, isinstance, all, slices, sums of tuples, tables of the module. -/
namespace L2
open PySem PySem.Spec PyProof.Rows

/-! ### the signs of a text -/
def Its (x : Str) : It := ⟨fun i _ => i < x.cps.size, fun i H v H' => H' = H ∧ ∃ c, x.cps[i]? = some c ∧ v = .str ⟨#[c]⟩, fun i _ => i = x.cps.size⟩
theorem turn_signs {P : Program} {w : World} {K : PySem.W.Frag} {y : Str} {py : Pos} {it : Addr} {T : String} {x : Str} {t : Tok}
    (W : ∀ A' : Around, A'.handled = none → Walks P w A' it [it] [it] x.cps.size (SignAt x) (fun i h => h.IsStrIter it T x t i)) (hs : ∀ (A : Around) (i : Nat) (s : Shared) (Q : Value → Shared → Prop) (E : Value → Shared → Prop), s.heap.IsStrIter it T x t i → Q (.ref it) s → wpAny (model P w) A (pyIter (.ref it)) Q E s) :
    Turn P w K (.Name y py) (Its x) [it] it (fun i h => h.IsStrIter it T x t i) where
  mem := by simp
  obj := fun i h st b hb => by
    have e : b = it := by simpa using hb
    subst e
    obtain ⟨o, e, c, d⟩ := st
    exact ⟨o, e, fun v z => by rw [d] at z; cases z⟩
  keep := fun i h h' st k => by
    obtain ⟨o, e, r⟩ := st
    exact ⟨o, k it (by simp) o e, r⟩
  item := by
    intro X hP hw hK hc i pins s σ H E I hf st hg
    subst hP hw hK
    obtain ⟨f0, f1, f2, f3, f4, f5⟩ := hf it (by simp)
    refine (W X.A (I.ok.hd hc)).item i s _ E hg st fun v h' tk hv st' kp => ?_
    obtain ⟨c, u, hc', rfl⟩ := hv
    have I1 : Inv X pins σ H { s with heap := h', toks := tk } := I.turned (t' := tk) (fun b o hb e => kp b o (by simpa using hb) e) f0 f1 f3 f4 f5
    exact ⟨_, rfl, wpAny_pure ⟨.str ⟨#[c]⟩, H, I1, ⟨u, rfl⟩, ⟨rfl, c, hc', rfl⟩, st', fun b hb => (hf b hb).1⟩⟩
  done := by
    intro X hP hw hK hc i pins s σ H E I hf st hg
    subst hP hw hK
    obtain ⟨f0, f1, f2, f3, f4, f5⟩ := hf it (by simp)
    have e : i = x.cps.size := hg
    subst e
    exact (W X.A (I.ok.hd hc)).done s _ E st fun h' tk kp => ⟨rfl, I.turned (t' := tk) (fun b o hb e => kp b o (by simpa using hb) e) f0 f1 f3 f4 f5⟩
  self := hs
def iStr (tl : TE) : TI := fun σ H R => tl σ H fun x H1 => ∃ z, x = .str z ∧ R (Its z) H1
theorem pi_str {X : Cx} {y : Str} {py : Pos} {l : Expr} {tl : TE} (hl : PE X l tl) : PI X (.Name y py) l (iStr tl) := by
  intro pins s σ H R I h
  refine thn (hl pins s σ H _ I h) fun v s1 ⟨x, H1, I1, r1, q1⟩ => ?_
  obtain ⟨z, rfl, q⟩ := q1
  obtain ⟨t, rfl⟩ := r1
  have fp : ∀ b ∈ [s1.heap.objs.size], FpOk X pins H1 b := fun b hb => by
    have e : b = s1.heap.objs.size := by simpa using hb
    subst e
    exact I1.fpOk (Nat.le_refl _) I1.fresh
  cases ha : z.cps.all (· < 128)
  · refine wpAny_pyIter_wide ha ?_
    exact ⟨_, _, _, _, H1, rfl, I1.kept (t' := s1.toks) fun b o e => Heap.get?_push_of_some _ e, turn_signs (t := t) (fun A' hA => Walks.strWide hA _ z t) (fun A i s Q E st hq => wpAny_pyIter_striter_wide st hq), ⟨_, Heap.get?_push_size _ rfl, rfl, rfl⟩, fp, q⟩
  · refine wpAny_pyIter_ascii ha ?_
    exact ⟨_, _, _, _, H1, rfl, I1.kept (t' := s1.toks) fun b o e => Heap.get?_push_of_some _ e, turn_signs (t := t) (fun A' hA => Walks.strAscii hA _ z t) (fun A i s Q E st hq => wpAny_pyIter_striter_ascii st hq), ⟨_, Heap.get?_push_size _ rfl, rfl, rfl⟩, fp, q⟩

/-! ### isinstance -/
/-- the kind of a value, by its name -/
def tyN (H : Hp) : V → Option String
  | .non => some "NoneType"
  | .bl _ => some "bool"
  | .int _ => some "int"
  | .str _ => some "str"
  | .ref a => match H a with
    | some (.lst _) => some "list"
    | some (.tup _) => some "tuple"
    | some (.dK _) => some "dict"
    | _ => none
  | _ => none
def isiB (t c : String) : Bool := t == c || (t == "bool" && c == "int")
theorem tyOf_of {K : PySem.W.Frag} {H : Hp} {x : V} {t : String} (h : tyN H x = some t) : TyOf K H x (.type t) := by
  cases x with
  | non => cases h; exact .non
  | bl b => cases h; exact .bl b
  | int i => cases h; exact .int i
  | str z => cases h; exact .str z
  | ref a =>
    unfold tyN at h
    dsimp only at h
    split at h
    · rename_i e; cases h; exact .lst e
    · rename_i e; cases h; exact .tup e
    · rename_i e; cases h; exact .dK e
    · cases h
  | byt _ => cases h
  | flt _ => cases h
  | ty _ => cases h
theorem tyN_mem {H : Hp} {x : V} {t : String} (h : tyN H x = some t) : t ∈ ["NoneType", "bool", "int", "str", "list", "tuple", "dict"] := by
  cases x with
  | ref a =>
    unfold tyN at h
    dsimp only at h
    split at h <;> first | (cases h; simp) | cases h
  | _ => first | (cases h; simp) | cases h
theorem kit_of {K : PySem.W.Frag} {t c : String} (ht : t ∈ ["NoneType", "bool", "int", "str", "list", "tuple", "dict"]) (hc : c ∈ ["str", "int", "bool", "tuple", "list"]) : PySem.W.kitOne K (.type t) (.type c) = some (isiB t c) := by
  simp only [List.mem_cons, List.not_mem_nil, or_false] at ht hc
  rcases hc with rfl | rfl | rfl | rfl | rfl <;> rcases ht with rfl | rfl | rfl | rfl | rfl | rfl | rfl <;> rfl
theorem call_isi {X : Cx} : CallR X (.builtin "isinstance") (fun xs H Q => ∃ x c t, xs = [x, .ty c] ∧ tyN H x = some t ∧ c ∈ ["str", "int", "bool", "tuple", "list"] ∧ Q (.bl (isiB t c)) H) := by
  intro pins s σ H xs us Q I r h
  obtain ⟨x, c, t, rfl, ht, hc, q⟩ := h
  obtain ⟨u, v, rfl, ru, rv⟩ := r.two
  obtain rfl : v = Value.type c := rv
  exact isinst_ok I ru (tyOf_of ht) (kit_of (tyN_mem ht) hc) fun tk => ⟨.bl _, H, I.tok tk, rfl, q⟩
/-! ### all(xs), xs a list of truths -/
theorem call_all_bl {X : Cx} (hc : X.calm = true) : CallR X (.builtin "all") (fun xs H Q => ∃ (l : Addr) (bs : List Bool), xs = [.ref l] ∧ SqL X.K H l (bs.map V.bl) ∧ Q (.bl (bs.all id)) H) := by
  intro pins s σ H xs us Q I r h
  obtain ⟨l, bs, rfl, hl, q⟩ := h
  obtain ⟨u, rfl, ru⟩ := r.one
  cases ru
  obtain ⟨its, rv, ⟨o, n, ho, hoc, hod, hos⟩, hz⟩ := I.list hl
  have hL : s.heap.IsList l its.toArray := ⟨o, ho, hoc, n, hos⟩
  have hlt : l < s.heap.objs.size := Heap.lt_size ho
  have len : bs.length = its.length := by have := rv.length; rw [List.length_map] at this; exact this
  refine call_all_walk (wpAny_pyIter_list hL ?_)
  refine ⟨s.heap.objs.size, [s.heap.objs.size, l], [s.heap.objs.size], its.toArray.size, _, _, fun i => (bs[i]?).getD true, rfl, Walks.list (A := X.A.in1) (I.ok.hd hc) _ l (Nat.ne_of_lt hlt) its.toArray,
    ⟨⟨_, Heap.get?_push_size _ rfl, rfl, rfl⟩, hL.push _⟩, fun i v s' Q' E' hP hQ => ?_, fun h' tk kp => ?_⟩
  · have hv : its[i]? = some v := by simpa using hP
    have hi : i < its.length := (List.getElem?_eq_some_iff.mp hv).1
    have hb : bs[i]? = some bs[i] := List.getElem?_eq_getElem (by omega)
    obtain ⟨u', hu', ru'⟩ := rv.get (i := i) (x := .bl bs[i]) (by rw [List.getElem?_map, hb]; rfl)
    rw [hv] at hu'
    cases hu'
    obtain rfl : v = Value.bool bs[i] := ru'
    dsimp only at hQ
    rw [hb] at hQ
    exact wpAny_truthy_bool hQ
  · have e : ((List.range its.toArray.size).all fun i => (bs[i]?).getD true) = bs.all id := by
      rw [List.size_toArray, ← len]
      rw [Bool.eq_iff_iff, List.all_eq_true, List.all_eq_true]
      constructor
      · intro g b hb
        obtain ⟨i, hi, e⟩ := List.mem_iff_getElem.mp hb
        have := g i (List.mem_range.mpr hi)
        rw [List.getElem?_eq_getElem hi, e] at this
        exact this
      · intro g i hi
        have hi' := List.mem_range.mp hi
        rw [List.getElem?_eq_getElem hi']
        exact g _ (List.getElem_mem hi')
    rw [e]
    refine ⟨.bl (bs.all id), H, I.kept (t' := tk) fun b o e => ?_, rfl, q⟩
    exact kp b o (fun z => by rw [List.mem_singleton.mp z] at e; exact Nat.lt_irrefl _ (Heap.lt_size e)) (Heap.get?_push_of_some _ e)

/-! ### texts -/
theorem op_le_str {X : Cx} : OpR X (compareOp .LtE) (fun x y H Q => ∃ i j, x = .str i ∧ y = .str j ∧ Q (.bl (!decide (j.cps.toList < i.cps.toList))) H) := by
  intro pins s σ H x y v u Q I rx ry h
  obtain ⟨i, j, rfl, rfl, q⟩ := h
  obtain ⟨t, rfl⟩ := rx
  obtain ⟨t', rfl⟩ := ry
  exact PySem.P.le_str ⟨.bl _, H, I, rfl, q⟩
theorem mt_upper {X : Cx} : MtR X "str.upper" (fun x xs H Q => ∃ z, x = .str z ∧ xs = [] ∧ 3 * z.length ≤ 1000 ∧ ∀ y : Str, y.length ≤ 3 * z.length → Q (.str y) H) := by
  intro pins s σ H x xs v us Q I rx rv h
  obtain ⟨z, rfl, rfl, hz, q⟩ := h
  obtain ⟨t, rfl⟩ := rx
  obtain rfl := rv.zero
  have h2 : (1000 : Nat) ≤ 5592405 := by decide
  exact SCL.upper (by omega) fun hl => ⟨.str _, H, I.tok _, ⟨_, rfl⟩, q _ hl⟩
theorem sl_str {X : Cx} : SlR X (fun x lo hi H Q => ∃ z : Str, x = .str z ∧ z.length ≤ sizeLine ∧ ∀ y : Str, y.length ≤ z.length → Q (.str y) H) := by
  intro pins s σ H x v vl vu lo hi sl Q I rx hs pl pu h
  obtain ⟨z, rfl, hz, q⟩ := h
  obtain ⟨t, rfl⟩ := rx
  refine ⟨"str", _, F.slot_str_getitem.lookup, typeIs_str _ _ _, ?_⟩
  have fin : ∀ (y : Str), y.length ≤ z.length → ∀ t' k, EP X pins σ Q (.str y t') { s with toks := k } := fun y hy t' k => ⟨.str y, H, I.tok k, ⟨t', rfl⟩, q y hy⟩
  cases pl with
  | none =>
    cases pu with
    | none => exact wpAny_getItem_str_slice (l := none) (u := none) (st := none) hs rfl (post_val_or_str ⟨Nat.le_trans (Txt.slice_le z none none) hz, fun t' k => fin _ (Txt.slice_le z none none) t' k⟩)
    | int j u => exact wpAny_getItem_str_slice (l := none) (u := some (j, u)) (st := none) hs rfl (post_val_or_str ⟨Nat.le_trans (Txt.slice_le z none (some j)) hz, fun t' k => fin _ (Txt.slice_le z none (some j)) t' k⟩)
  | int i t0 =>
    cases pu with
    | none => exact wpAny_getItem_str_slice (l := some (i, t0)) (u := none) (st := none) hs rfl (post_val_or_str ⟨Nat.le_trans (Txt.slice_le z (some i) none) hz, fun t' k => fin _ (Txt.slice_le z (some i) none) t' k⟩)
    | int j u => exact wpAny_getItem_str_slice (l := some (i, t0)) (u := some (j, u)) (st := none) hs rfl (post_val_or_str ⟨Nat.le_trans (Txt.slice_le z (some i) (some j)) hz, fun t' k => fin _ (Txt.slice_le z (some i) (some j)) t' k⟩)

/-! ### tuples -/
theorem same_of_new {H : Hp} {p : Addr} (h : H p = none) (o : HO) : Same H (upd H p o) := fun b u q => by rw [upd_ne (ne_of_none q h)]; exact q
theorem cutV_whole {xs : List V} {lo hi : Option Int} (h : HT.sIx xs.length 0 lo = 0 ∧ HT.sIx xs.length xs.length hi = xs.length) : cutV xs lo hi = xs := by
  unfold cutV
  rw [h.1, h.2, List.drop_zero, Nat.sub_zero, List.take_length]
/-- the whole of a tuple is the tuple itself -/
theorem getItem_tup_all {P : Program} {w : World} {A : Around} {E : Value → Shared → Prop} {s : Shared} {t sl : Addr} {items : Array Value} {vl vu : Value} {lo hi : Option Int} {Q : Value → Shared → Prop} (ht : IsTup s.heap t items) (hs : s.heap.IsSliceOf sl vl vu .none) (pl : IsPart vl lo) (pu : IsPart vu hi)
    (hw : HT.sIx items.size 0 lo = 0 ∧ HT.sIx items.size items.size hi = items.size) (h : Q (.ref t) s) : wpAny (model P w) A (getItem (.ref t) (.ref sl)) Q E s := by
  obtain ⟨os, hos, hcs, hds⟩ := id hs
  have hTs : s.TypeIs (.ref sl) "slice" := ⟨os, hos, hcs⟩
  unfold getItem
  try with_reducible refine wpAny_holding ?_
  first | refine wpAny_bind (wpAny_pure ?_) | skip
  refine wpAny_bind (wpAny_sequenceKey ht.typeIs (by decide) ?_)
  refine wpAny_bind (wpAny_callSpecial?_slot (name := Str.ofString "__getitem__") ht.typeIs PyProof.Rows.slot_tuple_getitem (wpAny_call_entry PyProof.Rows.slot_tuple_getitem ht.typeIs entry_tuple_getitem ?_ (args_tuple_getitem _ _)))
  show wpAny _ _ (Builtin.Tuple.tupleItemsOf (.ref t) >>= _) _ _ s
  refine wpAny_bind (tupleItemsOf_ ht ?_)
  refine wpAny_bind (wpAny_typeOf hTs ?_)
  rw [if_pos (by decide)]
  refine wpAny_bind (HT.sliceApplied_gen hs pl pu ?_)
  show wpAny _ _ (if (((HT.sIx items.size 0 lo : Nat) : Int) == 0 && (1 : Int) == 1 && (HT.sIx items.size items.size hi - HT.sIx items.size 0 lo) == items.size) = true then _ else _) _ _ s
  rw [if_pos (by rw [hw.1, hw.2]; simp)]
  refine wpAny_bind (m := Builtin.Tuple.tupleIsExact (.ref t)) ?_
  unfold Builtin.Tuple.tupleIsExact
  refine wpAny_bind (wpAny_typeOf ht.typeIs (wpAny_pure ?_))
  rw [if_pos (by decide)]
  first
    | exact wpAny_bind (wpAny_rule (wpAny_pure ⟨_, rfl, wpAny_pure h⟩))
    | exact wpAny_bind (wpAny_bind (wpAny_rule (wpAny_pure (wpAny_pure ⟨_, rfl, wpAny_pure h⟩))))
    | exact wpAny_bind (wpAny_rule (wpAny_bind (wpAny_pure (wpAny_pure ⟨_, rfl, wpAny_pure h⟩))))
/-- t[lo:hi] of a tuple that is tracked -/
def rSlTw : V → Option Int → Option Int → Hp → VK → Prop := fun x lo hi H Q => ∃ a xs, x = .ref a ∧ H a = some (.tup xs) ∧ ∀ p H', Same H H' → H' p = some (.tup (cutV xs lo hi)) → Q (.ref p) H'
theorem sl_tupW {X : Cx} : SlR X rSlTw := by
  intro pins s σ H x v vl vu lo hi sl Q I rx hs pl pu h
  obtain ⟨a, xs, rfl, hx, q⟩ := h
  by_cases hw : HT.sIx xs.length 0 lo = 0 ∧ HT.sIx xs.length xs.length hi = xs.length
  · cases rx
    obtain ⟨its, r, ht, hz⟩ := I.tuple (SqT.of hx)
    have hlen : its.toArray.size = xs.length := by rw [List.size_toArray]; exact r.length.symm
    refine ⟨"tuple", _, PyProof.Rows.slot_tuple_getitem.lookup, ht.typeIs, ?_⟩
    exact getItem_tup_all ht hs pl pu (by rw [hlen]; exact hw) ⟨.ref a, H, I, rfl, q a H (Same.refl H) (by rw [cutV_whole hw]; exact hx)⟩
  · exact sl_tup pins s σ H (.ref a) v vl vu lo hi sl Q I rx hs pl pu ⟨a, xs, rfl, SqT.of hx, hw, fun p hp => q p _ (same_of_new hp _) upd_same⟩
/-- t + u, both tracked -/
def rCatTw : R2 := fun x y H Q => ∃ a b xs ys, x = .ref a ∧ y = .ref b ∧ H a = some (.tup xs) ∧ H b = some (.tup ys) ∧ xs.length + ys.length ≤ sizeLine ∧ ∀ p H', Same H H' → H' p = some (.tup (xs ++ ys)) → Q (.ref p) H'
theorem op_catTw {X : Cx} : OpR X (binaryOp .Add) rCatTw := by
  intro pins s σ H x y v u Q I rx ry h
  obtain ⟨a, b, xs, ys, rfl, rfl, ha, hb, hz, q⟩ := h
  by_cases hx : xs = []
  · cases rx
    cases ry
    subst hx
    obtain ⟨its, r1, p1, _⟩ := I.tuple (SqT.of ha)
    obtain ⟨its2, r2, p2, _⟩ := I.tuple (SqT.of hb)
    obtain ⟨⟨cls, dd, data, sl⟩, ho, hc, n, hd⟩ := id p1
    obtain ⟨⟨cls2, dd2, data2, sl2⟩, ho2, hc2, n2, hd2⟩ := id p2
    simp only at hc hd hc2 hd2
    subst hc hd hc2 hd2
    obtain rfl := r1.zero
    exact concat_meets ⟨_, ho, rfl⟩ ⟨_, ho2, rfl⟩ noFill_tuple_add seq_tuple_add PySem.F.slot_tuple_add PySem.F.entry_tuple_add (PySem.F.args_tuple_add_2 _ _)
      (tuple_addW0 a b #[] its2.toArray n n2 dd dd2 sl sl2 rfl) ⟨ho, ho2, ⟨.ref b, H, I.tok _, rfl, q b H (Same.refl H) hb⟩⟩
  · exact op_catT pins s σ H (.ref a) (.ref b) v u Q I rx ry ⟨a, b, xs, ys, rfl, rfl, SqT.of ha, SqT.of hb, hx, hz, fun e => q a H (Same.refl H) (by rw [e, List.append_nil]; exact ha), fun _ p hp => q p _ (same_of_new hp _) upd_same⟩
/-- == of two tuples, one of them empty; of two lists, one of them empty -/
theorem op_eqT0 {X : Cx} (hu : X.A.units < cLine) : OpR X (compareOp .Eq) (fun x y H Q => ∃ a b xs ys, x = .ref a ∧ y = .ref b ∧ SqT X.K H a xs ∧ SqT X.K H b ys ∧ (xs = [] ∨ ys = []) ∧ Q (.bl (xs.isEmpty && ys.isEmpty)) H) := by
  intro pins s σ H x y v u Q I rx ry h
  obtain ⟨a, b, xs, ys, rfl, rfl, ha, hb, he, q⟩ := h
  cases rx
  cases ry
  obtain ⟨its, r1, p1, _⟩ := I.tuple ha
  obtain ⟨its2, r2, p2, _⟩ := I.tuple hb
  have l1 := r1.length
  have l2 := r2.length
  refine SeqAt.eq_tupleAt (e := fun _ => true) (show s.heap.IsTuple a its.toArray from p1) (show s.heap.IsTuple b its2.toArray from p2) hu (fun j h1 h2 => ?_) ⟨.bl (xs.isEmpty && ys.isEmpty), H, I, ?_, q⟩
  · exfalso
    rw [List.size_toArray] at h1 h2
    rcases he with rfl | rfl
    · simp at l1; omega
    · simp at l2; omega
  · show Value.bool _ = Value.bool _
    congr 1
    rcases he with rfl | rfl
    · have : its = [] := by simpa using l1.symm
      subst this
      cases ys with
      | nil => have : its2 = [] := by simpa using l2.symm
               subst this; rfl
      | cons c d => cases its2 with
        | nil => simp at l2
        | cons => simp
    · have : its2 = [] := by simpa using l2.symm
      subst this
      cases xs with
      | nil => have : its = [] := by simpa using l1.symm
               subst this; rfl
      | cons c d => cases its with
        | nil => simp at l1
        | cons => simp
theorem op_eqL0 {X : Cx} (hu : X.A.units < cLine) : OpR X (compareOp .Eq) (fun x y H Q => ∃ a b xs, x = .ref a ∧ y = .ref b ∧ SqL X.K H a xs ∧ SqL X.K H b [] ∧ Q (.bl xs.isEmpty) H) := by
  intro pins s σ H x y v u Q I rx ry h
  obtain ⟨a, b, xs, rfl, rfl, ha, hb, q⟩ := h
  cases rx
  cases ry
  obtain ⟨its, r1, ⟨o1, n1, e1, c1, d1, k1⟩, _⟩ := I.list ha
  obtain ⟨its2, r2, ⟨o2, n2, e2, c2, d2, k2⟩, _⟩ := I.list hb
  obtain rfl := r2.zero
  have L1 : s.heap.IsList a its.toArray := ⟨o1, e1, c1, n1, k1⟩
  have L2' : s.heap.IsList b ([] : List Value).toArray := ⟨o2, e2, c2, n2, k2⟩
  cases xs with
  | nil =>
    obtain rfl := r1.zero
    exact SeqAt.eq_listAt (e := fun _ => true) L1 L2' rfl hu (fun j h1 h2 => absurd h1 (by simp)) ⟨.bl true, H, I, rfl, q⟩
  | cons x xr =>
    cases r1 with
    | cons r rr => exact SeqAt.eq_list_lengthsAt L1 L2' (by simp) hu ⟨.bl false, H, I, rfl, q⟩
end L2

set_option Elab.async false
set_option linter.all false
set_option maxRecDepth 100000
set_option maxHeartbeats 4000000
namespace L2
open PySem PySem.Spec PyProof.Rows

/-! ### t[::-1] -/
theorem fm_congr {α β : Type} {f g : α → Option β} : ∀ {l : List α}, (∀ x ∈ l, f x = g x) → l.filterMap f = l.filterMap g
  | [], _ => rfl
  | x :: r, h => by rw [List.filterMap_cons, List.filterMap_cons, h x List.mem_cons_self, fm_congr fun y hy => h y (List.mem_cons_of_mem _ hy)]
theorem rev_pick (xs : List Value) : ((List.range xs.length).filterMap fun (k : Nat) => xs.toArray[(((xs.length : Nat) : Int) - 1 + (k : Int) * (-1)).toNat]?).toArray = xs.reverse.toArray := by
  congr 1
  have e : ∀ k ∈ List.range xs.length, xs.toArray[(((xs.length : Nat) : Int) - 1 + (k : Int) * (-1)).toNat]? = xs.reverse[k]? := fun k hk => by
    have hk' := List.mem_range.mp hk
    have : (((xs.length : Nat) : Int) - 1 + (k : Int) * (-1)).toNat = xs.length - 1 - k := by omega
    rw [this, List.getElem?_toArray, List.getElem?_reverse hk']
  rw [fm_congr e]
  apply List.ext_getElem?
  intro i
  have key : ∀ (l : List Value), (List.range l.length).filterMap (fun k => l[k]?) = l := fun l => by
    have : (List.range l.length).filterMap (fun k => l[k]?) = (List.range l.length).map (fun k => l.getD k .none) := by
      rw [← List.filterMap_eq_map]
      refine fm_congr fun k hk => ?_
      have hk' := List.mem_range.mp hk
      rw [List.getElem?_eq_getElem hk', Function.comp, List.getD_eq_getElem?_getD, List.getElem?_eq_getElem hk']
      rfl
    rw [this]
    apply List.ext_getElem
    · simp
    · intro j h1 h2
      rw [List.getElem_map, List.getElem_range, List.getD_eq_getElem?_getD, List.getElem?_eq_getElem h2]
      rfl
  have k2 := key xs.reverse
  rw [List.length_reverse] at k2
  rw [k2]

theorem getItem_tup_rev {P : Program} {w : World} {A : Around} {E : Value → Shared → Prop} {s : Shared} {t sl : Addr} {its : List Value} {tk : Tok} {Q : Value → Shared → Prop} (ht : IsTup s.heap t its.toArray) (hs : s.heap.IsSliceOf sl .none .none (.int (-1) tk))
    (hsz : its.length ≤ sizeLine) (h : Q (.ref s.heap.objs.size) { s with heap := s.heap.push { cls := .type "tuple", data := .seq its.reverse.toArray } }) : wpAny (model P w) A (getItem (.ref t) (.ref sl)) Q E s := by
  obtain ⟨os, hos, hcs, hds⟩ := id hs
  have hTs : s.TypeIs (.ref sl) "slice" := ⟨os, hos, hcs⟩
  have hfit : sizeOk (.seq its.reverse.toArray) := by
    show its.reverse.toArray.size ≤ sizeLine
    rw [List.size_toArray, List.length_reverse]
    exact hsz
  unfold getItem
  try with_reducible refine wpAny_holding ?_
  first | refine wpAny_bind (wpAny_pure ?_) | skip
  refine wpAny_bind (wpAny_sequenceKey ht.typeIs (by decide) ?_)
  refine wpAny_bind (wpAny_callSpecial?_slot (name := Str.ofString "__getitem__") ht.typeIs PyProof.Rows.slot_tuple_getitem (wpAny_call_entry PyProof.Rows.slot_tuple_getitem ht.typeIs entry_tuple_getitem ?_ (args_tuple_getitem _ _)))
  show wpAny _ _ (Builtin.Tuple.tupleItemsOf (.ref t) >>= _) _ _ s
  refine wpAny_bind (tupleItemsOf_ ht ?_)
  refine wpAny_bind (wpAny_typeOf hTs ?_)
  rw [if_pos (by decide)]
  refine wpAny_bind ?_
  unfold Builtin.Slice.sliceApplied Builtin.Slice.sliceFields
  refine wpAny_bind (wpAny_bind (wpAny_field hos hds (x := .none) rfl (wpAny_bind (wpAny_field hos hds (x := .none) rfl (wpAny_bind (wpAny_field hos hds (x := .int (-1) tk) rfl (wpAny_pure ?_)))))))
  refine wpAny_bind (slicePart_int ?_)
  show wpAny _ _ (if ((-1 : Int) == 0) = true then _ else _) _ _ s
  rw [if_neg (by decide)]
  refine wpAny_bind (slicePart_none (wpAny_bind (slicePart_none (wpAny_bind (wpAny_pure ?_)))))
  have adj : Builtin.Slice.sliceAdjust none none (-1) ((its.toArray.size : Nat) : Int) = (((its.length : Nat) : Int) - 1, -1) := by
    unfold Builtin.Slice.sliceAdjust
    simp
  have plc : Builtin.Slice.slicePlaces (((its.length : Nat) : Int) - 1) (-1) (-1) = its.length := by
    unfold Builtin.Slice.slicePlaces
    have h1 : ¬ ((-1 : Int) > 0) := by omega
    have h2 : - (-1 : Int) = 1 := by decide
    simp only [h1, if_false, h2, Int.ediv_one]
    split <;> omega
  show wpAny _ _ (match Builtin.Slice.sliceAdjust none none (-1) ((its.toArray.size : Nat) : Int) with | (lo, hi) => pure (lo, (-1 : Int), Builtin.Slice.slicePlaces lo hi (-1))) _ _ s
  rw [adj]
  show wpAny _ _ (pure (((its.length : Nat) : Int) - 1, (-1 : Int), Builtin.Slice.slicePlaces (((its.length : Nat) : Int) - 1) (-1) (-1))) _ _ s
  rw [plc]
  refine wpAny_pure ?_
  show wpAny _ _ (if ((((its.length : Nat) : Int) - 1) == 0 && (-1 : Int) == 1 && its.length == its.toArray.size) = true then _ else _) _ _ s
  rw [if_neg (by intro z; rw [Bool.and_eq_true, Bool.and_eq_true] at z; exact absurd z.1.2 (by decide)), rev_pick]
  first
    | exact wpAny_bind (m := Builtin.Tuple.tupleExact _) (wpAny_newObj_type (wpAny_pure ⟨_, rfl, wpAny_pure h⟩) hfit)
    | exact wpAny_bind (wpAny_bind (m := Builtin.Tuple.tupleExact _) (wpAny_newObj_type (wpAny_pure (wpAny_pure ⟨_, rfl, wpAny_pure h⟩)) hfit))
    | exact wpAny_bind (wpAny_bind (m := Builtin.Tuple.tupleExact _) (wpAny_newObj_type (wpAny_pure ⟨_, rfl, wpAny_pure h⟩) hfit))

def tRev (te ts : TE) : TE := fun σ H Q => te σ H fun x H1 => ts σ H1 fun y H2 => y = .int (-1) ∧ ∃ a xs, x = .ref a ∧ H2 a = some (.tup xs) ∧ ∀ p, H2 p = none → Q (.ref p) (upd H2 p (.tup xs.reverse))
theorem pe_rev {X : Cx} {e st : Expr} {te ts : TE} {p2 pos : Pos} (he : PE X e te) (hst : PE X st ts) : PE X (.Subscript e (.Slice none none (some st) p2) pos) (tRev te ts) := by
  intro pins s σ H Q I h
  refine Subscript_ (thn (he pins s σ H _ I h) fun v s1 ⟨x, H1, I1, r1, q1⟩ => ?_)
  refine wpAny_Slice ?_
  rw [evalPart_none]
  refine wpAny_pure (wpAny_pure ?_)
  rw [evalPart_some]
  refine thn (hst pins s1 σ H1 _ I1 q1) fun vs s2 ⟨y, H2, I2, ry, ey, a, xs, ex, hx, q2⟩ => ?_
  subst ey
  subst ex
  obtain ⟨tk, rfl⟩ := ry
  cases r1
  have I4 : Inv X pins σ H2 { s2 with heap := s2.heap.push { cls := .type "slice", data := .fields #[.none, .none, .int (-1) tk] } } := I2.kept (t' := s2.toks) fun b ob g => Heap.get?_push_of_some _ g
  obtain ⟨its, r, ht, hz⟩ := I4.tuple (SqT.of hx)
  have hlen := r.length
  show wpAny (model X.prog X.w) X.A (subscriptTail e (.Slice none none (some st) p2) (.ref a) (.ref s2.heap.objs.size)) (EP X pins σ Q) X.xe { s2 with heap := s2.heap.push { cls := .type "slice", data := .fields #[.none, .none, .int (-1) tk] } }
  refine tail_any (ops := [.ref a, .ref s2.heap.objs.size]) ht.typeIs PyProof.Rows.slot_tuple_getitem.lookup (getItem_tup_rev ht (Heap.IsSliceOf.new ..) (by omega) ?_) (by with_unfolding_all rfl)
  refine ⟨.ref _, _, I4.laid (t' := s2.toks) (o := .tup xs.reverse) (fun b ob g => Heap.get?_push_of_some _ g) (Nat.le_refl _) ⟨by rw [List.length_reverse]; exact hz, _, r.reverse, IsTup.new _ _⟩, rfl, ?_⟩
  exact q2 _ I4.fresh

/-! ### {} -/
theorem Inv.wide {X : Cx} {pins : List (Addr × Obj)} {σ : St} {H : Hp} {s : Shared} (I : Inv X pins σ H s) : sysModules < s.heap.objs.size := by
  have h : mainGlobals < s.heap.objs.size := (I.mod.glob.keeps I.bk).lt
  exact Nat.lt_trans (by decide) h
theorem pe_dnew0 {X : Cx} {pos : Pos} : PE X (.Dict [] [] pos) (fun _ H Q => ∀ p, H p = none → Q (.ref p) (upd H p (.dK []))) := fun pins s σ H Q I h =>
  wpAny_Dict_empty ⟨.ref s.heap.objs.size, _, I.laid (a := s.heap.objs.size) (o := .dK []) (t' := s.toks) (fun _ _ g => Heap.get?_push_of_some _ g) (Nat.le_refl _)
    ⟨Nat.zero_le _, beq_eq_false_iff_ne.mpr (Ne.symm (Nat.ne_of_lt I.wide)), [], .nil, Heap.DictOf.new s.heap⟩, rfl, h _ I.fresh⟩
end L2

set_option Elab.async false
set_option linter.all false
set_option maxRecDepth 100000
set_option maxHeartbeats 4000000
namespace L2
open PySem PySem.Spec PyProof.Rows

/-! ### a table of the module: text keys, its things tuples of texts -/
/-- the dict at a: for each text what the table says -/
structure TabK (w : World) (K : PySem.W.Frag) (a : Addr) (tab : Str → Option (List Str)) : Prop where
  ex : ∃ (es : Array DictEntry) (n : Nat), K.lookup a = some ⟨.type "dict", none, .dict es n, #[]⟩ ∧ PySem.W.KeysLit w.params es.toList ∧
    ∀ x, match tab x with
      | some ks => ∃ b, findBy Value.isStrOf es x = some (.ref b) ∧ ∃ (o : Obj) (its : Array Value) (m : Nat), K.lookup b = some o ∧ o.cls = .type "tuple" ∧ o.data = .seq its m ∧ its.size ≤ sizeLine ∧ Vals (ks.map V.str) its.toList
      | none => findBy Value.isStrOf es x = none
  lo : (a == sysModules) = false

end L2

set_option Elab.async false
set_option linter.all false
set_option maxRecDepth 100000
set_option maxHeartbeats 4000000
/-! Defs of a text in short: where they stand, what they promise; heaps that grow beside one list. -/
namespace L2
open PySem PySem.Spec PyProof.Rows

/-! ### a def of the text: as it stands, as it promises -/
structure Src (K : PySem.W.Frag) (mg : Str → Option Value) (x : Str) (st : Stmt) (ps : List Str) : Prop where
  ex : ∃ (f : Addr) (fd : FuncData), Fun K x x st f fd ∧ mg x = some (.ref f) ∧ Binds K fd ps []
structure Def (P : Program) (w : World) (K : PySem.W.Frag) (mg : Str → Option Value) (base : Heap) (k : Nat) (x : Str) (ps : List Str) (sp : Sp) : Prop where
  ex : ∃ (f : Addr) (fd : FuncData), FnOk P w K mg base CX0 k f fd ps sp ∧ mg x = some (.ref f) ∧ PySem.W.keepIn K (.ref f) = true ∧ Binds K fd ps []
section
variable {P : Program} {w : World} {K : PySem.W.Frag} {mg : Str → Option Value} {base : Heap} {x : Str} {st : Stmt} {ps N : List Str} {k j : Nat} {sp sp' : Sp}
theorem Src.ok (S : Src K mg x st ps) (F : FnScope N ps (defScope st)) (len : ∀ vs H Q E, sp vs H Q E → vs.length = ps.length)
    (hbody : ∀ (f : Addr) (cdv : Value) (A : Around) (outer : List Env) (s : Shared) (H : Hp) (vs : List V) (Q : VK) (E : XK), Room k (A.deeper (envOfC x (defScope st) s.heap.objs.size f cdv)) → sp vs H Q E →
      ∃ t, PSs (cxOf CX0 P w K mg base N x (defScope st) f cdv A outer s H E).nox (defBody st) t ∧ t { nx := fun _ H' => Q .non H', rt := Q } (start N vs) H) : Def P w K mg base (k + 1) x ps sp := by
  obtain ⟨f, fd, F0, hm, hb⟩ := S.ex
  exact ⟨f, fd, F0.ok F len (hbody f), hm, F0.kp, hb⟩
theorem Def.mono (D : Def P w K mg base j x ps sp) (h : j ≤ k) : Def P w K mg base k x ps sp := by
  obtain ⟨f, fd, F, r⟩ := D.ex
  exact ⟨f, fd, F.mono h, r⟩
theorem Def.imp (D : Def P w K mg base k x ps sp) (h : ∀ vs H Q E, sp' vs H Q E → sp vs H Q E) : Def P w K mg base k x ps sp' := by
  obtain ⟨f, fd, F, r⟩ := D.ex
  exact ⟨f, fd, F.imp h, r⟩
/-- a promise that nobody can ask for -/
theorem Src.no (S : Src K mg x st ps) (h : ∀ vs H Q E, ¬ sp vs H Q E) : Def P w K mg base k x ps sp := by
  obtain ⟨f, fd, F0, hm, hb⟩ := S.ex
  exact ⟨f, fd, ⟨fun vs H Q E q => absurd q (h vs H Q E), fun A outer s H args us vs Q E _ _ _ _ q => absurd q (h vs H Q E)⟩, hm, F0.kp, hb⟩
end
/-! ### arguments without a star, seen at a glance -/
def plainE : Expr → Bool
  | .Starred _ _ => false
  | _ => true
theorem star_cons {e : Expr} {es : List Expr} {env : Env} (h : plainE e = true) : starEach (e :: es) env = (false, eval e env) :: starEach es env := by
  cases e <;> first | rfl | cases h
theorem star_all {env : Env} {pos : Pos} : ∀ {es : List Expr}, es.all plainE = true → (backTo pos (starEach es env)).any (·.1) = false
  | [], _ => rfl
  | e :: es, h => by
    rw [List.all_cons, Bool.and_eq_true] at h
    rw [star_cons h.1]
    have ih := star_all (env := env) (pos := pos) h.2
    show (false || (backTo pos (starEach es env)).any (·.1)) = false
    rw [ih]; rfl
theorem pac {X : Cx} {e : Expr} {es : List Expr} {te : TE} {t : TA} (ha : PE X e te) (hr : PA X es t) (h : plainE e = true := by rfl) : PA X (e :: es) (tCons te t) := pa_cons ha hr (star_cons h)
/-- written constants -/
def constV : Expr → Option V
  | .Constant (.str x) _ _ => some (.str x)
  | .Constant (.int i) _ _ => some (.int i)
  | .Constant (.bool b) _ _ => some (.bl b)
  | .Constant .none _ _ => some .non
  | _ => none
theorem pe_const {X : Cx} {e : Expr} {v : V} (h : constV e = some v) : PE X e (tC v) ∧ plainE e = true := by
  unfold constV at h
  split at h
  · cases h; exact ⟨pe_str, rfl⟩
  · cases h; exact ⟨pe_int, rfl⟩
  · cases h; exact ⟨pe_bl, rfl⟩
  · cases h; exact ⟨pe_non, rfl⟩
  · cases h
theorem pa_const {X : Cx} : ∀ {es : List Expr} (vs : List V), es.map constV = vs.map some → PA X es (fun _ H Q => Q vs H)
  | [], [], _ => pa_nil
  | [], _ :: _, h => by cases h
  | _ :: _, [], h => by cases h
  | e :: es, v :: vs, h => by
    rw [List.map_cons, List.map_cons] at h
    injection h with h1 h2
    obtain ⟨a, b⟩ := pe_const (X := X) h1
    exact pac a (pa_const vs h2) b
/-- a cut: what holds between two statements -/
def tCut (t u : TS) : TS := fun D σ H => ∃ M : St → Hp → Prop, t { D with nx := M } σ H ∧ ∀ σ' H', M σ' H' → u D σ' H'
theorem pss_cut {X : Cx} {st : Stmt} {rest : List Stmt} {t u : TS} (h1 : PS X st t) (h2 : PSs X rest u) : PSs X (st :: rest) (tCut t u) := by
  intro pins s σ H D I h
  obtain ⟨M, a, b⟩ := h
  refine wpAny_execs_cons (thn (h1 pins s σ H { D with nx := M } I a) fun f s1 q => ?_)
  cases f with
  | next =>
    obtain ⟨σ', H', I', q⟩ := q
    exact h2 pins s1 σ' H' D I' (b σ' H' q)
  | ret v => exact q
  | brk => exact q
  | cont => exact q
/-- the same between an expression's value and its use -/
def tCutE (t : TE) : TE := fun σ H Q => ∃ M : V → Hp → Prop, t σ H M ∧ ∀ v H', M v H' → Q v H'
theorem pe_cut {X : Cx} {e : Expr} {t : TE} (h : PE X e t) : PE X e (tCutE t) := by
  intro pins s σ H Q I hq
  obtain ⟨M, a, b⟩ := hq
  exact thn (h pins s σ H M I a) fun u s1 ⟨v, H', I', r, q⟩ => ⟨v, H', I', r, b v H' q⟩
def tCutT (t : TT) : TT := fun σ H Q => ∃ M : Bool → Hp → Prop, t σ H M ∧ ∀ v H', M v H' → Q v H'
theorem pt_cut {X : Cx} {e : Expr} {t : TT} (h : PT X e t) : PT X e (tCutT t) := by
  intro pins s σ H Q I hq
  obtain ⟨M, a, b⟩ := hq
  exact thn (h pins s σ H M I a) fun u s1 ⟨H', I', q⟩ => ⟨H', I', b u H' q⟩

def tDef (sp : Sp) (t : TA) : TE := fun σ H Q => t σ H fun vs H1 => sp vs H1 Q E0
theorem pe_def {X : Cx} {k : Nat} {x : Str} {ps : List Str} {sp : Sp} {p pos : Pos} {e : Expr} {es : List Expr} {t : TA} (D : Def X.prog X.w X.K X.mg X.base k x ps sp) (hr : Room k X.A) (hg : Gl X x) (ha : PA X (e :: es) t)
    (hdb : (x == ("__debug__" : Str)) = false := by decide) (hpl : (e :: es).all plainE = true := by rfl) :
    PE X (.Call (.Name x p) (e :: es) [] pos) (tDef sp t) := by
  obtain ⟨f, fd, F, hm, hk, hb⟩ := D.ex
  intro pins s σ H Q I h
  have q := pe_call (p := p) (pos := pos) F hr hg hm hk hb .nil (pass0 (X := X)) ha hdb (star_cons (by rw [List.all_cons, Bool.and_eq_true] at hpl; exact hpl.1)) (star_all (by rw [List.all_cons, Bool.and_eq_true] at hpl; exact hpl.2)) pins s σ H Q I
  refine q ?_
  have e2 : tCall sp [] E0 t = tDef sp t := by
    funext σ H Q
    unfold tCall tDef
    simp only [List.append_nil]
  rw [e2]
  exact h

theorem pe_cB {X : Cx} {x : Str} {p pos : Pos} {e : Expr} {es : List Expr} {t : TA} {id : String} {r : List V → Hp → VK → Prop} (hc : CallR X (.builtin id) r) (hg : Gl X x) (hm : X.mg x = none) (hv : bootBuiltins x = some (.builtin id)) (ha : PA X (e :: es) t)
    (hn : x ≠ "__name__" := by decide) (hdb : (x == ("__debug__" : Str)) = false := by decide) (hpl : (e :: es).all plainE = true := by rfl) : PE X (.Call (.Name x p) (e :: es) [] pos) (tCB r t) :=
  pe_callB hc hg hm hv ha hn hdb (star_cons (by rw [List.all_cons, Bool.and_eq_true] at hpl; exact hpl.1)) (star_all (by rw [List.all_cons, Bool.and_eq_true] at hpl; exact hpl.2))
theorem pe_cT {X : Cx} {x : Str} {p pos : Pos} {e : Expr} {es : List Expr} {t : TA} {id : String} {r : List V → Hp → VK → Prop} (hc : CallR X (.type id) r) (hg : Gl X x) (hm : X.mg x = none) (hv : bootBuiltins x = some (.type id)) (ha : PA X (e :: es) t)
    (hn : x ≠ "__name__" := by decide) (hdb : (x == ("__debug__" : Str)) = false := by decide) (hpl : (e :: es).all plainE = true := by rfl) : PE X (.Call (.Name x p) (e :: es) [] pos) (tCB r t) :=
  pe_callTy hc hg hm hv ha hn hdb (star_cons (by rw [List.all_cons, Bool.and_eq_true] at hpl; exact hpl.1)) (star_all (by rw [List.all_cons, Bool.and_eq_true] at hpl; exact hpl.2))

/-! ### comprehensions in short -/
/-- k own names, then the captured ones, by their slots around -/
def captS (k : Nat) (js : List Nat) (σ : St) : St := List.replicate k none ++ js.map fun j => (σ[j]?).join
theorem capt {X : Cx} {N' : List Str} {scope : Scope} (k : Nat) (js : List Nat) (hl : k + js.length = N'.length) (hn : js.map (fun j => X.N[j]?) = (N'.drop k).map some) (hf : ∀ x ∈ N'.drop k, (x, NameKind.free) ∈ scope.names) :
    ∀ σ : St, σ.length = X.N.length → Caught X N' scope σ (captS k js σ) := by
  intro σ _
  refine ⟨by unfold captS; rw [List.length_append, List.length_replicate, List.length_map]; exact hl, fun i x v h1 h2 => ?_⟩
  unfold captS at h2
  by_cases hi : i < k
  · rw [List.getElem?_append_left (by simpa using hi), List.getElem?_replicate, if_pos hi] at h2
    cases h2
  · rw [List.getElem?_append_right (by simpa using hi), List.length_replicate, List.getElem?_map] at h2
    cases hj : js[i - k]? with
    | none => rw [hj] at h2; cases h2
    | some j =>
      rw [hj] at h2
      have h3 : (σ[j]?).join = some v := by simpa using h2
      have e1 : (N'.drop k)[i - k]? = some x := by rw [List.getElem?_drop]; rw [show k + (i - k) = i by omega]; exact h1
      have e2 := congrArg (fun l => l[i - k]?) hn
      simp only [List.getElem?_map, hj, e1, Option.map_some] at e2
      refine ⟨hf x (List.mem_of_getElem? e1), j, Option.some.inj e2, ?_⟩
      cases hs : σ[j]? with
      | none => rw [hs] at h3; cases h3
      | some o =>
        rw [hs] at h3
        have : o = some v := h3
        rw [this]
theorem comp_scope {X : Cx} {N' : List Str} {scope : Scope} (sc : Scope) (hsc : X.env.scope = sc) (a : scope.kind = .function) (b : N'.Nodup) (c : ∀ y ∈ scope.names, y.2 ≠ .cell) (d : ∀ y ∈ scope.names, y.2 = .local → scope.names.lookup y.1 = some .local)
    (e : ∀ y ∈ scope.names, y.2 = .free → sc.names.lookup y.1 = some .cell)
    (f : ∀ y ∈ scope.names, y.2 = .free → (scope.names.map fun (n, k) => if (k == .free && sc.kind == .function && sc.names.lookup n == some .cell) then (n, NameKind.cell) else (n, k)).lookup y.1 ≠ some .local) : CompScope X N' scope := by
  subst hsc
  exact ⟨a, b, c, d, e, fun x hx => f (x, .free) hx rfl⟩

/-! ### the built-in names -/
theorem bt_len : bootBuiltins "len" = some (.builtin "len") := PySem.boot_len
theorem bt_isinstance : bootBuiltins "isinstance" = some (.builtin "isinstance") := by decide +kernel
theorem bt_all : bootBuiltins "all" = some (.builtin "all") := by decide +kernel
theorem bt_list : bootBuiltins "list" = some (.type "list") := by decide +kernel
theorem bt_tuple : bootBuiltins "tuple" = some (.type "tuple") := by decide +kernel
theorem bt_str : bootBuiltins "str" = some (.type "str") := by decide +kernel
theorem bt_int : bootBuiltins "int" = some (.type "int") := by decide +kernel
theorem bt_bool : bootBuiltins "bool" = some (.type "bool") := by decide +kernel
theorem pe_ty {X : Cx} {x : Str} {n : String} {pos : Pos} (hm : X.mg x = none) (hv : bootBuiltins x = some (.type n)) (hg : Gl X x) (hn : x ≠ "__name__" := by decide) (hd : (x == ("__debug__" : Str)) = false := by decide) : PE X (.Name x pos) (tC (.ty n)) :=
  pe_bltn hg hm hv rfl hn hd

/-! ### a place of a list -/
theorem at_in {α : Type} {xs : List α} {k : Int} (h0 : 0 ≤ k) (h1 : k < (xs.length : Int)) : ∃ v, atI xs k = some v ∧ xs[k.toNat]? = some v := by
  have hk : k.toNat < xs.length := by omega
  have z : k = ((k.toNat : Nat) : Int) := by omega
  refine ⟨xs[k.toNat], ?_, List.getElem?_eq_getElem hk⟩
  have q := atI_nat (xs := xs) (j := k.toNat) (v := xs[k.toNat]) (List.getElem?_eq_getElem hk)
  rw [← z] at q
  exact q
theorem at_mem {α : Type} {xs : List α} {k : Int} (h0 : 0 ≤ k) (h1 : k < (xs.length : Int)) : ∃ v, atI xs k = some v ∧ v ∈ xs := by
  obtain ⟨v, a, b⟩ := at_in h0 h1
  exact ⟨v, a, List.mem_of_getElem? b⟩
/-- an item of a list of texts -/
theorem at_str {ns : List Str} {k : Int} (h0 : 0 ≤ k) (h1 : k < (ns.length : Int)) : ∃ x, atI (ns.map V.str) k = some (.str x) ∧ x ∈ ns := by
  obtain ⟨v, a, b⟩ := at_mem (xs := ns.map V.str) h0 (by rw [List.length_map]; exact h1)
  obtain ⟨x, hx, rfl⟩ := List.mem_map.mp b
  exact ⟨x, a, hx⟩

/-! ### heaps: all is kept but the list at p -/
def But (p : Addr) (H H' : Hp) : Prop := ∀ b o, b ≠ p → H b = some o → H' b = some o
/-- the list at p holds one number of the generator's -/
def Gen (p : Addr) (H : Hp) : Prop := ∃ n : Int, H p = some (.lst [.int n]) ∧ 0 ≤ n ∧ n < 2147483629
structure Ext (p : Addr) (H H' : Hp) : Prop where
  but : But p H H'
  gen : Gen p H'
theorem Ext.refl {p : Addr} {H : Hp} (g : Gen p H) : Ext p H H := ⟨fun _ _ _ h => h, g⟩
theorem Ext.trans {p : Addr} {H H1 H2 : Hp} (a : Ext p H H1) (b : Ext p H1 H2) : Ext p H H2 := ⟨fun c o hc h => b.but c o hc (a.but c o hc h), b.gen⟩
theorem Gen.same {p : Addr} {H H' : Hp} (g : Gen p H) (s : Same H H') : Gen p H' := let ⟨n, h, r⟩ := g; ⟨n, s _ _ h, r⟩
theorem Same.ext {p : Addr} {H H' : Hp} (g : Gen p H) (s : Same H H') : Ext p H H' := ⟨fun b o _ h => s b o h, g.same s⟩
theorem Ext.new {p q : Addr} {H : Hp} (g : Gen p H) (h : H q = none) (o : HO) : Ext p H (upd H q o) := Same.ext g (same_of_new h o)
theorem Gen.ne {p q : Addr} {H : Hp} (g : Gen p H) (h : H q = none) : q ≠ p := fun e => by
  obtain ⟨n, hp, _⟩ := g
  rw [← e, h] at hp; cases hp
theorem Ext.free {p q : Addr} {H H' : Hp} (e : Ext p H H') (h : H' q = none) : H q = none := by
  have hne := e.gen.ne h
  cases hq : H q with
  | none => rfl
  | some o => rw [e.but q o hne hq] at h; cases h
/-- a list of names is no generator's -/
theorem Gen.neS {p a : Addr} {H : Hp} {xs : List V} (g : Gen p H) (h : H a = some (.lst xs)) (hx : ∀ n : Int, xs ≠ [.int n]) : a ≠ p := by
  obtain ⟨n, hp, _⟩ := g
  exact ne_of h hp (by intro z; exact hx n (by injection z))
theorem strs_ne {ns : List Str} (n : Int) : ns.map V.str ≠ [.int n] := by
  cases ns with
  | nil => intro z; cases z
  | cons x r => intro z; simp at z
theorem Ext.lst {p a : Addr} {H H' : Hp} {ns : List Str} (g : Gen p H) (e : Ext p H H') (h : H a = some (.lst (ns.map V.str))) : H' a = some (.lst (ns.map V.str)) := e.but a _ (g.neS h strs_ne) h
theorem Ext.tup {p a : Addr} {H H' : Hp} {xs : List V} (g : Gen p H) (e : Ext p H H') (h : H a = some (.tup xs)) : H' a = some (.tup xs) := by
  obtain ⟨n, hp, _⟩ := g
  exact e.but a _ (ne_of h hp (by intro z; cases z)) h
end L2

set_option Elab.async false
set_option linter.all false
set_option maxRecDepth 100000
set_option maxHeartbeats 4000000
namespace K03
open PySem L2
seal L2.PE L2.PS L2.PSs L2.PT L2.PW L2.PA L2.PG L2.PGs L2.PI L2.PO L2.PIfs L2.PC L2.OpR L2.CallR L2.IxR L2.SlR L2.PSet L2.UnR

def top (i : Nat) : Stmt := PySem.Challenge.pw_retrace_k03_worlds.main.body.getD i (.Pass ⟨0, 0, 0, 0⟩)

/-- the text's own names -/
structure Txt (w : World) (K : PySem.W.Frag) (mg : Str → Option Value) : Prop where
  z_len : mg "len" = none
  z_isinstance : mg "isinstance" = none
  z_all : mg "all" = none
  z_range : mg "range" = none
  z_list : mg "list" = none
  z_tuple : mg "tuple" = none
  z_str : mg "str" = none
  z_int : mg "int" = none
  z_bool : mg "bool" = none
  z_sorted : mg "sorted" = none
  z_set : mg "set" = none
  z_ValueError : mg "ValueError" = none
  most : ∃ t, mg "MOST_LETTERS" = some (.int 6 t)
  great : ∃ t, mg "GREATEST" = some (.int 999999 t)
  doors : ∃ t, mg "MOST_DOORS" = some (.int 5 t)
  answers : ∃ t, mg "MOST_ANSWERS" = some (.int 40 t)

section
variable {P : Program} {w : World} {K : PySem.W.Frag} {mg : Str → Option Value} {base : Heap} (T : Txt w K mg)

/-! ### _law_next -/
theorem sc_next : FnScope ["_law_state_here", "_law_size", "_law_mixed"] ["_law_state_here", "_law_size"] (defScope (top 28)) := ⟨rfl, rfl, rfl, by decide +kernel, rfl, by decide +kernel, by decide +kernel⟩
def spNext : Sp := fun vs H Q _ => ∃ (p : Addr) (k : Int), vs = [.ref p, .int k] ∧ Gen p H ∧ 0 < k ∧ ∀ (r : Int) (H' : Hp), 0 ≤ r → r < k → Ext p H H' → Q (.int r) H'
theorem d_next (S : Src K mg "_law_next" (top 28) ["_law_state_here", "_law_size"]) : Def P w K mg base 1 "_law_next" ["_law_state_here", "_law_size"] spNext := by
  refine S.ok sc_next (fun vs H Q E h => ?_) (fun f cdv A outer s H vs Q E hr h => ?_)
  · obtain ⟨p, k, rfl, _⟩ := h; rfl
  obtain ⟨p, k, rfl, ⟨n, hp, h0, h1⟩, hk, q⟩ := h
  refine ⟨_, (pss_cons (ps_asg (pe_op op_mod (pe_op op_add (pe_op op_mul (pe_ix ix_list (pv 0) pe_int (fun _ _ => rfl)) pe_int) pe_int) pe_int) (pg_sub (pv 0) pe_int set_list)) (pss_cons (ps_set (i := 2) sc_next.nd rfl (Or.inl rfl) (pe_op op_mod (pe_op op_mul (pe_ix ix_list (pv 0) pe_int (fun _ _ => rfl)) (pe_ix ix_list (pv 0) pe_int (fun _ _ => rfl))) pe_int)) (pss_one (ps_ret (pe_op op_mod (pe_op op_fdiv (pv 2) pe_int) (pv 1)))))), ?_⟩
  have at0 : ∀ m : Int, atI [V.int m] 0 = some (.int m) := fun m => rfl
  refine ⟨_, rfl, p, _, 0, _, rfl, rfl, SqL.of hp, at0 n, n, 69621, rfl, rfl, .inr ⟨by decide, by decide⟩, _, _, rfl, rfl, _, _, rfl, rfl, (by show (0 : Int) < 2147483629; decide), ?_⟩
  refine ⟨_, rfl, p, _, 0, 0, rfl, rfl, hp, rfl, ?_⟩
  have hm := Int.emod_nonneg (n * 69621 + 11) (show (2147483629 : Int) ≠ 0 by decide)
  have hm2 := Int.emod_lt_of_pos (n * 69621 + 11) (show (0 : Int) < 2147483629 by decide)
  generalize hmm : (n * 69621 + 11) % 2147483629 = m at hm hm2
  refine ⟨_, rfl, p, _, 0, _, rfl, rfl, SqL.of upd_same, at0 _, ?_⟩
  refine ⟨_, rfl, p, _, 0, _, rfl, rfl, SqL.of upd_same, at0 _, m, m, by rw [← hmm], by rw [← hmm], .inl ⟨by omega, by omega⟩, _, _, rfl, rfl, (by show (0 : Int) < 2147483587; decide), ?_⟩
  have g : Ext p H (upd H p (.lst [.int m])) := ⟨fun b o hb h => by rw [upd_ne hb]; exact h, ⟨m, upd_same, hm, hm2⟩⟩
  refine ⟨_, rfl, _, 7, rfl, rfl, ⟨by decide, by decide⟩, _, rfl, _, _, rfl, rfl, hk, ?_⟩
  refine q _ _ (Int.emod_nonneg _ (by omega)) (Int.emod_lt_of_pos _ hk) ?_
  subst hmm
  exact g

/-! ### _law_cell_at, _law_state -/
theorem sc_cell_at : FnScope ["_law_script", "_law_k"] ["_law_script", "_law_k"] (defScope (top 26)) := ⟨rfl, rfl, rfl, by decide +kernel, rfl, by decide +kernel, by decide +kernel⟩
def spCell (K : PySem.W.Frag) : Sp := fun vs H Q _ => ∃ (a : Addr) (ns : List Int) (k : Int), vs = [.ref a, .int k] ∧ SqL K H a (ns.map V.int) ∧ 0 ≤ k ∧ ∀ i : Int, Q (.int i) H
theorem d_cell_at (T : Txt w K mg) (S : Src K mg "_law_cell_at" (top 26) ["_law_script", "_law_k"]) : Def P w K mg base 1 "_law_cell_at" ["_law_script", "_law_k"] (spCell K) := by
  refine S.ok sc_cell_at (fun vs H Q E h => ?_) (fun f cdv A outer s H vs Q E hr h => ?_)
  · obtain ⟨a, ns, k, rfl, _⟩ := h; rfl
  obtain ⟨a, ns, k, rfl, hS, hk, q⟩ := h
  refine ⟨_, (pss_cons (ps_if (pt_cmpR op_lt (pv 1) (pe_callB call_len_seq rfl T.z_len bt_len (pa_cons (pv 0) pa_nil)) (nomark _)) (pss_one (ps_ret (pe_ix ix_list (pv 0) (pv 1) (fun _ _ => rfl)))) pss_nil) (pss_one (ps_ret pe_int))), ?_⟩
  refine ⟨_, rfl, _, rfl, a, _, rfl, .inl hS, _, _, rfl, rfl, _, rfl, ?_⟩
  refine ite2 (fun c => ?_) (fun c => ?_)
  · have c' : k < (((ns.map V.int).length : Nat) : Int) := of_decide_eq_true c
    rw [List.length_map] at c'
    obtain ⟨v, e, hv⟩ := at_mem (xs := ns.map V.int) hk (by rw [List.length_map]; exact c')
    obtain ⟨i, _, rfl⟩ := List.mem_map.mp hv
    exact ⟨_, rfl, _, rfl, a, _, _, _, rfl, rfl, hS, e, q _⟩
  · exact q 0
theorem sc_state : FnScope ["_law_cell", "_law_k", "_law_drawn"] ["_law_cell", "_law_k"] (defScope (top 27)) := ⟨rfl, rfl, rfl, by decide +kernel, rfl, by decide +kernel, by decide +kernel⟩
def spState : Sp := fun vs H Q _ => ∃ (c k : Int), vs = [.int c, .int k] ∧ 0 ≤ k ∧ k < 100 ∧ ∀ (p : Addr) (n : Int), H p = none → 0 ≤ n → n < 2147483629 → Q (.ref p) (upd H p (.lst [.int n]))
theorem d_state (S : Src K mg "_law_state" (top 27) ["_law_cell", "_law_k"]) : Def P w K mg base 1 "_law_state" ["_law_cell", "_law_k"] spState := by
  refine S.ok sc_state (fun vs H Q E h => ?_) (fun f cdv A outer s H vs Q E hr h => ?_)
  · obtain ⟨c, k, rfl, _⟩ := h; rfl
  obtain ⟨c, k, rfl, h0, h1, q⟩ := h
  refine ⟨_, (pss_cons (ps_set (i := 2) sc_state.nd rfl (Or.inl rfl) (pe_op op_mod (pe_op op_mul (pe_op op_add (pe_op op_add (pv 0) (pe_op op_mul pe_int (pv 1))) pe_int) pe_int) pe_int)) (pss_one (ps_ret (pe_lst (pa_cons (pe_op op_mod (pe_op op_add (pe_op op_add (pe_op op_mul (pv 2) (pv 2)) (pe_op op_mul pe_int (pv 2))) (pv 1)) pe_int) pa_nil))))), ?_⟩
  refine ⟨_, rfl, _, rfl, 7919, k, rfl, rfl, .inl ⟨by decide, by decide⟩, _, _, rfl, rfl, _, _, rfl, rfl, _, 48271, rfl, rfl, .inr ⟨by decide, by decide⟩, _, _, rfl, rfl, (by show (0 : Int) < 2147483647; decide), ?_⟩
  have hm := Int.emod_nonneg ((c + 7919 * k + 1) * 48271) (show (2147483647 : Int) ≠ 0 by decide)
  have hm2 := Int.emod_lt_of_pos ((c + 7919 * k + 1) * 48271) (show (0 : Int) < 2147483647 by decide)
  generalize hmm : ((c + 7919 * k + 1) * 48271) % 2147483647 = m at hm hm2
  refine ⟨_, rfl, _, rfl, m, m, by rw [← hmm], by rw [← hmm], .inl ⟨by omega, by omega⟩, _, rfl, 7, m, rfl, by rw [← hmm], .inl ⟨by decide, by decide⟩, _, _, rfl, rfl, _, rfl, _, _, rfl, rfl, _, _, rfl, rfl, (by show (0 : Int) < 2147483629; decide), (by show 1 ≤ sizeLine; decide), fun p hp => ?_⟩
  exact q p _ hp (Int.emod_nonneg _ (by decide)) (Int.emod_lt_of_pos _ (by decide))
end
end K03

set_option Elab.async false
set_option linter.all false
set_option maxRecDepth 100000
set_option maxHeartbeats 4000000
/-! Texts of small letters: what the two sides ask of a name. -/
namespace L2
open PySem PySem.Spec PyProof.Rows

def small (c : Nat) : Bool := decide (97 ≤ c) && decide (c ≤ 122)
/-- all signs are small letters -/
def Lt (x : Str) : Prop := ∀ c ∈ x.cps.toList, small c = true
/-- a name: one to six small letters -/
def nmS (x : Str) : Bool := decide (1 ≤ x.length ∧ x.length ≤ 6) && x.cps.toList.all small
theorem Lt.one {c : Nat} (h : small c = true) : Lt ⟨#[c]⟩ := fun d hd => by
  have : d = c := by simpa using hd
  rw [this]; exact h
theorem cps_append (x y : Str) : (x ++ y).cps = x.cps ++ y.cps := rfl
theorem len_append (x y : Str) : (x ++ y).length = x.length + y.length := by
  show (x.cps ++ y.cps).size = x.cps.size + y.cps.size
  simp
theorem Lt.append {x y : Str} (a : Lt x) (b : Lt y) : Lt (x ++ y) := fun c hc => by
  rw [cps_append] at hc
  simp at hc
  rcases hc with h | h
  · exact a c (by simpa using h)
  · exact b c (by simpa using h)
theorem nm_of {x : Str} (h : Lt x) (h1 : 1 ≤ x.length) (h2 : x.length ≤ 6) : nmS x = true := by
  unfold nmS
  rw [decide_eq_true ⟨h1, h2⟩, Bool.true_and, List.all_eq_true]
  exact h
abbrev abc : Str := "abcdefghijklmnopqrstuvwxyz"
theorem abc_list : abc.cps.toList = [97, 98, 99, 100, 101, 102, 103, 104, 105, 106, 107, 108, 109, 110, 111, 112, 113, 114, 115, 116, 117, 118, 119, 120, 121, 122] := by decide +kernel
theorem abc_len : abc.length = 26 := by decide +kernel
theorem abc_at {k : Int} (h0 : 0 ≤ k) (h1 : k < 26) : ∃ c, atI abc.cps.toList k = some c ∧ small c = true := by
  obtain ⟨c, a, b⟩ := at_mem (xs := abc.cps.toList) h0 (by rw [abc_list]; exact h1)
  refine ⟨c, a, ?_⟩
  rw [abc_list] at b
  have : ∀ d ∈ [97, 98, 99, 100, 101, 102, 103, 104, 105, 106, 107, 108, 109, 110, 111, 112, 113, 114, 115, 116, 117, 118, 119, 120, 121, 122], small d = true := by decide
  exact this c b
/-- 'a' <= sign <= 'z' -/
theorem le_a (c : Nat) : (!decide ((⟨#[c]⟩ : Str).cps.toList < ("a" : Str).cps.toList)) = decide (97 ≤ c) := by
  have e : ("a" : Str).cps.toList = [97] := by decide +kernel
  rw [e]
  by_cases h : 97 ≤ c
  · rw [decide_eq_true h, decide_eq_false]
    · rfl
    · intro z
      have z' : [c] < [97] := z
      simp [List.cons_lt_cons_iff] at z'
      omega
  · rw [decide_eq_false h, decide_eq_true]
    · rfl
    · show [c] < [97]
      simp [List.cons_lt_cons_iff]
      omega
theorem le_z (c : Nat) : (!decide (("z" : Str).cps.toList < (⟨#[c]⟩ : Str).cps.toList)) = decide (c ≤ 122) := by
  have e : ("z" : Str).cps.toList = [122] := by decide +kernel
  rw [e]
  by_cases h : c ≤ 122
  · rw [decide_eq_true h, decide_eq_false]
    · rfl
    · intro z
      have z' : [122] < [c] := z
      simp [List.cons_lt_cons_iff] at z'
      omega
  · rw [decide_eq_false h, decide_eq_true]
    · rfl
    · show [122] < [c]
      simp [List.cons_lt_cons_iff]
      omega
/-- sign in 'abc..z' -/
theorem occ_abc (c : Nat) : (!(Builtin.Str.occurrences abc ⟨#[c]⟩ 0 abc.length 1).isEmpty) = small c := by
  rw [PySem.StrLaws.found_one, abc_list]
  unfold small
  by_cases h : 97 ≤ c ∧ c ≤ 122
  · rw [decide_eq_true h.1, decide_eq_true h.2, decide_eq_true]
    · rfl
    · have : ∀ d, d < 26 → (97 + d) ∈ [97, 98, 99, 100, 101, 102, 103, 104, 105, 106, 107, 108, 109, 110, 111, 112, 113, 114, 115, 116, 117, 118, 119, 120, 121, 122] := by decide
      have := this (c - 97) (by omega)
      rw [show 97 + (c - 97) = c by omega] at this
      exact this
  · rw [decide_eq_false]
    · by_cases h1 : 97 ≤ c
      · rw [decide_eq_true h1, decide_eq_false (by omega)]; rfl
      · rw [decide_eq_false h1]; rfl
    · intro z
      have : ∀ d ∈ [97, 98, 99, 100, 101, 102, 103, 104, 105, 106, 107, 108, 109, 110, 111, 112, 113, 114, 115, 116, 117, 118, 119, 120, 121, 122], 97 ≤ d ∧ d ≤ 122 := by decide
      exact h (this c z)
end L2

set_option Elab.async false
set_option linter.all false
set_option maxRecDepth 100000
set_option maxHeartbeats 4000000
namespace K03
open PySem L2
seal L2.PE L2.PS L2.PSs L2.PT L2.PW L2.PA L2.PG L2.PGs L2.PI L2.PO L2.PIfs L2.PC L2.OpR L2.CallR L2.IxR L2.SlR L2.PSet L2.UnR
section
variable {P : Program} {w : World} {K : PySem.W.Frag} {mg : Str → Option Value} {base : Heap}

/-! ### _law_names -/
theorem sc_names : FnScope ["_law_state_here", "_law_amount", "_law_letters", "_law_shift", "_law_found", "_law_k", "_law_name", "_law_turn", "_law_words"] ["_law_state_here", "_law_amount"] (defScope (top 29)) := ⟨rfl, rfl, rfl, by decide +kernel, rfl, by decide +kernel, by decide +kernel⟩
def spNames : Sp := fun vs H Q _ => ∃ (p : Addr) (m : Int), vs = [.ref p, .int m] ∧ Gen p H ∧ 0 ≤ m ∧ m ≤ 9 ∧ ∀ (a : Addr) (ns : List Str) (H' : Hp), Ext p H H' → H a = none → H' a = some (.lst (ns.map V.str)) → (ns.length : Int) = m → (∀ x ∈ ns, nmS x = true) → Q (.ref a) H'
def ws1 : List Str := ["box", "list", "def", "end", "else", "catch", "own", "set", "push", "while", "try"]
def ws2 : List Str := ["number", "size", "plus", "item", "not", "ask"]
theorem ws_nm : ∀ x ∈ ws1 ++ ws2, nmS x = true := by decide +kernel
/-- the five choices of how many signs more -/
theorem five {r : Int} (h0 : 0 ≤ r) (h1 : r < 6) {k : Int} (k0 : 0 ≤ k) (k1 : k < 5) : ∃ i : Int, atI [V.int 0, V.int 0, V.int 1, V.int 5, V.int r] k = some (.int i) ∧ 0 ≤ i ∧ i ≤ 5 := by
  obtain ⟨v, a, b⟩ := at_mem (xs := [V.int 0, V.int 0, V.int 1, V.int 5, V.int r]) k0 k1
  simp at b
  rcases b with rfl | rfl | rfl | rfl
  · exact ⟨_, a, by omega, by omega⟩
  · exact ⟨_, a, by omega, by omega⟩
  · exact ⟨_, a, by omega, by omega⟩
  · exact ⟨_, a, by omega, by omega⟩
/-- what stands between two statements of a turn: a name that is one, all else as at the turn's start -/
def NmAt (p a : Addr) (m sh : Int) (i : Nat) (H2 : Hp) (σ : St) (H' : Hp) : Prop :=
  ∃ (nm : Str) (x7 x8 : Option V), σ = [some (.ref p), some (.int m), some (.str abc), some (.int sh), some (.ref a), some (.int (0 + (i : Int))), some (.str nm), x7, x8] ∧ Ext p H2 H' ∧ nmS nm = true
theorem d_names (T : Txt w K mg) (D_next : Def P w K mg base 1 "_law_next" ["_law_state_here", "_law_size"] spNext) (S : Src K mg "_law_names" (top 29) ["_law_state_here", "_law_amount"]) : Def P w K mg base 2 "_law_names" ["_law_state_here", "_law_amount"] spNames := by
  refine S.ok sc_names (fun vs H Q E h => ?_) (fun f cdv A outer s H vs Q E hr h => ?_)
  · obtain ⟨p, m, rfl, _⟩ := h; rfl
  obtain ⟨p, m, rfl, g, m0, m9, q⟩ := h
  refine ⟨_, (pss_cons (ps_set (i := 2) sc_names.nd rfl (Or.inl rfl) pe_str)
      (pss_cons (ps_set (i := 3) sc_names.nd rfl (Or.inl rfl) (pe_def (D_next) hr rfl (pac (pv 0) (pac pe_int pa_nil))))
      (pss_cons (ps_set (i := 4) sc_names.nd rfl (Or.inl rfl) (pe_lst pa_nil))
      (pss_cons (ps_for PassesOwn.never rfl (pi_range1 rfl T.z_range (pac (pv 1) pa_nil)) (pg_name (i := 5) sc_names.nd rfl (Or.inl rfl))
      (pss_cons (ps_set (i := 6) sc_names.nd rfl (Or.inl rfl) (pe_ix ix_str (pv 2) (pe_op op_mod (pe_op op_add (pv 3) (pv 5)) pe_int) (fun _ _ => rfl)))
      (pss_cut (ps_for PassesOwn.never rfl (pi_range1 rfl T.z_range (pac (pe_ix ix_list (pe_lst (pac pe_int (pac pe_int (pac pe_int (pac pe_int (pac (pe_def (D_next) hr rfl (pac (pv 0) (pac pe_int pa_nil))) pa_nil)))))) (pe_def (D_next) hr rfl (pac (pv 0) (pac pe_int pa_nil))) (fun _ _ => rfl)) pa_nil)) (pg_name (i := 7) sc_names.nd rfl (Or.inl rfl))
      (pss_one (ps_set (i := 6) sc_names.nd rfl (Or.inl rfl) (pe_op op_add_str (pe_ix ix_str (pv 2) (pe_def (D_next) hr rfl (pac (pv 0) (pac pe_int pa_nil))) (fun _ _ => rfl)) (pv 6)))))
      (pss_cut (ps_if (pt_cmpR op_eq (pe_def (D_next) hr rfl (pac (pv 0) (pac pe_int pa_nil))) pe_int (nomark _))
      (pss_cons (ps_set (i := 8) sc_names.nd rfl (Or.inl rfl) (pe_lst (pa_const [.str "box", .str "list", .str "def", .str "end", .str "else", .str "catch", .str "own", .str "set", .str "push", .str "while", .str "try"] (by rfl))))
      (pss_one (ps_set (i := 6) sc_names.nd rfl (Or.inl rfl) (pe_ix ix_list (pe_op op_cat (pv 8) (pe_lst (pa_const [.str "number", .str "size", .str "plus", .str "item", .str "not", .str "ask"] (by rfl)))) (pe_def (D_next) hr rfl (pac (pv 0) (pac pe_int pa_nil))) (fun _ _ => rfl))))) pss_nil)
      (pss_cut (ps_if (pt_cmpR op_in_seq (pv 6) (pv 4) (by rfl))
      (pss_one (ps_set (i := 6) sc_names.nd rfl (Or.inl rfl) (pe_ix ix_str (pv 2) (pe_op op_mod (pe_op op_add (pv 3) (pv 5)) pe_int) (fun _ _ => rfl)))) pss_nil)
      (pss_one (ps_expr (pe_bm PySem.F.plainAttrs_list PySem.F.slot_list_append PySem.F.type_list_append mt_append (pv 4) (pac (pv 6) pa_nil)))))))))
      (pss_one (ps_ret (pv 4))))))), ?_⟩
  have zl : abc.length ≤ sizeLine := by rw [abc_len]; decide
  refine ⟨_, rfl, p, 26, rfl, g, by decide, fun sh H1 s0 s1 e1 => ?_⟩
  refine ⟨(by show 0 ≤ sizeLine; decide), fun a ha => ?_⟩
  have hane : a ≠ p := e1.gen.ne ha
  have g2 : Ext p H1 (upd H1 a (.lst [])) := Ext.new e1.gen ha _
  refine ⟨_, rfl, m, rfl, by omega, by omega, ?_⟩
  refine for_range (n := m.toNat) (fun i σ H' => ∃ (ns : List Str) (x5 x6 x7 x8 : Option V), σ = [some (.ref p), some (.int m), some (.str abc), some (.int sh), some (.ref a), x5, x6, x7, x8] ∧ Ext p H1 H' ∧ H' a = some (.lst (ns.map V.str)) ∧ ns.length = i ∧ ∀ x ∈ ns, nmS x = true) ?_ ?_ ?_
  · exact ⟨[], _, _, _, _, rfl, g2, upd_same, rfl, by simp⟩
  · rintro i σ H2 hi ⟨ns, x5, x6, x7, x8, rfl, e2, hl, hn, hnm⟩
    have hk0 := Int.emod_nonneg (sh + (0 + (i : Int))) (show (26 : Int) ≠ 0 by decide)
    have hk1 := Int.emod_lt_of_pos (sh + (0 + (i : Int))) (show (0 : Int) < 26 by decide)
    obtain ⟨c, hc, hcs⟩ := abc_at hk0 hk1
    refine ⟨_, rfl, _, rfl, _, rfl, _, _, rfl, rfl, _, _, rfl, rfl, (by show (0 : Int) < 26; decide), abc, _, c, rfl, rfl, zl, hc, ?_⟩
    refine ⟨NmAt p a m sh i H2, ?_, ?_⟩
    · refine ⟨_, rfl, p, 6, rfl, e2.gen, by decide, fun r H3 r0 r1 e3 => ?_⟩
      refine ⟨(by show 5 ≤ sizeLine; decide), fun b hb => ?_⟩
      have e4 : Ext p H3 (upd H3 b (.lst [.int 0, .int 0, .int 1, .int 5, .int r])) := Ext.new e3.gen hb _
      refine ⟨_, rfl, p, 5, rfl, e4.gen, by decide, fun r2 H5 k0 k1 e5 => ?_⟩
      obtain ⟨y, hy, y0, y5⟩ := five r0 r1 k0 k1
      have hbp : b ≠ p := e3.gen.ne hb
      refine ⟨b, _, r2, _, rfl, rfl, SqL.of (e5.but b _ hbp upd_same), hy, y, rfl, by omega, by omega, ?_⟩
      have e25 : Ext p H2 H5 := e3.trans (e4.trans e5)
      refine for_range (n := y.toNat) (fun j σ H' => ∃ (nm : Str) (x7 : Option V), σ = [some (.ref p), some (.int m), some (.str abc), some (.int sh), some (.ref a), some (.int (0 + (i : Int))), some (.str nm), x7, x8] ∧ Ext p H2 H' ∧ Lt nm ∧ nm.length = j + 1) ?_ ?_ ?_
      · exact ⟨_, _, rfl, e25, Lt.one hcs, rfl⟩
      · rintro j σ H6 hj ⟨nm, x7', rfl, e6, hlt, hlen⟩
        refine ⟨_, rfl, _, rfl, p, 26, rfl, e6.gen, by decide, fun r3 H7 t0 t1 e7 => ?_⟩
        obtain ⟨c2, hc2, hcs2⟩ := abc_at t0 t1
        have hln : (⟨#[c2]⟩ : Str).length + nm.length ≤ sizeLine := by
          have : (⟨#[c2]⟩ : Str).length = 1 := rfl
          have h3 : (100 : Nat) ≤ sizeLine := by decide
          omega
        refine ⟨abc, _, c2, rfl, rfl, zl, hc2, _, rfl, _, nm, rfl, rfl, hln, ?_⟩
        refine ⟨_, _, rfl, e6.trans e7, (Lt.one hcs2).append hlt, ?_⟩
        rw [len_append, hlen]
        show 1 + (j + 1) = j + 1 + 1
        omega
      · rintro σ H6 ⟨nm, x7', rfl, e6, hlt, hlen⟩
        exact ⟨nm, x7', x8, rfl, e6, nm_of hlt (by omega) (by omega)⟩
    · rintro σ H6 ⟨nm, x7, x8, rfl, e6, nm6⟩
      refine ⟨NmAt p a m sh i H2, ?_, ?_⟩
      · refine ⟨_, rfl, p, 6, rfl, e6.gen, by decide, fun r4 H7 u0 u1 e7 => ⟨rfl, _, rfl, ite2 (fun _ => ?_) (fun _ => ?_)⟩⟩
        · refine ⟨(by show 11 ≤ sizeLine; decide), fun b hb => ?_⟩
          have e8 : Ext p H7 (upd H7 b (.lst (ws1.map V.str))) := Ext.new e7.gen hb _
          refine ⟨_, rfl, (by show 6 ≤ sizeLine; decide), fun b2 hb2 => ?_⟩
          have e9 : Ext p _ (upd (upd H7 b (.lst (ws1.map V.str))) b2 (.lst (ws2.map V.str))) := Ext.new e8.gen hb2 _
          have hb12 : b ≠ b2 := ne_of_none (o := .lst (ws1.map V.str)) upd_same hb2
          refine ⟨b, b2, ws1.map V.str, ws2.map V.str, rfl, rfl, (by rw [upd_ne hb12]; exact upd_same), upd_same, (by show 17 ≤ sizeLine; decide), fun b3 hb3 => ?_⟩
          have e10 : Ext p _ (upd (upd (upd H7 b (.lst (ws1.map V.str))) b2 (.lst (ws2.map V.str))) b3 (.lst (ws1.map V.str ++ ws2.map V.str))) := Ext.new e9.gen hb3 _
          refine ⟨_, rfl, p, 17, rfl, e10.gen, by decide, fun r5 H8 v0 v1 e11 => ?_⟩
          obtain ⟨x, hx, hxm⟩ := at_str (ns := ws1 ++ ws2) v0 v1
          rw [List.map_append] at hx
          refine ⟨b3, _, r5, _, rfl, rfl, SqL.of (e11.but b3 _ (e9.gen.ne hb3) upd_same), hx, ?_⟩
          exact ⟨x, x7, _, rfl, e6.trans (e7.trans (e8.trans (e9.trans (e10.trans e11)))), ws_nm x hxm⟩
        · exact ⟨nm, x7, x8, rfl, e6.trans e7, nm6⟩
      · rintro σ H7 ⟨nm, x7, x8, rfl, e7, nm7⟩
        have hl7 : H7 a = some (.lst (ns.map V.str)) := e7.but a _ hane hl
        refine ⟨NmAt p a m sh i H2, ?_, ?_⟩
        · refine ⟨_, rfl, _, rfl, a, _, rfl, .inl (SqL.of hl7), rfl, ?_, ?_⟩
          · rw [List.all_eq_true]
            intro x hx
            obtain ⟨y', _, rfl⟩ := List.mem_map.mp hx
            rfl
          refine ⟨_, rfl, ite2 (fun _ => ?_) (fun _ => ?_)⟩
          · refine ⟨_, rfl, _, rfl, _, rfl, _, _, rfl, rfl, _, _, rfl, rfl, (by show (0 : Int) < 26; decide), abc, _, c, rfl, rfl, zl, hc, ?_⟩
            exact ⟨_, x7, x8, rfl, e7, nm_of (Lt.one hcs) (by show 1 ≤ 1; decide) (by show 1 ≤ 6; decide)⟩
          · exact ⟨nm, x7, x8, rfl, e7, nm7⟩
        · rintro σ H8 ⟨nm, x7, x8, rfl, e8, nm8⟩
          have hl8 : H8 a = some (.lst (ns.map V.str)) := e8.but a _ hane hl
          have z9 : (ns.map V.str).length < sizeLine := by
            rw [List.length_map]
            have h3 : (100 : Nat) < sizeLine := by decide
            omega
          refine ⟨_, rfl, .inl ⟨rfl, _, SqL.of hl8⟩, _, rfl, a, _, _, rfl, rfl, hl8, z9, ?_⟩
          refine ⟨ns ++ [nm], _, _, _, _, rfl, ⟨fun b' o hb' ho => ?_, ?_⟩, ?_, by rw [List.length_append, hn]; rfl, fun x hx => ?_⟩
          · have e12 := (e2.trans e8).but b' o hb' ho
            rw [upd_ne (ne_of_none ho ha)]; exact e12
          · obtain ⟨n', hp', r'⟩ := e8.gen
            exact ⟨n', by rw [upd_ne (Ne.symm hane)]; exact hp', r'⟩
          · rw [upd_same, List.map_append]; rfl
          · rcases List.mem_append.mp hx with h | h
            · exact hnm x h
            · rw [List.mem_singleton.mp h]; exact nm8
  · rintro σ H2 ⟨ns, x5, x6, x7, x8, rfl, e2, hl, hn, hnm⟩
    exact ⟨_, rfl, q a ns H2 (e1.trans e2) (e1.free ha) hl (by omega) hnm⟩
end
end K03

set_option Elab.async false
set_option linter.all false
set_option maxRecDepth 100000
set_option maxHeartbeats 4000000
namespace K03
open PySem L2
seal L2.PE L2.PS L2.PSs L2.PT L2.PW L2.PA L2.PG L2.PGs L2.PI L2.PO L2.PIfs L2.PC L2.OpR L2.CallR L2.IxR L2.SlR L2.PSet L2.UnR

/-! ### data -/
/-- a value as the law draws it, n deep at most: tuples, texts, numbers -/
def Pl (H : Hp) : Nat → V → Prop
  | 0, _ => False
  | n + 1, v => match v with
    | .int i => 0 ≤ i ∧ i < 1000000
    | .str x => x.length ≤ 10
    | .ref a => ∃ xs, H a = some (.tup xs) ∧ xs.length ≤ 50 ∧ ∀ x ∈ xs, Pl H n x
    | _ => False
/-- any thing that may be asked, n deep at most; its lists are not the one at p -/
def Dt (p : Addr) (H : Hp) : Nat → V → Prop
  | 0, _ => False
  | n + 1, v => match v with
    | .non => True
    | .bl _ => True
    | .int _ => True
    | .str x => x.length ≤ 100
    | .ref a => (∃ xs, H a = some (.tup xs) ∧ xs.length ≤ 120 ∧ ∀ x ∈ xs, Dt p H n x) ∨ (∃ xs, H a = some (.lst xs) ∧ a ≠ p ∧ xs.length ≤ 120 ∧ ∀ x ∈ xs, Dt p H n x) ∨ H a = some (.dK [])
    | _ => False
theorem Pl.ext {p : Addr} {H H' : Hp} (g : Gen p H) (e : Ext p H H') : ∀ {n : Nat} {v : V}, Pl H n v → Pl H' n v
  | 0, _, h => h
  | n + 1, v, h => by
    cases v with
    | ref a =>
      obtain ⟨xs, h1, h2, h3⟩ := h
      exact ⟨xs, e.tup g h1, h2, fun x hx => Pl.ext g e (h3 x hx)⟩
    | _ => exact h
theorem Pl.succ {H : Hp} : ∀ {n : Nat} {v : V}, Pl H n v → Pl H (n + 1) v
  | 0, _, h => h.elim
  | n + 1, v, h => by
    cases v with
    | ref a =>
      obtain ⟨xs, h1, h2, h3⟩ := h
      exact ⟨xs, h1, h2, fun x hx => Pl.succ (h3 x hx)⟩
    | _ => exact h
theorem Pl.up {H : Hp} {n m : Nat} {v : V} (h : Pl H n v) (l : n ≤ m) : Pl H m v := by
  induction l with
  | refl => exact h
  | step _ ih => exact ih.succ
theorem Dt.ext {p : Addr} {H H' : Hp} (g : Gen p H) (e : Ext p H H') : ∀ {n : Nat} {v : V}, Dt p H n v → Dt p H' n v
  | 0, _, h => h
  | n + 1, v, h => by
    cases v with
    | ref a =>
      rcases h with ⟨xs, h1, h2, h3⟩ | ⟨xs, h1, h0, h2, h3⟩ | h
      · exact .inl ⟨xs, e.tup g h1, h2, fun x hx => Dt.ext g e (h3 x hx)⟩
      · exact .inr (.inl ⟨xs, e.but a _ h0 h1, h0, h2, fun x hx => Dt.ext g e (h3 x hx)⟩)
      · obtain ⟨k, hp, _⟩ := id g
        exact .inr (.inr (e.but a _ (ne_of h hp (by intro z; cases z)) h))
    | _ => exact h
theorem Dt.succ {p : Addr} {H : Hp} : ∀ {n : Nat} {v : V}, Dt p H n v → Dt p H (n + 1) v
  | 0, _, h => h.elim
  | n + 1, v, h => by
    cases v with
    | ref a =>
      rcases h with ⟨xs, h1, h2, h3⟩ | ⟨xs, h1, h0, h2, h3⟩ | h
      · exact .inl ⟨xs, h1, h2, fun x hx => Dt.succ (h3 x hx)⟩
      · exact .inr (.inl ⟨xs, h1, h0, h2, fun x hx => Dt.succ (h3 x hx)⟩)
      · exact .inr (.inr h)
    | _ => exact h
theorem Dt.up {p : Addr} {H : Hp} {n m : Nat} {v : V} (h : Dt p H n v) (l : n ≤ m) : Dt p H m v := by
  induction l with
  | refl => exact h
  | step _ ih => exact ih.succ
theorem Pl.dt {p : Addr} {H : Hp} : ∀ {n : Nat} {v : V}, Pl H n v → Dt p H n v
  | 0, _, h => h
  | n + 1, v, h => by
    cases v with
    | ref a =>
      obtain ⟨xs, h1, h2, h3⟩ := h
      exact .inl ⟨xs, h1, by omega, fun x hx => Pl.dt (h3 x hx)⟩
    | int i => exact trivial
    | str x =>
      have h' : x.length ≤ 10 := h
      show x.length ≤ 100
      omega
    | non => exact h.elim
    | bl _ => exact h.elim
    | byt _ => exact h.elim
    | flt _ => exact h.elim
    | ty _ => exact h.elim
theorem Dt.move {p q : Addr} {H : Hp} (hq : H q = none) : ∀ {n : Nat} {v : V}, Dt p H n v → Dt q H n v
  | 0, _, h => h
  | n + 1, v, h => by
    cases v with
    | ref a =>
      rcases h with ⟨xs, h1, h2, h3⟩ | ⟨xs, h1, h0, h2, h3⟩ | h
      · exact .inl ⟨xs, h1, h2, fun x hx => Dt.move hq (h3 x hx)⟩
      · exact .inr (.inl ⟨xs, h1, ne_of_none h1 hq, h2, fun x hx => Dt.move hq (h3 x hx)⟩)
      · exact .inr (.inr h)
    | _ => exact h
/-- all that was tracked stays: so does every thing -/
theorem Dt.same {p : Addr} {H H' : Hp} (e : Same H H') : ∀ {n : Nat} {v : V}, Dt p H n v → Dt p H' n v
  | 0, _, h => h
  | n + 1, v, h => by
    cases v with
    | ref a =>
      rcases h with ⟨xs, h1, h2, h3⟩ | ⟨xs, h1, h0, h2, h3⟩ | h
      · exact .inl ⟨xs, e _ _ h1, h2, fun x hx => Dt.same e (h3 x hx)⟩
      · exact .inr (.inl ⟨xs, e _ _ h1, h0, h2, fun x hx => Dt.same e (h3 x hx)⟩)
      · exact .inr (.inr (e _ _ h))
    | _ => exact h

section
variable {P : Program} {w : World} {K : PySem.W.Frag} {mg : Str → Option Value} {base : Heap}
theorem Pl.text {H : Hp} {n : Nat} {x : Str} (h : x.length ≤ 10) : Pl H (n + 1) (.str x) := h
end
end K03

set_option Elab.async false
set_option linter.all false
set_option maxRecDepth 100000
set_option maxHeartbeats 4000000
namespace K03
open PySem L2
seal L2.PE L2.PS L2.PSs L2.PT L2.PW L2.PA L2.PG L2.PGs L2.PI L2.PO L2.PIfs L2.PC L2.OpR L2.CallR L2.IxR L2.SlR L2.PSet L2.UnR

/-- the things of a display, one by one: each is a thing; what held ahead holds behind -/
inductive GoodA (p : Addr) (k : Nat) (σ : St) (P0 : Hp → Prop) : Nat → TA → Prop where
  | nil : GoodA p k σ P0 0 tNil
  | cons {t : TE} {tr : TA} {n : Nat} (h : ∀ H1, Gen p H1 → P0 H1 → t σ H1 fun v H' => Ext p H1 H' ∧ Dt p H' k v) (r : GoodA p k σ P0 n tr) : GoodA p k σ P0 (n + 1) (tCons (tCutE t) tr)
theorem GoodA.use {p : Addr} {k : Nat} {σ : St} {P0 : Hp → Prop} {n : Nat} {tA : TA} (G : GoodA p k σ P0 n tA) (mono : ∀ H H', Gen p H → Ext p H H' → P0 H → P0 H') : ∀ {H : Hp} {Q : List V → Hp → Prop}, Gen p H → P0 H →
    (∀ vs H', Ext p H H' → vs.length = n → (∀ v ∈ vs, Dt p H' k v) → Q vs H') → tA σ H Q := by
  induction G with
  | nil => intro H Q g _ q; exact q [] H (Ext.refl g) rfl (by simp)
  | @cons t tr n h r ih =>
    intro H Q g p0 q
    refine ⟨_, h H g p0, fun v H1 ⟨e1, d1⟩ => ?_⟩
    refine ih e1.gen (mono H H1 g e1 p0) fun vs H2 e2 hl hv => ?_
    refine q (v :: vs) H2 (e1.trans e2) (by rw [List.length_cons, hl]) fun x hx => ?_
    rcases List.mem_cons.mp hx with rfl | hx
    · exact d1.ext e1.gen e2
    · exact hv x hx
theorem lst_open {tA : TA} {σ : St} {H : Hp} {Q : VK} (h : tA σ H fun xs H1 => xs.length ≤ sizeLine ∧ ∀ p, H1 p = none → Q (.ref p) (upd H1 p (.lst xs))) : tLst tA σ H Q := h
theorem asg_lst {tA : TA} {g : TG} {u : TS} {D : Ends} {σ : St} {H : Hp} (h : tA σ H fun xs H1 => xs.length ≤ sizeLine ∧ ∀ p, H1 p = none → g (.ref p) σ (upd H1 p (.lst xs)) (u D)) : tSeq (tAsg (tLst tA) g) u D σ H := h
theorem ret_lst {tA : TA} {r : R2} {ti : TE} {D : Ends} {σ : St} {H : Hp} (h : tA σ H fun xs H1 => xs.length ≤ sizeLine ∧ ∀ p, H1 p = none → ti σ (upd H1 p (.lst xs)) fun y H2 => r (.ref p) y H2 D.rt) : tRet (tOp r (tLst tA) ti) D σ H := h
theorem Pl.kind {H : Hp} {n : Nat} {v : V} (h : Pl H n v) : (∃ i : Int, v = .int i ∧ tyN H v = some "int" ∧ 0 ≤ i ∧ i < 1000000) ∨ (∃ x : Str, v = .str x ∧ tyN H v = some "str" ∧ x.length ≤ 10) ∨
    (∃ (m : Nat) (a : Addr) (xs : List V), n = m + 1 ∧ v = .ref a ∧ tyN H v = some "tuple" ∧ H a = some (.tup xs) ∧ xs.length ≤ 50 ∧ ∀ x ∈ xs, Pl H m x) := by
  cases n with
  | zero => exact h.elim
  | succ n =>
    cases v with
    | int i => exact .inl ⟨i, rfl, rfl, h.1, h.2⟩
    | str x => exact .inr (.inl ⟨x, rfl, rfl, h⟩)
    | ref a =>
      obtain ⟨xs, h1, h2, h3⟩ := h
      exact .inr (.inr ⟨n, a, xs, rfl, rfl, by unfold tyN; dsimp only; rw [h1], h1, h2, h3⟩)
    | non => exact h.elim
    | bl _ => exact h.elim
    | byt _ => exact h.elim
    | flt _ => exact h.elim
    | ty _ => exact h.elim
theorem Pl.pos {H : Hp} {n : Nat} {v : V} (h : Pl H n v) : 1 ≤ n := by
  cases n with
  | zero => exact h.elim
  | succ n => omega
theorem Dt.tup {p : Addr} {H : Hp} {n : Nat} {a : Addr} {xs : List V} (h : H a = some (.tup xs)) (l : xs.length ≤ 120) (hx : ∀ x ∈ xs, Dt p H n x) : Dt p H (n + 1) (.ref a) := .inl ⟨xs, h, l, hx⟩
theorem Dt.lst {p : Addr} {H : Hp} {n : Nat} {a : Addr} {xs : List V} (h : H a = some (.lst xs)) (hp : a ≠ p) (l : xs.length ≤ 120) (hx : ∀ x ∈ xs, Dt p H n x) : Dt p H (n + 1) (.ref a) := .inr (.inl ⟨xs, h, hp, l, hx⟩)
theorem mem_cut {xs : List V} {lo hi : Option Int} {x : V} (h : x ∈ cutV xs lo hi) : x ∈ xs := List.mem_of_mem_drop (List.mem_of_mem_take h)

theorem num_len {i : Int} (h0 : 0 ≤ i) (h1 : i < 1000000) : (Str.ofString (toString i)).length ≤ 100 := by
  have e := int_text_length_le10 (a := i) (k := 6) (by decide) (by omega)
  rw [ofString_length]
  omega

section
variable {P : Program} {w : World} {K : PySem.W.Frag} {mg : Str → Option Value} {base : Heap}
/-! ### _law_odd -/
theorem sc_odd : FnScope ["_law_thing", "_law_state_here", "_law_kind", "_law_some", "_law_words", "_law_texts"] ["_law_thing", "_law_state_here"] (defScope (top 34)) := ⟨rfl, rfl, rfl, by decide +kernel, rfl, by decide +kernel, by decide +kernel⟩
def spOdd : Sp := fun vs H Q _ => ∃ (v : V) (p : Addr) (n : Nat), vs = [v, .ref p] ∧ Gen p H ∧ Pl H n v ∧ ∀ (r : V) (H' : Hp), Ext p H H' → Dt p H' (n + 2) r → Q r H'
def twelve : List Str := ["number", "box", "size", "not", "item", "plus", "set", "push", "if", "while", "return", "def"]
theorem d_odd (T : Txt w K mg) (D_next : Def P w K mg base 1 "_law_next" ["_law_state_here", "_law_size"] spNext) (S : Src K mg "_law_odd" (top 34) ["_law_thing", "_law_state_here"]) : Def P w K mg base 2 "_law_odd" ["_law_thing", "_law_state_here"] spOdd := by
  refine S.ok sc_odd (fun vs H Q E h => ?_) (fun f cdv A outer s H vs Q E hr h => ?_)
  · obtain ⟨v, p, n, rfl, _⟩ := h; rfl
  obtain ⟨v, p, n, rfl, g, hv, q⟩ := h
  refine ⟨_, (pss_cons (ps_set (i := 2) sc_odd.nd rfl (Or.inl rfl) (pe_def (D_next) hr rfl (pac (pv 1) (pac pe_int pa_nil))))
      (pss_cons (ps_if (pt_cut (PW.pt (pw_and (pt_cmpR op_lt (pv 2) pe_int (nomark _)) (pw_and1 (pt_val (pe_cB call_isi rfl T.z_isinstance bt_isinstance (pac (pv 0) (pac (pe_ty T.z_tuple bt_tuple rfl) pa_nil))))))))
      (pss_cons (ps_set (i := 3) sc_odd.nd rfl (Or.inl rfl) (pe_lst (pac (pe_cut (pe_cT call_list_of rfl T.z_list bt_list (pac (pv 0) pa_nil))) (pac (pe_cut (pe_slice (sl_tupW.or sl_str) (pv 0) po_none (po_some (pe_un un_neg pe_int)))) (pac (pe_cut (pe_op op_catTw (pv 0) (pe_slice sl_tupW (pv 0) (po_some (pe_un un_neg pe_int)) po_none))) (pac (pe_cut (pe_rev (pv 0) (pe_un un_neg pe_int))) (pac (pe_cut (pe_tup pa_nil)) (pac (pe_cut (pe_slice (sl_tupW.or sl_str) (pv 0) (po_some pe_int) po_none)) (pac (pe_cut (pe_op op_catTw (pv 0) (pe_tup (pa_const [.int 0] (by rfl))))) (pac (pe_cut (pe_tup (pac (pv 0) pa_nil))) pa_nil))))))))))
      (pss_cons (ps_set (i := 4) sc_odd.nd rfl (Or.inl rfl) (pe_lst (pa_const [.str "number", .str "box", .str "size", .str "not", .str "item", .str "plus", .str "set", .str "push", .str "if", .str "while", .str "return", .str "def"] (by rfl))))
      (pss_one (ps_ret (pe_ix ix_list (pe_op op_cat (pv 3) (pe_op op_rep (pe_lst (pac (pe_op op_catTw (pe_tup (pac (pe_ix ix_list (pv 4) (pe_def (D_next) hr rfl (pac (pv 1) (pac pe_int pa_nil))) (fun _ _ => rfl)) pa_nil)) (pe_slice (sl_tupW.or sl_str) (pv 0) (po_some pe_int) po_none)) pa_nil)) pe_int)) (pe_def (D_next) hr rfl (pac (pv 1) (pac pe_int pa_nil))) (fun _ _ => rfl)))))) pss_nil)
      (pss_cons (ps_if (pt_cut (PW.pt (pw_and (pt_cmpR op_lt (pv 2) pe_int (nomark _)) (pw_and1 (pt_val (pe_cB call_isi rfl T.z_isinstance bt_isinstance (pac (pv 0) (pac (pe_ty T.z_int bt_int rfl) pa_nil))))))))
      (pss_one (ps_ret (pe_ix ix_list (pe_lst (pac (pe_cut (pe_cmpR op_eq (pv 0) pe_int (nomark _))) (pac (pe_cut (pe_op op_sub (pe_un un_neg pe_int) (pv 0))) (pac (pe_cut (pe_op op_add (pv 0) pe_int)) (pac (pe_cut (pe_op op_add (pv 0) pe_int)) (pac (pe_cut (pe_cT call_str_int rfl T.z_str bt_str (pac (pv 0) pa_nil))) (pac (pe_cut pe_int) pa_nil))))))) (pe_def (D_next) hr rfl (pac (pv 1) (pac pe_int pa_nil))) (fun _ _ => rfl)))) pss_nil)
      (pss_cons (ps_if (pt_cut (PW.pt (pw_and (pt_cmpR op_lt (pv 2) pe_int (nomark _)) (pw_and1 (pt_val (pe_cB call_isi rfl T.z_isinstance bt_isinstance (pac (pv 0) (pac (pe_ty T.z_str bt_str rfl) pa_nil))))))))
      (pss_cons (ps_set (i := 5) sc_odd.nd rfl (Or.inl rfl) (pe_lst (pac (pe_cut (pe_op op_add_str (pv 0) pe_str)) (pac (pe_cut (pe_slice (sl_tupW.or sl_str) (pv 0) (po_some pe_int) po_none)) (pac (pe_cut (pe_op op_add_str (pv 0) pe_str)) (pac (pe_cut (pe_bm0 PySem.F.plainAttrs_str PySem.F.slot_str_upper PySem.F.type_str_upper mt_upper (pv 0))) (pac (pe_cut (pe_op op_add_str (pv 0) pe_str)) (pac (pe_cut (pe_op op_add_str (pe_slice (sl_tupW.or sl_str) (pv 0) po_none (po_some (pe_un un_neg pe_int))) pe_str)) pa_nil))))))))
      (pss_one (ps_ret (pe_ix ix_list (pe_op op_cat (pv 5) (pe_lst (pa_const [.str "zz", .str "pop", .str "over", .str "fail"] (by rfl)))) (pe_def (D_next) hr rfl (pac (pv 1) (pac pe_int pa_nil))) (fun _ _ => rfl))))) pss_nil)
      (pss_cons (ps_set (i := 3) sc_odd.nd rfl (Or.inl rfl) (pe_lst (pac (pe_cut pe_bl) (pac (pe_cut pe_non) (pac (pe_cut (pe_un un_neg pe_int)) (pac (pe_cut pe_int) (pac (pe_cut pe_int) (pac (pe_cut pe_int) (pac (pe_cut (pe_op op_pow pe_int pe_int)) (pac (pe_cut pe_str) (pac (pe_cut pe_str) (pac (pe_cut pe_str) (pac (pe_cut pe_str) (pac (pe_cut pe_str) (pac (pe_cut (pe_tup pa_nil)) (pac (pe_cut (pe_lst pa_nil)) (pac (pe_cut (pe_tup (pa_const [.str "number", .int 3] (by rfl)))) (pac (pe_cut pe_dnew0) pa_nil))))))))))))))))))
      (pss_cons (ps_set (i := 3) sc_odd.nd rfl (Or.inl rfl) (pe_op op_cat (pv 3) (pe_lst (pac (pe_cut (pe_tup (pa_const [.str "number", .bl true] (by rfl)))) (pac (pe_cut (pe_tup (pa_const [.str "box", .str "zz"] (by rfl)))) (pac (pe_cut (pe_tup (pac pe_str (pac (pe_tup (pa_const [.str "number", .int 1] (by rfl))) pa_nil)))) (pac (pe_cut (pe_tup (pac pe_str (pac (pe_tup (pa_const [.str "number", .int 1] (by rfl))) pa_nil)))) (pac (pe_cut (pe_tup (pa_const [.str "end"] (by rfl)))) pa_nil))))))))
      (pss_one (ps_ret (pe_ix ix_list (pv 3) (pe_def (D_next) hr rfl (pac (pv 1) (pac pe_int pa_nil))) (fun _ _ => rfl)))))))))), ?_⟩
  refine ⟨_, rfl, p, 6, rfl, g, by decide, fun kd H1 s0 s1 e1 => ?_⟩
  have g1 := e1.gen
  have hv1 : Pl H1 n v := hv.ext g e1
  have n1 := hv1.pos
  -- a tuple
  refine ⟨fun t H' => H1 = H' ∧ (t = true → ∃ (m : Nat) (a : Addr) (xs : List V), n = m + 1 ∧ v = .ref a ∧ H1 a = some (.tup xs) ∧ xs.length ≤ 50 ∧ ∀ x ∈ xs, Pl H1 m x), ?_, ?_⟩
  · refine ⟨_, rfl, _, _, rfl, rfl, _, rfl, ite2 (fun _ => ?_) (fun _ => ⟨rfl, fun z => by cases z⟩)⟩
    rcases hv1.kind with ⟨i, _, ty, _⟩ | ⟨x, _, ty, _⟩ | ⟨m, a, xs, r1, r2, ty, r3⟩
    · exact ⟨_, rfl, v, "tuple", _, rfl, ty, by simp, _, rfl, rfl, fun z => absurd z (by decide)⟩
    · exact ⟨_, rfl, v, "tuple", _, rfl, ty, by simp, _, rfl, rfl, fun z => absurd z (by decide)⟩
    · exact ⟨_, rfl, v, "tuple", _, rfl, ty, by simp, _, rfl, rfl, fun _ => ⟨m, a, xs, r1, r2, r3⟩⟩
  rintro t H' ⟨rfl, ht⟩
  refine ite2 (fun ct => ?_) (fun _ => ?_)
  · obtain ⟨m, a, xs, rfl, rfl, ha, hl, hx⟩ := ht ct
    have tupOf : ∀ (H2 : Hp), Gen p H2 → H2 a = some (.tup xs) ∧ (∀ x ∈ xs, Pl H2 m x) → ∀ H3, Ext p H2 H3 → H3 a = some (.tup xs) ∧ ∀ x ∈ xs, Pl H3 m x := fun H2 g2 p0 H3 e3 => ⟨e3.tup g2 p0.1, fun x h => (p0.2 x h).ext g2 e3⟩
    have sub : ∀ (H2 : Hp) (b : Addr) (ys : List V), H2 b = some (.tup ys) → ys.length ≤ 120 → (∀ y ∈ ys, y ∈ xs ∨ y = .int 0) → (∀ x ∈ xs, Pl H2 m x) → Dt p H2 (m + 3) (.ref b) := fun H2 b ys hb hlen hy hp => Dt.tup hb hlen fun y h => by
      rcases hy y h with z | z
      · exact ((hp y z).dt).up (by omega)
      · rw [z]; exact trivial
    have l3 : (120 : Nat) ≤ sizeLine := by decide
    refine asg_lst (GoodA.use (p := p) (k := m + 3) (P0 := fun H2 => H2 a = some (.tup xs) ∧ ∀ x ∈ xs, Pl H2 m x) (.cons ?_ (.cons ?_ (.cons ?_ (.cons ?_ (.cons ?_ (.cons ?_ (.cons ?_ (.cons ?_ .nil)))))))) (fun H2 H3 g2 e3 p0 => tupOf H2 g2 p0 H3 e3) g1 ⟨ha, hx⟩ ?_)
    · rintro H2 g2 ⟨ha2, hx2⟩
      refine ⟨_, rfl, a, xs, rfl, .inr (SqT.of ha2), fun b hb => ⟨Ext.new g2 hb _, Dt.lst upd_same (g2.ne hb) (by omega) fun x h => ?_⟩⟩
      exact (((hx2 x h).ext g2 (Ext.new g2 hb _)).dt).up (by omega)
    · rintro H2 g2 ⟨ha2, hx2⟩
      refine ⟨_, rfl, 1, rfl, -1, rfl, .inl ⟨a, xs, rfl, ha2, fun b H3 e3 hb => ?_⟩⟩
      exact ⟨Same.ext g2 e3, sub H3 b _ hb (by have := cutV_length xs none (some (-1)); omega) (fun y h => .inl (mem_cut h)) fun x h => (hx2 x h).ext g2 (Same.ext g2 e3)⟩
    · rintro H2 g2 ⟨ha2, hx2⟩
      refine ⟨_, rfl, _, rfl, 1, rfl, -1, rfl, a, xs, rfl, ha2, fun b H3 e3 hb => ?_⟩
      have hlen := cutV_length xs (some (-1)) none
      refine ⟨a, b, xs, _, rfl, rfl, e3 _ _ ha2, hb, by omega, fun c H4 e4 hc => ?_⟩
      have e24 := Same.ext g2 (e3.trans e4)
      exact ⟨e24, sub H4 c _ hc (by rw [List.length_append]; omega) (fun y h => .inl ((List.mem_append.mp h).elim id mem_cut)) fun x h => (hx2 x h).ext g2 e24⟩
    · rintro H2 g2 ⟨ha2, hx2⟩
      refine ⟨_, rfl, 1, rfl, rfl, a, xs, rfl, ha2, fun b hb => ?_⟩
      exact ⟨Ext.new g2 hb _, sub _ b _ upd_same (by rw [List.length_reverse]; omega) (fun y h => .inl (List.mem_reverse.mp h)) fun x h => (hx2 x h).ext g2 (Ext.new g2 hb _)⟩
    · rintro H2 g2 ⟨ha2, hx2⟩
      exact ⟨(by show 0 ≤ sizeLine; decide), fun b hb => ⟨Ext.new g2 hb _, Dt.tup upd_same (by show 0 ≤ 120; decide) fun x h => by cases h⟩⟩
    · rintro H2 g2 ⟨ha2, hx2⟩
      refine ⟨_, rfl, 1, rfl, .inl ⟨a, xs, rfl, ha2, fun b H3 e3 hb => ?_⟩⟩
      exact ⟨Same.ext g2 e3, sub H3 b _ hb (by have := cutV_length xs (some 1) none; omega) (fun y h => .inl (mem_cut h)) fun x h => (hx2 x h).ext g2 (Same.ext g2 e3)⟩
    · rintro H2 g2 ⟨ha2, hx2⟩
      refine ⟨_, rfl, (by show 1 ≤ sizeLine; decide), fun b hb => ?_⟩
      have e3 := Ext.new g2 hb (.tup [.int 0])
      refine ⟨a, b, xs, [.int 0], rfl, rfl, e3.tup g2 ha2, upd_same, (by show xs.length + 1 ≤ sizeLine; omega), fun c H4 e4 hc => ?_⟩
      have e24 := e3.trans (Same.ext e3.gen e4)
      exact ⟨e24, sub H4 c _ hc (by rw [List.length_append]; show xs.length + 1 ≤ 120; omega) (fun y h => (List.mem_append.mp h).elim .inl fun z => .inr (List.mem_singleton.mp z)) fun x h => (hx2 x h).ext g2 e24⟩
    · rintro H2 g2 ⟨ha2, hx2⟩
      refine ⟨_, rfl, (by show 1 ≤ sizeLine; decide), fun b hb => ⟨Ext.new g2 hb _, Dt.tup upd_same (by show 1 ≤ 120; decide) fun x h => ?_⟩⟩
      rw [List.mem_singleton.mp h]
      have e3 := Ext.new g2 hb (.tup [.ref a])
      exact Dt.tup (n := m + 1) (e3.tup g2 ha2) (by omega) fun y h => (((hx2 y h).ext g2 e3).dt).up (by omega)
    intro vs H2 e2 hlen hvs
    refine ⟨(by rw [hlen]; decide), fun u hu => ?_⟩
    have e3 : Ext p H2 (upd H2 u (.lst vs)) := Ext.new e2.gen hu _
    have up := e2.gen.ne hu
    refine ⟨(by show 12 ≤ sizeLine; decide), fun u2 hu2 => ?_⟩
    have e4 : Ext p _ (upd (upd H2 u (.lst vs)) u2 (.lst (twelve.map V.str))) := Ext.new e3.gen hu2 _
    refine ⟨_, rfl, _, rfl, _, rfl, p, 12, rfl, e4.gen, by decide, fun r H5 r0 r1 e5 => ?_⟩
    obtain ⟨x, hx5, hxm⟩ := at_str (ns := twelve) r0 r1
    refine ⟨u2, _, r, _, rfl, rfl, SqL.of (e5.but u2 _ (e3.gen.ne hu2) upd_same), hx5, (by show 1 ≤ sizeLine; decide), fun c hc => ?_⟩
    have e6 : Ext p H5 (upd H5 c (.tup [.str x])) := Ext.new e5.gen hc _
    have e26 := e2.trans (e3.trans (e4.trans (e5.trans e6)))
    obtain ⟨ha6, hx6⟩ := tupOf H1 g1 ⟨ha, hx⟩ _ e26
    refine ⟨_, rfl, 1, rfl, .inl ⟨a, xs, rfl, ha6, fun b H7 s7 hb => ?_⟩⟩
    have hl7 := cutV_length xs (some 1) none
    refine ⟨c, b, _, _, rfl, rfl, s7 _ _ upd_same, hb, (by show 1 + (cutV xs (some 1) none).length ≤ sizeLine; omega), fun c2 H8 s8 hc2 => ?_⟩
    refine ⟨(by show 1 ≤ sizeLine; decide), fun u3 hu3 => ?_⟩
    have e8 : Ext p _ H8 := Same.ext e6.gen (s7.trans s8)
    have e9 : Ext p H8 (upd H8 u3 (.lst [.ref c2])) := Ext.new e8.gen hu3 _
    refine ⟨u3, 4, _, rfl, rfl, upd_same, by decide, by decide, (by show 1 * 4 ≤ sizeLine; decide), fun u4 hu4 => ?_⟩
    have e10 : Ext p _ (upd (upd H8 u3 (.lst [.ref c2])) u4 (.lst [.ref c2, .ref c2, .ref c2, .ref c2])) := Ext.new e9.gen hu4 _
    have hu10 : (upd (upd H8 u3 (.lst [.ref c2])) u4 (.lst [.ref c2, .ref c2, .ref c2, .ref c2])) u = some (.lst vs) := (e4.trans (e5.trans (e6.trans (e8.trans (e9.trans e10))))).but u _ up upd_same
    refine ⟨u, u4, vs, _, rfl, rfl, hu10, upd_same, (by rw [hlen]; show 8 + 4 ≤ sizeLine; decide), fun u5 hu5 => ?_⟩
    have e11 : Ext p _ (upd (upd (upd H8 u3 (.lst [.ref c2])) u4 (.lst [.ref c2, .ref c2, .ref c2, .ref c2])) u5 (.lst (vs ++ [.ref c2, .ref c2, .ref c2, .ref c2]))) := Ext.new e10.gen hu5 _
    refine ⟨_, rfl, p, 12, rfl, e11.gen, by decide, fun r2 H12 k0 k1 e12 => ?_⟩
    have hl12 : ((vs ++ [V.ref c2, .ref c2, .ref c2, .ref c2]).length : Int) = 12 := by rw [List.length_append, hlen]; rfl
    obtain ⟨y, hy, hym⟩ := at_mem (xs := vs ++ [V.ref c2, .ref c2, .ref c2, .ref c2]) k0 (by rw [hl12]; exact k1)
    refine ⟨u5, _, r2, y, rfl, rfl, SqL.of (e12.but u5 _ (e10.gen.ne hu5) upd_same), hy, ?_⟩
    have eAll : Ext p H2 H12 := e3.trans (e4.trans (e5.trans (e6.trans (e8.trans (e9.trans (e10.trans (e11.trans e12)))))))
    refine q _ _ (e1.trans (e2.trans eAll)) ?_
    rcases List.mem_append.mp hym with h | h
    · exact (hvs y h).ext e2.gen eAll
    · have hyc : y = .ref c2 := by simpa using h
      subst hyc
      have e812 : Ext p H8 H12 := e9.trans (e10.trans (e11.trans e12))
      have hx10 : x.length ≤ 10 := (show ∀ x ∈ twelve, x.length ≤ 10 by decide +kernel) x hxm
      refine (Dt.tup (n := m + 2) hc2 (by rw [List.length_append]; show 1 + (cutV xs (some 1) none).length ≤ 120; omega) fun z hz => ?_).ext e8.gen e812
      rcases List.mem_append.mp hz with hz | hz
      · rw [List.mem_singleton.mp hz]; show x.length ≤ 100; omega
      · exact (((hx6 z (mem_cut hz)).ext e6.gen e8).dt).up (by omega)
  -- a number
  refine ⟨fun t H' => H1 = H' ∧ (t = true → ∃ i : Int, v = .int i ∧ 0 ≤ i ∧ i < 1000000), ?_, ?_⟩
  · refine ⟨_, rfl, _, _, rfl, rfl, _, rfl, ite2 (fun _ => ?_) (fun _ => ⟨rfl, fun z => by cases z⟩)⟩
    rcases hv1.kind with ⟨i, r1, ty, r2⟩ | ⟨x, _, ty, _⟩ | ⟨m, a, xs, _, _, ty, _⟩
    · exact ⟨_, rfl, v, "int", _, rfl, ty, by simp, _, rfl, rfl, fun _ => ⟨i, r1, r2⟩⟩
    · exact ⟨_, rfl, v, "int", _, rfl, ty, by simp, _, rfl, rfl, fun z => absurd z (by decide)⟩
    · exact ⟨_, rfl, v, "int", _, rfl, ty, by simp, _, rfl, rfl, fun z => absurd z (by decide)⟩
  rintro t2 H' ⟨rfl, ht2⟩
  refine ite2 (fun ct => ?_) (fun _ => ?_)
  · obtain ⟨i, rfl, i0, i1⟩ := ht2 ct
    refine ret_lst (GoodA.use (p := p) (k := n + 2) (P0 := fun _ => True) (.cons ?_ (.cons ?_ (.cons ?_ (.cons ?_ (.cons ?_ (.cons ?_ .nil)))))) (fun _ _ _ _ h => h) g1 trivial ?_)
    · exact fun H2 g2 _ => ⟨_, rfl, rfl, Ext.refl g2, trivial⟩
    · exact fun H2 g2 _ => ⟨_, rfl, _, rfl, _, _, rfl, rfl, Ext.refl g2, trivial⟩
    · exact fun H2 g2 _ => ⟨_, rfl, _, _, rfl, rfl, Ext.refl g2, trivial⟩
    · exact fun H2 g2 _ => ⟨_, rfl, _, _, rfl, rfl, Ext.refl g2, trivial⟩
    · intro H2 g2 _
      have hlog : i.natAbs.log2 < 1920 := by
        have h1 : i.natAbs < 2 ^ 1920 := Nat.lt_of_lt_of_le (show i.natAbs < 1000000 by omega) (by decide)
        by_cases hz : i.natAbs = 0
        · rw [hz]; decide
        · exact (Nat.log2_lt hz).mpr h1
      refine ⟨_, rfl, i, rfl, hlog, Ext.refl g2, ?_⟩
      show (Str.ofString (toString i)).length ≤ 100
      exact num_len i0 i1
    · exact fun H2 g2 _ => ⟨Ext.refl g2, trivial⟩
    intro vs H2 e2 hlen hvs
    refine ⟨(by rw [hlen]; decide), fun u hu => ?_⟩
    have e3 : Ext p H2 (upd H2 u (.lst vs)) := Ext.new e2.gen hu _
    refine ⟨_, rfl, p, 6, rfl, e3.gen, by decide, fun r H4 r0 r1 e4 => ?_⟩
    obtain ⟨y, hy, hym⟩ := at_mem (xs := vs) r0 (by rw [hlen]; exact r1)
    refine ⟨u, _, r, y, rfl, rfl, SqL.of (e4.but u _ (e2.gen.ne hu) upd_same), hy, ?_⟩
    exact q _ _ (e1.trans (e2.trans (e3.trans e4))) ((hvs y hym).ext e2.gen (e3.trans e4))
  -- a text
  refine ⟨fun t H' => H1 = H' ∧ (t = true → ∃ x : Str, v = .str x ∧ x.length ≤ 10), ?_, ?_⟩
  · refine ⟨_, rfl, _, _, rfl, rfl, _, rfl, ite2 (fun _ => ?_) (fun _ => ⟨rfl, fun z => by cases z⟩)⟩
    rcases hv1.kind with ⟨i, r1, ty, r2⟩ | ⟨x, r1, ty, r2⟩ | ⟨m, a, xs, _, _, ty, _⟩
    · exact ⟨_, rfl, v, "str", _, rfl, ty, by simp, _, rfl, rfl, fun z => absurd z (by decide)⟩
    · exact ⟨_, rfl, v, "str", _, rfl, ty, by simp, _, rfl, rfl, fun _ => ⟨x, r1, r2⟩⟩
    · exact ⟨_, rfl, v, "str", _, rfl, ty, by simp, _, rfl, rfl, fun z => absurd z (by decide)⟩
  rintro t3 H' ⟨rfl, ht3⟩
  refine ite2 (fun ct => ?_) (fun _ => ?_)
  · obtain ⟨x, rfl, hx⟩ := ht3 ct
    have l3 : (100 : Nat) ≤ sizeLine := by decide
    have txt : ∀ {H2 : Hp} {y : Str}, y.length ≤ 100 → Dt p H2 (n + 2) (.str y) := fun h => h
    refine asg_lst (GoodA.use (p := p) (k := n + 2) (P0 := fun _ => True) (.cons ?_ (.cons ?_ (.cons ?_ (.cons ?_ (.cons ?_ (.cons ?_ .nil)))))) (fun _ _ _ _ h => h) g1 trivial ?_)
    · exact fun H2 g2 _ => ⟨_, rfl, x, "b", rfl, rfl, (by have : ("b" : Str).length = 1 := by decide +kernel
                                                          omega), Ext.refl g2, txt (by rw [len_append]; have : ("b" : Str).length = 1 := by decide +kernel
                                                                                       omega)⟩
    · exact fun H2 g2 _ => ⟨_, rfl, 1, rfl, .inr ⟨x, rfl, by omega, fun y hy => ⟨Ext.refl g2, txt (by omega)⟩⟩⟩
    · exact fun H2 g2 _ => ⟨_, rfl, x, " ", rfl, rfl, (by have : (" " : Str).length = 1 := by decide +kernel
                                                          omega), Ext.refl g2, txt (by rw [len_append]; have : (" " : Str).length = 1 := by decide +kernel
                                                                                       omega)⟩
    · exact fun H2 g2 _ => ⟨_, rfl, rfl, x, rfl, rfl, by omega, fun y hy => ⟨Ext.refl g2, txt (by omega)⟩⟩
    · exact fun H2 g2 _ => ⟨_, rfl, x, "abcdef", rfl, rfl, (by have : ("abcdef" : Str).length = 6 := by decide +kernel
                                                               omega), Ext.refl g2, txt (by rw [len_append]; have : ("abcdef" : Str).length = 6 := by decide +kernel
                                                                                            omega)⟩
    · exact fun H2 g2 _ => ⟨_, rfl, 1, rfl, -1, rfl, .inr ⟨x, rfl, by omega, fun y hy => ⟨y, "_", rfl, rfl, (by have : ("_" : Str).length = 1 := by decide +kernel
                                                                                                                omega), Ext.refl g2, txt (by rw [len_append]; have : ("_" : Str).length = 1 := by decide +kernel
                                                                                                                                             omega)⟩⟩⟩
    intro vs H2 e2 hlen hvs
    refine ⟨(by rw [hlen]; decide), fun u hu => ?_⟩
    have e3 : Ext p H2 (upd H2 u (.lst vs)) := Ext.new e2.gen hu _
    refine ⟨_, rfl, (by show 4 ≤ sizeLine; decide), fun u2 hu2 => ?_⟩
    have e4 : Ext p _ (upd (upd H2 u (.lst vs)) u2 (.lst [.str "zz", .str "pop", .str "over", .str "fail"])) := Ext.new e3.gen hu2 _
    refine ⟨u, u2, vs, [.str "zz", .str "pop", .str "over", .str "fail"], rfl, rfl, e4.but u _ (e2.gen.ne hu) upd_same, upd_same, (by rw [hlen]; show 6 + 4 ≤ sizeLine; decide), fun u3 hu3 => ?_⟩
    have e5 : Ext p _ (upd (upd (upd H2 u (.lst vs)) u2 (.lst [.str "zz", .str "pop", .str "over", .str "fail"])) u3 (.lst (vs ++ [.str "zz", .str "pop", .str "over", .str "fail"]))) := Ext.new e4.gen hu3 _
    refine ⟨_, rfl, p, 10, rfl, e5.gen, by decide, fun r H6 r0 r1 e6 => ?_⟩
    have hl6 : ((vs ++ [V.str "zz", .str "pop", .str "over", .str "fail"]).length : Int) = 10 := by rw [List.length_append, hlen]; rfl
    obtain ⟨y, hy, hym⟩ := at_mem (xs := vs ++ [V.str "zz", .str "pop", .str "over", .str "fail"]) r0 (by rw [hl6]; exact r1)
    refine ⟨u3, _, r, y, rfl, rfl, SqL.of (e6.but u3 _ (e4.gen.ne hu3) upd_same), hy, ?_⟩
    have eA : Ext p H2 H6 := e3.trans (e4.trans (e5.trans e6))
    refine q _ _ (e1.trans (e2.trans eA)) ?_
    rcases List.mem_append.mp hym with h | h
    · exact (hvs y h).ext e2.gen eA
    · simp only [List.mem_cons, List.not_mem_nil, or_false] at h
      rcases h with rfl | rfl | rfl | rfl <;> exact txt (by decide +kernel)
  -- whatever
  obtain ⟨m, rfl⟩ : ∃ m, n = m + 1 := ⟨n - 1, by omega⟩
  have txt : ∀ {H2 : Hp} {y : Str}, y.length ≤ 100 → Dt p H2 (m + 3) (.str y) := fun h => h
  have txt1 : ∀ {H2 : Hp} {y : Str}, y.length ≤ 100 → Dt p H2 (m + 1) (.str y) := fun h => h
  have txt2 : ∀ {H2 : Hp} {y : Str}, y.length ≤ 100 → Dt p H2 (m + 2) (.str y) := fun h => h
  refine asg_lst (GoodA.use (p := p) (k := m + 3) (P0 := fun _ => True) (.cons ?_ (.cons ?_ (.cons ?_ (.cons ?_ (.cons ?_ (.cons ?_ (.cons ?_ (.cons ?_ (.cons ?_ (.cons ?_ (.cons ?_ (.cons ?_ (.cons ?_ (.cons ?_ (.cons ?_ (.cons ?_ .nil)))))))))))))))) (fun _ _ _ _ h => h) g1 trivial ?_)
  · exact fun H2 g2 _ => ⟨Ext.refl g2, trivial⟩
  · exact fun H2 g2 _ => ⟨Ext.refl g2, trivial⟩
  · exact fun H2 g2 _ => ⟨_, rfl, Ext.refl g2, trivial⟩
  · exact fun H2 g2 _ => ⟨Ext.refl g2, trivial⟩
  · exact fun H2 g2 _ => ⟨Ext.refl g2, trivial⟩
  · exact fun H2 g2 _ => ⟨Ext.refl g2, trivial⟩
  · exact fun H2 g2 _ => ⟨10, 30, rfl, rfl, ⟨by decide, by decide, by decide⟩, Ext.refl g2, trivial⟩
  · exact fun H2 g2 _ => ⟨Ext.refl g2, txt (by decide +kernel)⟩
  · exact fun H2 g2 _ => ⟨Ext.refl g2, txt (by decide +kernel)⟩
  · exact fun H2 g2 _ => ⟨Ext.refl g2, txt (by decide +kernel)⟩
  · exact fun H2 g2 _ => ⟨Ext.refl g2, txt (by decide +kernel)⟩
  · exact fun H2 g2 _ => ⟨Ext.refl g2, txt (by decide +kernel)⟩
  · exact fun H2 g2 _ => ⟨(by show 0 ≤ sizeLine; decide), fun b hb => ⟨Ext.new g2 hb _, Dt.tup upd_same (by show 0 ≤ 120; decide) fun x h => by cases h⟩⟩
  · exact fun H2 g2 _ => ⟨(by show 0 ≤ sizeLine; decide), fun b hb => ⟨Ext.new g2 hb _, Dt.lst upd_same (g2.ne hb) (by show 0 ≤ 120; decide) fun x h => by cases h⟩⟩
  · exact fun H2 g2 _ => ⟨(by show 2 ≤ sizeLine; decide), fun b hb => ⟨Ext.new g2 hb _, Dt.tup upd_same (by show 2 ≤ 120; decide) fun x h => by
      simp only [List.mem_cons, List.not_mem_nil, or_false] at h
      rcases h with rfl | rfl
      · exact txt2 (by decide +kernel)
      · exact trivial⟩⟩
  · exact fun H2 g2 _ => fun b hb => ⟨Ext.new g2 hb _, .inr (.inr upd_same)⟩
  intro vs H2 e2 hlen hvs
  refine ⟨(by rw [hlen]; decide), fun u hu => ?_⟩
  have e3 : Ext p H2 (upd H2 u (.lst vs)) := Ext.new e2.gen hu _
  refine ⟨_, rfl, lst_open (GoodA.use (p := p) (k := m + 3) (P0 := fun _ => True) (.cons ?_ (.cons ?_ (.cons ?_ (.cons ?_ (.cons ?_ .nil))))) (fun _ _ _ _ h => h) e3.gen trivial ?_)⟩
  · exact fun H2 g2 _ => ⟨(by show 2 ≤ sizeLine; decide), fun b hb => ⟨Ext.new g2 hb _, Dt.tup upd_same (by show 2 ≤ 120; decide) fun x h => by
      simp only [List.mem_cons, List.not_mem_nil, or_false] at h
      rcases h with rfl | rfl
      · exact txt2 (by decide +kernel)
      · exact trivial⟩⟩
  · exact fun H2 g2 _ => ⟨(by show 2 ≤ sizeLine; decide), fun b hb => ⟨Ext.new g2 hb _, Dt.tup upd_same (by show 2 ≤ 120; decide) fun x h => by
      simp only [List.mem_cons, List.not_mem_nil, or_false] at h
      rcases h with rfl | rfl
      · exact txt2 (by decide +kernel)
      · exact txt2 (by decide +kernel)⟩⟩
  · exact fun H2 g2 _ => ⟨(by show 2 ≤ sizeLine; decide), fun b hb => ⟨(by show 2 ≤ sizeLine; decide), fun c hc => ⟨(Ext.new g2 hb _).trans (Ext.new (Ext.new g2 hb _).gen hc _), Dt.tup upd_same (by show 2 ≤ 120; decide) fun x h => by
      simp only [List.mem_cons, List.not_mem_nil, or_false] at h
      rcases h with rfl | rfl
      · exact txt2 (by decide +kernel)
      · refine Dt.tup (n := m + 1) (xs := [.str "number", .int 1]) (by rw [upd_ne (ne_of_none (o := .tup [.str "number", .int 1]) upd_same hc)]; exact upd_same) (by show 2 ≤ 120; decide) fun x h => ?_
        simp only [List.mem_cons, List.not_mem_nil, or_false] at h
        rcases h with rfl | rfl
        · exact txt1 (by decide +kernel)
        · exact trivial⟩⟩⟩
  · exact fun H2 g2 _ => ⟨(by show 2 ≤ sizeLine; decide), fun b hb => ⟨(by show 2 ≤ sizeLine; decide), fun c hc => ⟨(Ext.new g2 hb _).trans (Ext.new (Ext.new g2 hb _).gen hc _), Dt.tup upd_same (by show 2 ≤ 120; decide) fun x h => by
      simp only [List.mem_cons, List.not_mem_nil, or_false] at h
      rcases h with rfl | rfl
      · exact txt2 (by decide +kernel)
      · refine Dt.tup (n := m + 1) (xs := [.str "number", .int 1]) (by rw [upd_ne (ne_of_none (o := .tup [.str "number", .int 1]) upd_same hc)]; exact upd_same) (by show 2 ≤ 120; decide) fun x h => ?_
        simp only [List.mem_cons, List.not_mem_nil, or_false] at h
        rcases h with rfl | rfl
        · exact txt1 (by decide +kernel)
        · exact trivial⟩⟩⟩
  · exact fun H2 g2 _ => ⟨(by show 1 ≤ sizeLine; decide), fun b hb => ⟨Ext.new g2 hb _, Dt.tup upd_same (by show 1 ≤ 120; decide) fun x h => by
      simp only [List.mem_cons, List.not_mem_nil, or_false] at h
      subst h
      exact txt2 (by decide +kernel)⟩⟩
  intro ws H4 e4 hlen4 hws
  refine ⟨(by rw [hlen4]; decide), fun u2 hu2 => ?_⟩
  have e5 : Ext p H4 (upd H4 u2 (.lst ws)) := Ext.new e4.gen hu2 _
  refine ⟨u, u2, vs, ws, rfl, rfl, (e4.trans e5).but u _ (e2.gen.ne hu) upd_same, upd_same, (by rw [hlen, hlen4]; show 16 + 5 ≤ sizeLine; decide), fun u3 hu3 => ?_⟩
  have e6 : Ext p _ (upd (upd H4 u2 (.lst ws)) u3 (.lst (vs ++ ws))) := Ext.new e5.gen hu3 _
  refine ⟨_, rfl, _, rfl, p, 21, rfl, e6.gen, by decide, fun r H7 r0 r1 e7 => ?_⟩
  have hl7 : ((vs ++ ws).length : Int) = 21 := by rw [List.length_append, hlen, hlen4]; rfl
  obtain ⟨y, hy, hym⟩ := at_mem (xs := vs ++ ws) r0 (by rw [hl7]; exact r1)
  refine ⟨u3, _, r, y, rfl, rfl, SqL.of (e7.but u3 _ (e5.gen.ne hu3) upd_same), hy, ?_⟩
  have e47 : Ext p H4 H7 := e5.trans (e6.trans e7)
  refine q _ _ (e1.trans (e2.trans (e3.trans (e4.trans e47)))) ?_
  rcases List.mem_append.mp hym with h | h
  · exact (hvs y h).ext e2.gen (e3.trans (e4.trans e47))
  · exact (hws y h).ext e4.gen e47
end
end K03

set_option Elab.async false
set_option linter.all false
set_option maxRecDepth 100000
set_option maxHeartbeats 4000000
namespace K03
open PySem L2
seal L2.PE L2.PS L2.PSs L2.PT L2.PW L2.PA L2.PG L2.PGs L2.PI L2.PO L2.PIfs L2.PC L2.OpR L2.CallR L2.IxR L2.SlR L2.PSet L2.UnR
theorem ifT {c : Bool} {A B : Prop} (h : c = true) (x : A) : if c = true then A else B := by rw [if_pos h]; exact x
theorem ifF {c : Bool} {A B : Prop} (h : c = false) (x : B) : if c = true then A else B := by rw [if_neg (by rw [h]; exact Bool.false_ne_true)]; exact x

section
variable {P : Program} {w : World} {K : PySem.W.Frag} {mg : Str → Option Value} {base : Heap}
/-! ### _law_spoilt -/
theorem sc_spoilt : FnScope ["_law_thing", "_law_state_here", "_law_at"] ["_law_thing", "_law_state_here"] (defScope (top 35)) := ⟨rfl, rfl, rfl, by decide +kernel, rfl, by decide +kernel, by decide +kernel⟩
def spSpoilt (n : Nat) : Sp := fun vs H Q _ => ∃ (v : V) (p : Addr) (m : Nat), vs = [v, .ref p] ∧ Gen p H ∧ Pl H m v ∧ m ≤ n ∧ ∀ (r : V) (H' : Hp), Ext p H H' → Dt p H' (m + 2) r → Q r H'
theorem d_spoilt1 {n : Nat} (T : Txt w K mg) (D_next : Def P w K mg base 1 "_law_next" ["_law_state_here", "_law_size"] spNext) (D_odd : Def P w K mg base 2 "_law_odd" ["_law_thing", "_law_state_here"] spOdd) (S : Src K mg "_law_spoilt" (top 35) ["_law_thing", "_law_state_here"])
    (IH : Def P w K mg base (n + 3) "_law_spoilt" ["_law_thing", "_law_state_here"] (spSpoilt n)) : Def P w K mg base (n + 4) "_law_spoilt" ["_law_thing", "_law_state_here"] (spSpoilt (n + 1)) := by
  refine S.ok sc_spoilt (fun vs H Q E h => ?_) (fun f cdv A outer s H vs Q E hr h => ?_)
  · obtain ⟨v, p, m, rfl, _⟩ := h; rfl
  obtain ⟨v, p, m, rfl, g, hv, hm, q⟩ := h
  refine ⟨_, (pss_cons (ps_if (pt_cut (PW.pt (pw_or (pt_not (pt_val (pe_cB call_isi rfl T.z_isinstance bt_isinstance (pac (pv 0) (pac (pe_ty T.z_tuple bt_tuple rfl) pa_nil))))) (pw_or (pt_cmpR (op_eqT0 hr.units0) (pv 0) (pe_tup pa_nil) (nomark _)) (pw_or1 (pt_cmpR op_eq (pe_def (D_next.mono (Nat.le_add_left 1 _)) hr rfl (pac (pv 1) (pac pe_int pa_nil))) pe_int (nomark _)))))))
      (pss_one (ps_ret (pe_def (D_odd.mono (Nat.le_add_left 2 _)) hr rfl (pac (pv 0) (pac (pv 1) pa_nil))))) pss_nil)
      (pss_cons (ps_set (i := 2) sc_spoilt.nd rfl (Or.inl rfl) (pe_def (D_next.mono (Nat.le_add_left 1 _)) hr rfl (pac (pv 1) (pac (pe_cB call_len_seq rfl T.z_len bt_len (pac (pv 0) pa_nil)) pa_nil))))
      (pss_one (ps_ret (pe_op op_catTw (pe_op op_catTw (pe_slice sl_tupW (pv 0) po_none (po_some (pv 2))) (pe_tup (pac (pe_def (IH) hr rfl (pac (pe_ix ix_tup (pv 0) (pv 2) (fun _ _ => rfl)) (pac (pv 1) pa_nil))) pa_nil))) (pe_slice sl_tupW (pv 0) (po_some (pe_op op_add (pv 2) pe_int)) po_none)))))), ?_⟩
  refine ⟨fun t H' => Ext p H H' ∧ (t = false → ∃ (m' : Nat) (a : Addr) (xs : List V), m = m' + 1 ∧ v = .ref a ∧ H a = some (.tup xs) ∧ xs ≠ [] ∧ xs.length ≤ 50 ∧ ∀ x ∈ xs, Pl H m' x), ?_, ?_⟩
  · rcases hv.kind with ⟨i, r1, ty, r2⟩ | ⟨x, r1, ty, r2⟩ | ⟨m', a, xs, rfl, rfl, ty, ha, hl, hx⟩
    · exact ⟨_, rfl, v, "tuple", _, rfl, ty, by simp, _, rfl, ifT (by decide) ⟨Ext.refl g, fun z => by cases z⟩⟩
    · exact ⟨_, rfl, v, "tuple", _, rfl, ty, by simp, _, rfl, ifT (by decide) ⟨Ext.refl g, fun z => by cases z⟩⟩
    · refine ⟨_, rfl, _, "tuple", _, rfl, ty, by simp, _, rfl, ifF (by decide) ?_⟩
      refine ⟨_, rfl, (by show 0 ≤ sizeLine; decide), fun b hb => ?_⟩
      have e1 := Ext.new g hb (.tup [])
      refine ⟨a, b, xs, [], rfl, rfl, SqT.of (e1.tup g ha), SqT.of upd_same, .inr rfl, _, rfl, ite2 (fun c => ⟨e1, fun z => by cases z⟩) (fun c => ?_)⟩
      have hne : xs ≠ [] := fun z => c (by rw [z]; rfl)
      exact ⟨_, rfl, p, 4, rfl, e1.gen, by decide, fun r H2 r0 r1 e2 => ⟨rfl, _, rfl, e1.trans e2, fun _ => ⟨m', a, xs, rfl, rfl, ha, hne, hl, hx⟩⟩⟩
  rintro t H1 ⟨e1, h1⟩
  have g1 := e1.gen
  refine ite2 (fun _ => ?_) (fun ct => ?_)
  · exact ⟨_, rfl, _, rfl, v, p, m, rfl, g1, hv.ext g e1, fun r H2 e2 d2 => q r H2 (e1.trans e2) d2⟩
  obtain ⟨m', a, xs, rfl, rfl, ha, hne, hl, hx⟩ := h1 (by cases t with | false => rfl | true => exact absurd rfl ct)
  have ha1 := e1.tup g ha
  have hpos : 0 < xs.length := List.length_pos_iff.mpr hne
  refine ⟨_, rfl, _, rfl, a, _, rfl, .inr (SqT.of ha1), p, _, rfl, g1, by omega, fun k H2 k0 k1 e2 => ?_⟩
  have g2 := e2.gen
  have e02 := e1.trans e2
  have ha2 := e02.tup g ha
  obtain ⟨x, hxk, hxm⟩ := at_mem (xs := xs) k0 k1
  have l3 : (120 : Nat) ≤ sizeLine := by decide
  have c1 := cutV_length xs none (some k)
  have c2 := cutV_length xs (some (k + 1)) none
  refine ⟨_, rfl, _, rfl, k, rfl, a, xs, rfl, ha2, fun b1 H3 s3 hb1 => ?_⟩
  have e3 := Same.ext g2 s3
  have ha3 := e3.tup g2 ha2
  refine ⟨_, rfl, _, rfl, a, xs, k, x, rfl, rfl, SqT.of ha3, hxk, _, rfl, x, p, m', rfl, e3.gen, (hx x hxm).ext g (e02.trans e3), by omega, fun r H4 e4 d4 => ?_⟩
  refine ⟨(by show 1 ≤ sizeLine; decide), fun t1 ht1 => ?_⟩
  have e5 := Ext.new e4.gen ht1 (.tup [r])
  refine ⟨b1, t1, _, _, rfl, rfl, (e4.trans e5).tup e3.gen hb1, upd_same, (by show (cutV xs none (some k)).length + 1 ≤ sizeLine; omega), fun c H6 s6 hc => ?_⟩
  have e6 := Same.ext e5.gen s6
  have e36 := e4.trans (e5.trans e6)
  have ha6 := e36.tup e3.gen ha3
  refine ⟨_, rfl, _, rfl, _, _, rfl, rfl, _, rfl, a, xs, rfl, ha6, fun b2 H7 s7 hb2 => ?_⟩
  have e7 := Same.ext e6.gen s7
  refine ⟨c, b2, _, _, rfl, rfl, e7.tup e6.gen hc, hb2, (by rw [List.length_append]; show (cutV xs none (some k)).length + 1 + (cutV xs (some (k + 1)) none).length ≤ sizeLine; omega), fun d H8 s8 hd => ?_⟩
  have e8 := Same.ext e7.gen s8
  have e48 : Ext p H4 H8 := e5.trans (e6.trans (e7.trans e8))
  have e08 : Ext p H H8 := e02.trans (e3.trans (e4.trans e48))
  refine q _ _ e08 (Dt.tup (n := m' + 2) hd (by rw [List.length_append, List.length_append]; show (cutV xs none (some k)).length + 1 + (cutV xs (some (k + 1)) none).length ≤ 120; omega) fun y hy => ?_)
  rcases List.mem_append.mp hy with hy | hy
  · rcases List.mem_append.mp hy with hy | hy
    · exact (((hx y (mem_cut hy)).ext g e08).dt).up (by omega)
    · rw [List.mem_singleton.mp hy]
      exact d4.ext e4.gen e48
  · exact (((hx y (mem_cut hy)).ext g e08).dt).up (by omega)
theorem d_spoilt (T : Txt w K mg) (D_next : Def P w K mg base 1 "_law_next" ["_law_state_here", "_law_size"] spNext) (D_odd : Def P w K mg base 2 "_law_odd" ["_law_thing", "_law_state_here"] spOdd) (S : Src K mg "_law_spoilt" (top 35) ["_law_thing", "_law_state_here"]) :
    ∀ n : Nat, Def P w K mg base (n + 3) "_law_spoilt" ["_law_thing", "_law_state_here"] (spSpoilt n)
  | 0 => S.no fun vs H Q E h => by
    obtain ⟨v, p, m, _, _, h1, h2, _⟩ := h
    have := h1.pos
    omega
  | n + 1 => d_spoilt1 T D_next D_odd S (d_spoilt T D_next D_odd S n)

end
end K03

set_option Elab.async false
set_option linter.all false
set_option maxRecDepth 100000
set_option maxHeartbeats 4000000
namespace K03
open PySem L2
seal L2.PE L2.PS L2.PSs L2.PT L2.PW L2.PA L2.PG L2.PGs L2.PI L2.PO L2.PIfs L2.PC L2.OpR L2.CallR L2.IxR L2.SlR L2.PSet L2.UnR

/-! ### what both sides ask -/
def nmV : V → Bool
  | .str s => nmS s
  | _ => false
def numV : V → Bool
  | .int i => decide (0 ≤ i) && decide (i ≤ 999999)
  | _ => false
theorem Dt.kind {p : Addr} {H : Hp} {n : Nat} {v : V} (h : Dt p H n v) : (v = .non ∧ tyN H v = some "NoneType") ∨ (∃ b, v = .bl b ∧ tyN H v = some "bool") ∨ (∃ i, v = .int i ∧ tyN H v = some "int") ∨ (∃ x : Str, v = .str x ∧ tyN H v = some "str" ∧ x.length ≤ 100) ∨
    (∃ (m : Nat) (a : Addr) (xs : List V), n = m + 1 ∧ v = .ref a ∧ tyN H v = some "tuple" ∧ H a = some (.tup xs) ∧ xs.length ≤ 120 ∧ ∀ x ∈ xs, Dt p H m x) ∨
    (∃ (m : Nat) (a : Addr) (xs : List V), n = m + 1 ∧ v = .ref a ∧ tyN H v = some "list" ∧ H a = some (.lst xs) ∧ xs.length ≤ 120 ∧ ∀ x ∈ xs, Dt p H m x) ∨ (∃ a, v = .ref a ∧ tyN H v = some "dict" ∧ H a = some (.dK [])) := by
  cases n with
  | zero => exact h.elim
  | succ n =>
    cases v with
    | non => exact .inl ⟨rfl, rfl⟩
    | bl b => exact .inr (.inl ⟨b, rfl, rfl⟩)
    | int i => exact .inr (.inr (.inl ⟨i, rfl, rfl⟩))
    | str x => exact .inr (.inr (.inr (.inl ⟨x, rfl, rfl, h⟩)))
    | ref a =>
      rcases h with ⟨xs, h1, h2, h3⟩ | ⟨xs, h1, h0, h2, h3⟩ | h
      · exact .inr (.inr (.inr (.inr (.inl ⟨n, a, xs, rfl, rfl, by unfold tyN; dsimp only; rw [h1], h1, h2, h3⟩))))
      · exact .inr (.inr (.inr (.inr (.inr (.inl ⟨n, a, xs, rfl, rfl, by unfold tyN; dsimp only; rw [h1], h1, h2, h3⟩)))))
      · exact .inr (.inr (.inr (.inr (.inr (.inr ⟨a, rfl, by unfold tyN; dsimp only; rw [h], h⟩)))))
    | byt _ => exact h.elim
    | flt _ => exact h.elim
    | ty _ => exact h.elim
/-- a text, or none -/
theorem Dt.strOr {p : Addr} {H : Hp} {n : Nat} {v : V} (h : Dt p H n v) : ∃ t, tyN H v = some t ∧ ((∃ x : Str, v = .str x ∧ t = "str" ∧ x.length ≤ 100) ∨ (isiB t "str" = false ∧ nmV v = false ∧ ∀ x, v ≠ .str x)) := by
  rcases h.kind with ⟨rfl, ty⟩ | ⟨b, rfl, ty⟩ | ⟨i, rfl, ty⟩ | ⟨x, rfl, ty, hx⟩ | ⟨m, a, xs, _, rfl, ty, _⟩ | ⟨m, a, xs, _, rfl, ty, _⟩ | ⟨a, rfl, ty, _⟩
  · exact ⟨_, ty, .inr ⟨by decide, rfl, fun x z => by cases z⟩⟩
  · exact ⟨_, ty, .inr ⟨by decide, rfl, fun x z => by cases z⟩⟩
  · exact ⟨_, ty, .inr ⟨by decide, rfl, fun x z => by cases z⟩⟩
  · exact ⟨_, ty, .inl ⟨x, rfl, rfl, hx⟩⟩
  · exact ⟨_, ty, .inr ⟨by decide, rfl, fun x z => by cases z⟩⟩
  · exact ⟨_, ty, .inr ⟨by decide, rfl, fun x z => by cases z⟩⟩
  · exact ⟨_, ty, .inr ⟨by decide, rfl, fun x z => by cases z⟩⟩

section
variable {P : Program} {w : World} {K : PySem.W.Frag} {mg : Str → Option Value} {base : Heap}
/-! ### is_name -/
theorem sc_is_name : FnScope ["thing"] ["thing"] (defScope (top 14)) := ⟨rfl, rfl, rfl, by decide +kernel, rfl, by decide +kernel, by decide +kernel⟩
def spIsName : Sp := fun vs H Q _ => ∃ (v : V) (p : Addr) (n : Nat), vs = [v] ∧ Dt p H n v ∧ ∀ H', Same H H' → Q (.bl (nmV v)) H'
/-- the signs so far -/
theorem take_one {x : Str} {i c : Nat} (h : x.cps[i]? = some c) : x.cps.toList.take (i + 1) = x.cps.toList.take i ++ [c] := by
  rw [List.take_add_one]
  congr 1
  rw [Array.getElem?_toList, h]
  rfl
theorem d_is_name (T : Txt w K mg) (S : Src K mg "is_name" (top 14) ["thing"]) : Def P w K mg base 1 "is_name" ["thing"] spIsName := by
  obtain ⟨tm, v_MOST_LETTERS⟩ := T.most
  refine S.ok sc_is_name (fun vs H Q E h => ?_) (fun f cdv A outer s H vs Q E hr h => ?_)
  · obtain ⟨v, p, n, rfl, _⟩ := h; rfl
  obtain ⟨v, p, n, rfl, hv, q⟩ := h
  refine ⟨_, (pss_cons (ps_if (pt_not (pt_val (pe_cB call_isi rfl T.z_isinstance bt_isinstance (pac (pv 0) (pac (pe_ty T.z_str bt_str rfl) pa_nil)))))
      (pss_one (ps_ret pe_bl)) pss_nil)
      (pss_one (ps_ret (pe_and (pe_chain op_le op_le pe_int (pe_cB call_len_str rfl T.z_len bt_len (pac (pv 0) pa_nil)) (pe_glob (v := .int (6)) rfl v_MOST_LETTERS ⟨_, rfl⟩)) (pe_one (pe_cB (call_all_bl rfl) rfl T.z_all bt_all (pac (pe_comp (N' := ["sign"]) (comp_scope (defScope (top 14)) (by rfl) (by decide +kernel) (by decide +kernel) (by decide +kernel) (by decide +kernel) (by decide +kernel) (by decide +kernel)) rfl (capt 1 [] (by rfl) (by rfl) (by decide +kernel)) (pi_str (pv 0)) (fun _ _ _ => pg_name (i := 0) (show (["sign"] : List Str).Nodup by decide +kernel) rfl (Or.inl rfl) (Or.inr rfl)) (fun _ _ _ => pifs_nil) (fun _ _ _ => (pe_chain op_le_str op_le_str pe_str (pv 0) pe_str))) pa_nil))))))), ?_⟩
  obtain ⟨t, ty, ⟨x, rfl, rfl, hx⟩ | ⟨hf, hn, _⟩⟩ := hv.strOr
  · refine ⟨_, rfl, _, "str", _, rfl, ty, by simp, _, rfl, ifF (by decide) ?_⟩
    have l3 : (100 : Nat) < sizeLine := by decide
    have hcl : x.cps.toList.length = x.length := by simp [Str.length]
    refine ⟨_, rfl, x, rfl, by omega, _, _, rfl, rfl, _, rfl, ite2 (fun c1 => ?_) (fun c1 => ?_)⟩
    · refine ⟨_, _, rfl, rfl, _, rfl, ite2 (fun c2 => ?_) (fun c2 => ?_)⟩
      · refine ⟨_, rfl, x, rfl, fun acc hacc => ?_⟩
        refine ⟨fun i m σ2 ys H2 => m = x.cps.size - i ∧ i ≤ x.cps.size ∧ (∃ x0, σ2 = [x0]) ∧ ys = ((x.cps.toList.take i).map small).map V.bl ∧ H2 acc = some (.lst ys) ∧ Same H H2, ⟨_, rfl, Nat.zero_le _, ⟨_, rfl⟩, rfl, upd_same, same_of_new hacc _⟩, ?_⟩
        rintro i m σ2 ys H2 ⟨rfl, hi, ⟨x0, rfl⟩, rfl, ha, sm⟩
        refine ⟨ha, ?_⟩
        by_cases hlt : i < x.cps.size
        · refine .inr ⟨hlt, (by rw [List.length_map, List.length_map, List.length_take]; omega), ?_⟩
          rintro v H3 ⟨rfl, c, hc, rfl⟩
          have fin : ∀ b : Bool, b = small c → H3 acc = some (.lst (((x.cps.toList.take i).map small).map V.bl)) ∧ ∃ m', m' < x.cps.size - i ∧ m' = x.cps.size - (i + 1) ∧ i + 1 ≤ x.cps.size ∧ (∃ x0, [some (V.str ⟨#[c]⟩)] = [x0]) ∧
              ((x.cps.toList.take i).map small).map V.bl ++ [V.bl b] = ((x.cps.toList.take (i + 1)).map small).map V.bl ∧ (upd H3 acc (.lst (((x.cps.toList.take i).map small).map V.bl ++ [V.bl b]))) acc = some (.lst (((x.cps.toList.take i).map small).map V.bl ++ [V.bl b])) ∧ Same H (upd H3 acc (.lst (((x.cps.toList.take i).map small).map V.bl ++ [V.bl b]))) := fun b hb => by
            refine ⟨ha, _, by omega, rfl, hlt, ⟨_, rfl⟩, ?_, upd_same, fun b' o hb' => ?_⟩
            · rw [take_one hc, List.map_append, List.map_append, hb]; rfl
            · rw [upd_ne (ne_of_none hb' hacc)]; exact sm _ _ hb'
          refine ⟨_, rfl, _, _, rfl, rfl, _, rfl, ite2 (fun d1 => ?_) (fun d1 => ?_)⟩
          · rw [le_a] at d1
            refine ⟨_, _, rfl, rfl, ?_⟩
            refine fin _ ?_
            rw [le_z]
            unfold small
            rw [d1, Bool.true_and]
          · rw [le_a] at d1
            refine fin _ ?_
            unfold small
            rw [Bool.eq_false_iff.mpr d1, Bool.false_and]
        · have e : i = x.cps.size := by omega
          subst e
          refine .inl ⟨rfl, acc, (x.cps.toList.take x.cps.size).map small, rfl, SqL.of ha, ?_⟩
          have ez : nmV (.str x) = ((x.cps.toList.take x.cps.size).map small).all id := by
            show nmS x = _
            unfold nmS
            have hl1 : 1 ≤ x.length ∧ x.length ≤ 6 := by
              have a1 := of_decide_eq_true c1
              have a2 := of_decide_eq_true c2
              omega
            rw [decide_eq_true hl1, Bool.true_and, List.all_map, show x.cps.toList.take x.cps.size = x.cps.toList by rw [← Array.length_toList, List.take_length]]
            rfl
          rw [← ez]
          exact q _ sm
      · have c2' := Bool.eq_false_iff.mpr c2
        have ez : nmV (.str x) = false := by
          show nmS x = _
          unfold nmS
          rw [decide_eq_false (fun z => (of_decide_eq_false c2') (by omega)), Bool.false_and]
        rw [← ez]
        exact q _ (Same.refl H)
    · have c1' := Bool.eq_false_iff.mpr c1
      have ez : nmV (.str x) = false := by
        show nmS x = _
        unfold nmS
        rw [decide_eq_false (fun z => (of_decide_eq_false c1') (by omega)), Bool.false_and]
      refine ⟨_, rfl, iteF ?_⟩
      rw [← ez]
      exact q _ (Same.refl H)
  · refine ⟨_, rfl, _, "str", _, rfl, ty, by simp, _, rfl, ifT (by rw [hf]; rfl) ?_⟩
    have z := q H (Same.refl H)
    rw [hn] at z
    exact z
end
end K03

set_option Elab.async false
set_option linter.all false
set_option maxRecDepth 100000
set_option maxHeartbeats 4000000
namespace K03
open PySem L2
seal L2.PE L2.PS L2.PSs L2.PT L2.PW L2.PA L2.PG L2.PGs L2.PI L2.PO L2.PIfs L2.PC L2.OpR L2.CallR L2.IxR L2.SlR L2.PSet L2.UnR
section
variable {P : Program} {w : World} {K : PySem.W.Frag} {mg : Str → Option Value} {base : Heap}
/-! ### is_number -/
def wholeV (lo hi : Int) : V → Bool
  | .int i => decide (lo ≤ i) && decide (i ≤ hi)
  | _ => false
theorem Dt.intOr {p : Addr} {H : Hp} {n : Nat} {v : V} (h : Dt p H n v) : ∃ t, tyN H v = some t ∧ ((∃ i : Int, v = .int i ∧ t = "int") ∨ ((numV v = false ∧ ∀ lo hi, wholeV lo hi v = false) ∧ ((isiB t "bool" = true) ∨ (isiB t "bool" = false ∧ isiB t "int" = false)))) := by
  rcases h.kind with ⟨rfl, ty⟩ | ⟨b, rfl, ty⟩ | ⟨i, rfl, ty⟩ | ⟨x, rfl, ty, hx⟩ | ⟨m, a, xs, _, rfl, ty, _⟩ | ⟨m, a, xs, _, rfl, ty, _⟩ | ⟨a, rfl, ty, _⟩
  · exact ⟨_, ty, .inr ⟨⟨rfl, fun _ _ => rfl⟩, .inr ⟨by decide, by decide⟩⟩⟩
  · exact ⟨_, ty, .inr ⟨⟨rfl, fun _ _ => rfl⟩, .inl (by decide)⟩⟩
  · exact ⟨_, ty, .inl ⟨i, rfl, rfl⟩⟩
  · exact ⟨_, ty, .inr ⟨⟨rfl, fun _ _ => rfl⟩, .inr ⟨by decide, by decide⟩⟩⟩
  · exact ⟨_, ty, .inr ⟨⟨rfl, fun _ _ => rfl⟩, .inr ⟨by decide, by decide⟩⟩⟩
  · exact ⟨_, ty, .inr ⟨⟨rfl, fun _ _ => rfl⟩, .inr ⟨by decide, by decide⟩⟩⟩
  · exact ⟨_, ty, .inr ⟨⟨rfl, fun _ _ => rfl⟩, .inr ⟨by decide, by decide⟩⟩⟩
theorem sc_is_whole : FnScope ["thing", "least", "most"] ["thing", "least", "most"] (defScope (top 15)) := ⟨rfl, rfl, rfl, by decide +kernel, rfl, by decide +kernel, by decide +kernel⟩
def spWhole : Sp := fun vs H Q _ => ∃ (v : V) (p : Addr) (n : Nat) (lo hi : Int), vs = [v, .int lo, .int hi] ∧ Dt p H n v ∧ Q (.bl (wholeV lo hi v)) H
theorem d_is_whole (T : Txt w K mg) (S : Src K mg "is_whole" (top 15) ["thing", "least", "most"]) : Def P w K mg base 1 "is_whole" ["thing", "least", "most"] spWhole := by
  refine S.ok sc_is_whole (fun vs H Q E h => ?_) (fun f cdv A outer s H vs Q E hr h => ?_)
  · obtain ⟨v, p, n, lo, hi, rfl, _⟩ := h; rfl
  obtain ⟨v, p, n, lo, hi, rfl, hv, q⟩ := h
  refine ⟨_, (pss_cons (ps_if (pt_cut (PW.pt (pw_or (pt_val (pe_cB call_isi rfl T.z_isinstance bt_isinstance (pac (pv 0) (pac (pe_ty T.z_bool bt_bool rfl) pa_nil)))) (pw_or1 (pt_not (pt_val (pe_cB call_isi rfl T.z_isinstance bt_isinstance (pac (pv 0) (pac (pe_ty T.z_int bt_int rfl) pa_nil)))))))))
      (pss_one (ps_ret pe_bl)) pss_nil)
      (pss_one (ps_ret (pe_chain op_le op_le (pv 1) (pv 0) (pv 2))))), ?_⟩
  obtain ⟨t, ty, ⟨i, rfl, rfl⟩ | ⟨hn, hb | ⟨hb, hi'⟩⟩⟩ := hv.intOr
  · refine ⟨fun t H' => H = H' ∧ t = false, ?_, ?_⟩
    · exact ⟨_, rfl, _, "bool", _, rfl, ty, by simp, _, rfl, ifF (by decide) ⟨_, rfl, _, "int", _, rfl, ty, by simp, _, rfl, rfl, by decide⟩⟩
    rintro t H' ⟨rfl, rfl⟩
    refine ifF rfl ⟨_, rfl, _, rfl, _, _, rfl, rfl, _, rfl, ite2 (fun c1 => ?_) (fun c1 => ?_)⟩
    · refine ⟨_, rfl, _, _, rfl, rfl, ?_⟩
      have e : wholeV lo hi (.int i) = decide (i ≤ hi) := by show (decide (lo ≤ i) && decide (i ≤ hi)) = _; rw [c1, Bool.true_and]
      rw [e] at q
      exact q
    · have e : wholeV lo hi (.int i) = false := by show (decide (lo ≤ i) && decide (i ≤ hi)) = _; rw [Bool.eq_false_iff.mpr c1, Bool.false_and]
      rw [e] at q
      exact q
  · refine ⟨fun t H' => H = H' ∧ t = true, ⟨_, rfl, _, "bool", _, rfl, ty, by simp, _, rfl, ifT hb ⟨rfl, rfl⟩⟩, ?_⟩
    rintro t H' ⟨rfl, rfl⟩
    rw [hn.2 lo hi] at q
    exact ifT rfl q
  · refine ⟨fun t H' => H = H' ∧ t = true, ⟨_, rfl, _, "bool", _, rfl, ty, by simp, _, rfl, ifF hb ⟨_, rfl, _, "int", _, rfl, ty, by simp, _, rfl, rfl, by rw [hi']; rfl⟩⟩, ?_⟩
    rintro t H' ⟨rfl, rfl⟩
    rw [hn.2 lo hi] at q
    exact ifT rfl q
theorem sc_is_number : FnScope ["thing"] ["thing"] (defScope (top 16)) := ⟨rfl, rfl, rfl, by decide +kernel, rfl, by decide +kernel, by decide +kernel⟩
def spIsNum : Sp := fun vs H Q _ => ∃ (v : V) (p : Addr) (n : Nat), vs = [v] ∧ Dt p H n v ∧ Q (.bl (numV v)) H
theorem num_whole (v : V) : wholeV 0 999999 v = numV v := by cases v <;> rfl
theorem d_is_number (T : Txt w K mg) (D_is_whole : Def P w K mg base 1 "is_whole" ["thing", "least", "most"] spWhole) (S : Src K mg "is_number" (top 16) ["thing"]) : Def P w K mg base 2 "is_number" ["thing"] spIsNum := by
  obtain ⟨tm, v_GREATEST⟩ := T.great
  refine S.ok sc_is_number (fun vs H Q E h => ?_) (fun f cdv A outer s H vs Q E hr h => ?_)
  · obtain ⟨v, p, n, rfl, _⟩ := h; rfl
  obtain ⟨v, p, n, rfl, hv, q⟩ := h
  refine ⟨_, (pss_one (ps_ret (pe_def (D_is_whole) hr rfl (pac (pv 0) (pac pe_int (pac (pe_glob (v := .int (999999)) rfl v_GREATEST ⟨_, rfl⟩) pa_nil)))))), ?_⟩
  rw [← num_whole] at q
  exact ⟨_, rfl, v, p, n, 0, 999999, rfl, hv, q⟩
theorem sc_lnumber : FnScope ["_law_thing"] ["_law_thing"] (defScope (top 31)) := ⟨rfl, rfl, rfl, by decide +kernel, rfl, by decide +kernel, by decide +kernel⟩
theorem d_lnumber (T : Txt w K mg) (S : Src K mg "_law_is_number" (top 31) ["_law_thing"]) : Def P w K mg base 1 "_law_is_number" ["_law_thing"] spIsNum := by
  refine S.ok sc_lnumber (fun vs H Q E h => ?_) (fun f cdv A outer s H vs Q E hr h => ?_)
  · obtain ⟨v, p, n, rfl, _⟩ := h; rfl
  obtain ⟨v, p, n, rfl, hv, q⟩ := h
  refine ⟨_, (pss_one (ps_ret (pe_and (pe_cB call_isi rfl T.z_isinstance bt_isinstance (pac (pv 0) (pac (pe_ty T.z_int bt_int rfl) pa_nil))) (pe_and (pe_not (pe_cB call_isi rfl T.z_isinstance bt_isinstance (pac (pv 0) (pac (pe_ty T.z_bool bt_bool rfl) pa_nil)))) (pe_one (pe_chain op_le op_lt pe_int (pv 0) pe_int)))))), ?_⟩
  obtain ⟨t, ty, ⟨i, rfl, rfl⟩ | ⟨hn, hb | ⟨hb, hi⟩⟩⟩ := hv.intOr
  · refine ⟨_, rfl, _, "int", _, rfl, ty, by simp, _, rfl, ifT (by decide) ?_⟩
    refine ⟨_, rfl, _, "bool", _, rfl, ty, by simp, _, rfl, _, rfl, ifT (by decide) ?_⟩
    refine ⟨_, rfl, _, _, rfl, rfl, _, rfl, ite2 (fun c1 => ?_) (fun c1 => ?_)⟩
    · refine ⟨_, _, rfl, rfl, ?_⟩
      have e : numV (.int i) = decide (i < 1000000) := by
        show (decide (0 ≤ i) && decide (i ≤ 999999)) = _
        rw [c1, Bool.true_and]
        by_cases h : i ≤ 999999
        · rw [decide_eq_true h, decide_eq_true (by omega)]
        · rw [decide_eq_false h, decide_eq_false (by omega)]
      rw [e] at q
      exact q
    · have e : numV (.int i) = false := by show (decide (0 ≤ i) && decide (i ≤ 999999)) = _; rw [Bool.eq_false_iff.mpr c1, Bool.false_and]
      rw [e] at q
      exact q
  · rw [hn.1] at q
    have hi : isiB t "int" = true := by
      have hc : t ∈ ["NoneType", "bool", "int", "str", "list", "tuple", "dict"] := tyN_mem ty
      simp only [List.mem_cons, List.not_mem_nil, or_false] at hc
      rcases hc with rfl | rfl | rfl | rfl | rfl | rfl | rfl <;> first | decide | exact absurd hb (by decide)
    exact ⟨_, rfl, _, "int", _, rfl, ty, by simp, _, rfl, ifT hi ⟨_, rfl, _, "bool", _, rfl, ty, by simp, _, rfl, _, rfl, ifF (by rw [hb]; rfl) q⟩⟩
  · rw [hn.1] at q
    exact ⟨_, rfl, _, "int", _, rfl, ty, by simp, _, rfl, ifF hi q⟩

/-! ### _law_is_name -/
theorem sc_lname : FnScope ["_law_thing"] ["_law_thing"] (defScope (top 30)) := ⟨rfl, rfl, rfl, by decide +kernel, rfl, by decide +kernel, by decide +kernel⟩
theorem d_lname (T : Txt w K mg) (S : Src K mg "_law_is_name" (top 30) ["_law_thing"]) : Def P w K mg base 1 "_law_is_name" ["_law_thing"] spIsName := by
  refine S.ok sc_lname (fun vs H Q E h => ?_) (fun f cdv A outer s H vs Q E hr h => ?_)
  · obtain ⟨v, p, n, rfl, _⟩ := h; rfl
  obtain ⟨v, p, n, rfl, hv, q⟩ := h
  refine ⟨_, (pss_cons (ps_if (pt_cut (PW.pt (pw_or (pt_not (pt_val (pe_cB call_isi rfl T.z_isinstance bt_isinstance (pac (pv 0) (pac (pe_ty T.z_str bt_str rfl) pa_nil))))) (pw_or1 (pt_not (pt_chain op_le op_le pe_int (pe_cB call_len_str rfl T.z_len bt_len (pac (pv 0) pa_nil)) pe_int))))))
      (pss_one (ps_ret pe_bl)) pss_nil)
      (pss_one (ps_ret (pe_cmpR (op_eqL0 hr.units0) (pe_comp (N' := ["_law_sign"]) (comp_scope (defScope (top 30)) (by rfl) (by decide +kernel) (by decide +kernel) (by decide +kernel) (by decide +kernel) (by decide +kernel) (by decide +kernel)) rfl (capt 1 [] (by rfl) (by rfl) (by decide +kernel)) (pi_str (pv 0)) (fun _ _ _ => pg_name (i := 0) (show (["_law_sign"] : List Str).Nodup by decide +kernel) rfl (Or.inl rfl) (Or.inr rfl)) (fun _ _ _ => pifs_one (pt_cmpR op_notin_str (pv 0) pe_str (by rfl))) (fun _ _ _ => (pv 0))) (pe_lst pa_nil) (nomark _))))), ?_⟩
  have l3 : (100 : Nat) < sizeLine := by decide
  refine ⟨fun t H' => H = H' ∧ ((t = true ∧ nmV v = false) ∨ (t = false ∧ ∃ x : Str, v = .str x ∧ x.length ≤ 100 ∧ 1 ≤ x.length ∧ x.length ≤ 6)), ?_, ?_⟩
  · obtain ⟨t, ty, ⟨x, rfl, rfl, hx⟩ | ⟨hf, hn, _⟩⟩ := hv.strOr
    · refine ⟨_, rfl, _, "str", _, rfl, ty, by simp, _, rfl, ifF (by decide) ?_⟩
      refine ⟨_, rfl, x, rfl, by omega, _, _, rfl, rfl, _, rfl, ite2 (fun c1 => ?_) (fun c1 => ?_)⟩
      · refine ⟨_, _, rfl, rfl, _, rfl, rfl, ?_⟩
        have a1 := of_decide_eq_true c1
        by_cases h6 : ((x.length : Nat) : Int) ≤ 6
        · exact .inr ⟨by rw [decide_eq_true h6]; rfl, x, rfl, hx, by omega, by omega⟩
        · refine .inl ⟨by rw [decide_eq_false h6]; rfl, ?_⟩
          show nmS x = _
          unfold nmS
          rw [decide_eq_false (by omega), Bool.false_and]
      · refine ⟨_, rfl, rfl, .inl ⟨rfl, ?_⟩⟩
        have a1 := of_decide_eq_false (Bool.eq_false_iff.mpr c1)
        show nmS x = _
        unfold nmS
        rw [decide_eq_false (by omega), Bool.false_and]
    · exact ⟨_, rfl, _, "str", _, rfl, ty, by simp, _, rfl, ifT (by rw [hf]; rfl) ⟨rfl, .inl ⟨rfl, hn⟩⟩⟩
  rintro t H' ⟨rfl, ⟨rfl, hn⟩ | ⟨rfl, x, rfl, hx, h1, h6⟩⟩
  · have z := q H (Same.refl H)
    rw [hn] at z
    exact ifT rfl z
  refine ifF rfl ?_
  have hcl : x.cps.toList.length = x.length := by simp [Str.length]
  let sg : Nat → V := fun c => .str ⟨#[c]⟩
  refine ⟨_, rfl, x, rfl, fun acc hacc => ?_⟩
  refine ⟨fun i m σ2 ys H2 => m = x.cps.size - i ∧ i ≤ x.cps.size ∧ (∃ x0, σ2 = [x0]) ∧ ys = ((x.cps.toList.take i).filter fun c => !small c).map sg ∧ H2 acc = some (.lst ys) ∧ Same H H2, ⟨_, rfl, Nat.zero_le _, ⟨_, rfl⟩, rfl, upd_same, same_of_new hacc _⟩, ?_⟩
  rintro i m σ2 ys H2 ⟨rfl, hi, ⟨x0, rfl⟩, rfl, ha, sm⟩
  refine ⟨ha, ?_⟩
  by_cases hlt : i < x.cps.size
  · refine .inr ⟨hlt, ?_, ?_⟩
    · rw [List.length_map]
      have := List.length_filter_le (fun c => !small c) (x.cps.toList.take i)
      rw [List.length_take] at this
      omega
    rintro v H3 ⟨rfl, c, hc, rfl⟩
    refine ⟨_, rfl, _, _, rfl, rfl, _, rfl, ?_⟩
    have eo : (!(!(Builtin.Str.occurrences abc ⟨#[c]⟩ 0 abc.length 1).isEmpty)) = !small c := by rw [occ_abc]
    refine ite2 (fun d1 => ?_) (fun d1 => ?_)
    · have d1' : (!small c) = true := by rw [← eo]; exact d1
      refine ⟨_, rfl, ha, _, (by omega : x.cps.size - (i + 1) < x.cps.size - i), rfl, hlt, ⟨_, rfl⟩, ?_, upd_same, fun b' o hb' => ?_⟩
      · rw [take_one hc, List.filter_append, List.map_append]
        congr 1
        rw [List.filter_cons, if_pos d1']
        rfl
      · rw [upd_ne (ne_of_none hb' hacc)]; exact sm _ _ hb'
    · have d1' : ¬ (!small c) = true := by rw [← eo]; exact d1
      refine ⟨_, (by omega : x.cps.size - (i + 1) < x.cps.size - i), rfl, hlt, ⟨_, rfl⟩, ?_, ha, sm⟩
      rw [take_one hc, List.filter_append, List.filter_cons, if_neg d1']
      simp
  · have e : i = x.cps.size := by omega
    subst e
    refine .inl ⟨rfl, ?_⟩
    refine ⟨(by show 0 ≤ sizeLine; decide), fun b hb => ?_⟩
    have s2 := same_of_new hb (.lst [])
    refine ⟨acc, b, _, rfl, rfl, SqL.of (s2 _ _ ha), SqL.of upd_same, ?_⟩
    have et : x.cps.toList.take x.cps.size = x.cps.toList := by rw [← Array.length_toList, List.take_length]
    have ez : nmV (.str x) = (((x.cps.toList.take x.cps.size).filter fun c => !small c).map sg).isEmpty := by
      show nmS x = _
      unfold nmS
      rw [decide_eq_true ⟨h1, h6⟩, Bool.true_and, et]
      rw [Bool.eq_iff_iff, List.all_eq_true, List.isEmpty_iff, List.map_eq_nil_iff, List.filter_eq_nil_iff]
      constructor
      · intro h c hc; rw [h c hc]; decide
      · intro h c hc
        have := h c hc
        simpa using this
    rw [← ez]
    exact q _ (sm.trans s2)

/-! ### _law_among, _law_same -/
end
end K03

set_option Elab.async false
set_option linter.all false
set_option maxRecDepth 100000
set_option maxHeartbeats 4000000
/-! A comprehension read at once: what it walks stays, each turn gives a thing as told. -/
namespace L2
open PySem PySem.Spec PyProof.Rows

/-- heaps that may follow one another through a comprehension -/
structure Rel (H : Hp) (Rl : Hp → Prop) : Prop where
  here : Rl H
  put : ∀ H1 a o, H a = none → Rl H1 → Rl (upd H1 a o)
theorem Rel.same (H : Hp) : Rel H (Same H) := ⟨Same.refl H, fun H1 a o ha s b u hb => by rw [upd_ne (ne_of_none hb ha)]; exact s b u hb⟩
theorem Rel.ext {p : Addr} {H : Hp} (g : Gen p H) : Rel H (Ext p H) := ⟨Ext.refl g, fun H1 a o ha e => by
  have hap : p ≠ a := fun z => by obtain ⟨n, h, _⟩ := g; rw [z, ha] at h; cases h
  refine ⟨fun b u hb h => ?_, ?_⟩
  · rw [upd_ne (ne_of_none h ha)]; exact e.but b u hb h
  · obtain ⟨n, h, r⟩ := e.gen
    exact ⟨n, by rw [upd_ne hap]; exact h, r⟩⟩

theorem paired_app {α β : Type} {R : α → β → Prop} : ∀ {a b : List α} {c d : List β}, Paired R a c → Paired R b d → Paired R (a ++ b) (c ++ d)
  | _, _, _, _, .nil, s => s
  | _, _, _, _, .cons r t, s => .cons r (paired_app t s)
theorem walk_by {J : It} {te : TE} {cs σ0 : St} {H : Hp} {Qf : Addr → Hp → Prop} {Rl : Hp → Prop} (R : Rel H Rl) (items : List V) (Pv : V → V → Prop) (hz : items.length ≤ 10000)
    (hgo : ∀ i H2, Rl H2 → i < items.length → J.go i H2) (hstop : ∀ H2, Rl H2 → J.stop items.length H2) (hyld : ∀ i H2 x H3, Rl H2 → i < items.length → J.yld i H2 x H3 → H3 = H2 ∧ items[i]? = some x)
    (hσ : σ0 = none :: cs)
    (step : ∀ x acc ys H2 (k : VK), x ∈ items → H acc = none → H2 acc = some (.lst ys) → Rl H2 → (∀ y H3, Pv x y → Rl H3 → H3 acc = some (.lst ys) → k y H3) → te (some x :: cs) H2 k)
    (fin : ∀ acc ys H', H acc = none → Rl H' → H' acc = some (.lst ys) → Paired Pv items ys → Qf acc H') :
    ∀ acc, H acc = none → ∃ W : Nat → Nat → St → List V → Hp → Prop, (∃ m, W 0 m σ0 [] (upd H acc (.lst []))) ∧ ∀ i m σ2 ys H2, W i m σ2 ys H2 → H2 acc = some (.lst ys) ∧
    ((J.stop i H2 ∧ Qf acc H2) ∨ (J.go i H2 ∧ ys.length < sizeLine ∧ ∀ x H3, J.yld i H2 x H3 → gName 0 x σ2 H3 fun σ4 H4 => (fun (_ : St) (H : Hp) (Q : Bool → Hp → Prop) => Q true H) σ4 H4 fun b H5 =>
      if b = true then te σ4 H5 fun y H6 => H6 acc = some (.lst ys) ∧ ∃ m', m' < m ∧ W (i + 1) m' σ4 (ys ++ [y]) (upd H6 acc (.lst (ys ++ [y]))) else ∃ m', m' < m ∧ W (i + 1) m' σ4 ys H5)) := by
  intro acc hacc
  subst hσ
  refine ⟨fun i m σ2 ys H2 => m = items.length - i ∧ i ≤ items.length ∧ (∃ x0, σ2 = x0 :: cs) ∧ Paired Pv (items.take i) ys ∧ H2 acc = some (.lst ys) ∧ Rl H2,
    ⟨_, rfl, Nat.zero_le _, ⟨_, rfl⟩, (by rw [List.take_zero]; exact .nil), upd_same, R.put _ _ _ hacc R.here⟩, ?_⟩
  rintro i _ σ2 ys H2 ⟨rfl, hi, ⟨x0, rfl⟩, hp, ha, hr⟩
  refine ⟨ha, ?_⟩
  by_cases hlt : i < items.length
  · refine .inr ⟨hgo i H2 hr hlt, ?_, fun x H3 hy => ?_⟩
    · have := Paired.length hp
      rw [List.length_take] at this
      have : ys.length ≤ 10000 := by omega
      exact Nat.lt_of_le_of_lt this (by decide)
    obtain ⟨rfl, hx⟩ := hyld i H2 x H3 hr hlt hy
    refine step x acc ys H3 _ (List.mem_of_getElem? hx) hacc ha hr fun y H4 hv hr4 ha4 => ?_
    refine ⟨ha4, _, (by omega : items.length - (i + 1) < items.length - i), rfl, hlt, ⟨_, rfl⟩, ?_, upd_same, R.put _ _ _ hacc hr4⟩
    rw [List.take_add_one, hx]
    exact paired_app hp (.cons hv .nil)
  · obtain rfl : i = items.length := by omega
    rw [List.take_length] at hp
    exact .inl ⟨hstop H2 hr, fin acc ys H2 hacc hr ha hp⟩
theorem paired_map {f : V → V} : ∀ {xs ys : List V}, Paired (fun x y => y = f x) xs ys → ys = xs.map f
  | _, _, .nil => rfl
  | _, _, .cons e t => by rw [List.map_cons, ← paired_map t, e]
/-- over a tuple, all that was is kept, each turn told by a function -/
theorem walk_tup {K : PySem.W.Frag} {a : Addr} {xs : List V} {te : TE} {cs σ0 : St} {H : Hp} {Qf : Addr → Hp → Prop} (f : V → V) (ha : H a = some (.tup xs)) (hz : xs.length ≤ 10000) (hσ : σ0 = none :: cs)
    (step : ∀ x H2 (k : VK), x ∈ xs → Same H H2 → (∀ H3, Same H2 H3 → k (f x) H3) → te (some x :: cs) H2 k)
    (fin : ∀ acc H', H acc = none → Same H H' → H' acc = some (.lst (xs.map f)) → Qf acc H') :
    ∀ acc, H acc = none → ∃ W : Nat → Nat → St → List V → Hp → Prop, (∃ m, W 0 m σ0 [] (upd H acc (.lst []))) ∧ ∀ i m σ2 ys H2, W i m σ2 ys H2 → H2 acc = some (.lst ys) ∧
    (((Itt K a).stop i H2 ∧ Qf acc H2) ∨ ((Itt K a).go i H2 ∧ ys.length < sizeLine ∧ ∀ x H3, (Itt K a).yld i H2 x H3 → gName 0 x σ2 H3 fun σ4 H4 => (fun (_ : St) (H : Hp) (Q : Bool → Hp → Prop) => Q true H) σ4 H4 fun b H5 =>
      if b = true then te σ4 H5 fun y H6 => H6 acc = some (.lst ys) ∧ ∃ m', m' < m ∧ W (i + 1) m' σ4 (ys ++ [y]) (upd H6 acc (.lst (ys ++ [y]))) else ∃ m', m' < m ∧ W (i + 1) m' σ4 ys H5)) :=
  walk_by (Rel.same H) xs (fun x y => y = f x) hz (fun i H2 s hi => ⟨xs, _, SqT.of (s _ _ ha), List.getElem?_eq_getElem hi⟩) (fun H2 s => ⟨xs, SqT.of (s _ _ ha), Nat.le_refl _⟩)
    (fun i H2 x H3 s _ y => ⟨y.1, y.2 xs (SqT.of (s _ _ ha))⟩) hσ (fun x acc ys H2 k hx hn hl s hk => step x H2 k hx s fun H3 s3 => hk _ _ rfl (s.trans s3) (s3 _ _ hl))
    fun acc ys H' hn s hl hp => fin acc H' hn s (by rw [← paired_map hp]; exact hl)
/-- a call of a def that a name of the frame holds -/
def tCallF (P : Program) (w : World) (K : PySem.W.Frag) (mg : Str → Option Value) (base : Heap) (k : Nat) (tx : TE) (t : TA) : TE := fun σ H Q => tx σ H fun v H1 => ∃ (f : Addr) (fd : FuncData) (ps : List Str) (sp : Sp),
  v = .ref f ∧ FnOk P w K mg base CX0 k f fd ps sp ∧ PySem.W.keepIn K (.ref f) = true ∧ Binds K fd ps [] ∧ t σ H1 fun vs H2 => sp vs H2 Q E0
theorem pe_callF {X : Cx} {k : Nat} {x : Str} {tx : TE} {p pos : Pos} {e : Expr} {es : List Expr} {t : TA} (hx : PE X (.Name x p) tx) (hr : Room k X.A) (ha : PA X (e :: es) t) (hpl : (e :: es).all plainE = true := by rfl) :
    PE X (.Call (.Name x p) (e :: es) [] pos) (tCallF X.prog X.w X.K X.mg X.base k tx t) := by
  intro pins s σ H Q I h
  rw [List.all_cons, Bool.and_eq_true] at hpl
  refine wpAny_Call_Name_kw (thn (hx pins s σ H _ I h) fun v s1 ⟨y, H1, I1, r, f, fd, ps, sp, e1, F, hk, hb, q⟩ => ?_)
  subst e1
  cases r
  refine PySem.W.callWith_K (h₀ := X.base) I1.ok.mod.kin hk (thn (ha pos pins s1 σ H1 _ I1 q) fun us s2 ⟨vs, H2, I2, r2, q2⟩ => ⟨I2.kIn, ?_⟩) (star_cons hpl.1) (star_all hpl.2)
  exact run_fn F hr hb .nil (pass0 (X := X)) I2 r2 (by rw [List.append_nil]; exact q2)
/-- a comprehension with a test: what passes, all that was is kept -/
theorem walk_if {J : It} {tc : TT} {te : TE} {cs σ0 : St} {H : Hp} {Qf : Addr → Hp → Prop} (items : List V) (c : V → Bool) (f : V → V) (hz : items.length ≤ 10000)
    (hgo : ∀ i H2, Same H H2 → i < items.length → J.go i H2) (hstop : ∀ H2, Same H H2 → J.stop items.length H2) (hyld : ∀ i H2 x H3, Same H H2 → i < items.length → J.yld i H2 x H3 → H3 = H2 ∧ items[i]? = some x)
    (hσ : σ0 = none :: cs)
    (test : ∀ (i : Nat) (x : V) (H2 : Hp) (k : Bool → Hp → Prop), items[i]? = some x → Same H H2 → (∀ H3, Same H2 H3 → k (c x) H3) → tc (some x :: cs) H2 k)
    (step : ∀ x H2 (k : VK), x ∈ items → Same H H2 → (∀ H3, Same H2 H3 → k (f x) H3) → te (some x :: cs) H2 k)
    (fin : ∀ acc H', H acc = none → Same H H' → H' acc = some (.lst ((items.filter c).map f)) → Qf acc H') :
    ∀ acc, H acc = none → ∃ W : Nat → Nat → St → List V → Hp → Prop, (∃ m, W 0 m σ0 [] (upd H acc (.lst []))) ∧ ∀ i m σ2 ys H2, W i m σ2 ys H2 → H2 acc = some (.lst ys) ∧
    ((J.stop i H2 ∧ Qf acc H2) ∨ (J.go i H2 ∧ ys.length < sizeLine ∧ ∀ x H3, J.yld i H2 x H3 → gName 0 x σ2 H3 fun σ4 H4 => tc σ4 H4 fun b H5 =>
      if b = true then te σ4 H5 fun y H6 => H6 acc = some (.lst ys) ∧ ∃ m', m' < m ∧ W (i + 1) m' σ4 (ys ++ [y]) (upd H6 acc (.lst (ys ++ [y]))) else ∃ m', m' < m ∧ W (i + 1) m' σ4 ys H5)) := by
  intro acc hacc
  subst hσ
  have R := Rel.same H
  refine ⟨fun i m σ2 ys H2 => m = items.length - i ∧ i ≤ items.length ∧ (∃ x0, σ2 = x0 :: cs) ∧ ys = ((items.take i).filter c).map f ∧ H2 acc = some (.lst ys) ∧ Same H H2,
    ⟨_, rfl, Nat.zero_le _, ⟨_, rfl⟩, (by rw [List.take_zero]; rfl), upd_same, R.put _ _ _ hacc R.here⟩, ?_⟩
  rintro i _ σ2 ys H2 ⟨rfl, hi, ⟨x0, rfl⟩, rfl, ha, hr⟩
  refine ⟨ha, ?_⟩
  by_cases hlt : i < items.length
  · refine .inr ⟨hgo i H2 hr hlt, ?_, fun x H3 hy => ?_⟩
    · have h1 := List.length_filter_le c (items.take i)
      rw [List.length_take] at h1
      rw [List.length_map]
      exact Nat.lt_of_le_of_lt (show _ ≤ 10000 by omega) (by decide)
    obtain ⟨rfl, hx⟩ := hyld i H2 x H3 hr hlt hy
    have et : items.take (i + 1) = items.take i ++ [x] := by rw [List.take_add_one, hx]; rfl
    refine test i x H3 _ hx hr fun H4 s4 => ?_
    cases hc : c x with
    | true =>
      refine (if_pos rfl).mpr ?_
      refine step x H4 _ (List.mem_of_getElem? hx) (hr.trans s4) fun H5 s5 => ?_
      refine ⟨s5 _ _ (s4 _ _ ha), _, (by omega : items.length - (i + 1) < items.length - i), rfl, hlt, ⟨_, rfl⟩, ?_, upd_same, R.put _ _ _ hacc (hr.trans (s4.trans s5))⟩
      rw [et, List.filter_append, List.filter_cons_of_pos hc, List.filter_nil, List.map_append]
      rfl
    | false =>
      refine (if_neg Bool.false_ne_true).mpr ?_
      refine ⟨_, (by omega : items.length - (i + 1) < items.length - i), rfl, hlt, ⟨_, rfl⟩, ?_, s4 _ _ ha, hr.trans s4⟩
      rw [et, List.filter_append, List.filter_cons_of_neg (by rw [hc]; exact Bool.false_ne_true), List.filter_nil, List.append_nil]
  · obtain rfl : i = items.length := by omega
    rw [List.take_length] at ha ⊢
    exact .inl ⟨hstop H2 hr, fin acc H2 hacc hr ha⟩
end L2

set_option Elab.async false
set_option linter.all false
set_option maxRecDepth 100000
set_option maxHeartbeats 4000000
/-! Exceptions of own classes, told by their whole object: made, noted in a frame, flying. -/
namespace L2
open PySem PySem.Spec PyProof.Rows

/-- an exception of the class at C: its arguments at t, the head of its traceback -/
def exo (C t : Addr) (tb : Value) : Obj := { cls := .ref C, data := .fields #[.ref t, tb, .none, .none, .bool false, .none] }
/-- it has an entry at T, marked with fl -/
def Ex (h : Heap) (a C T : Addr) (fl : Value) : Prop := (∃ t, h.get? a = some (exo C t (.ref T))) ∧ T ≠ a ∧ ∃ oT ts, h.get? T = some oT ∧ oT.data = .fields ts ∧ ts[3]? = some fl
/-- what a station does: the frames at fs by their slots, the records at a and T -/
structure Mv (fs : List Addr) (a T : Addr) (h h' : Heap) : Prop where
  keep : ∀ b o, h.get? b = some o → b ∉ fs → b ≠ a → b ≠ T → h'.get? b = some o
  slot : ∀ b o, h.get? b = some o → b ∈ fs → b ≠ a → b ≠ T → ∃ sl, h'.get? b = some { o with slots := sl }
theorem Mv.any {fs : List Addr} {a T b : Addr} {h h' : Heap} {o : Obj} (m : Mv fs a T h h') (e : h.get? b = some o) (h1 : b ≠ a) (h2 : b ≠ T) : ∃ sl, h'.get? b = some { o with slots := sl } := by
  by_cases hb : b ∈ fs
  · exact m.slot b o e hb h1 h2
  · exact ⟨o.slots, m.keep b o e hb h1 h2⟩
section
variable {M : Model} {A : Around} {E : Value → Shared → Prop} {s : Shared} {base : Heap} {env : Env} {outer : List Env} {L a C t T : Addr} {Q : Unit → Shared → Prop}

theorem exo_map (C t : Addr) (tb x : Value) : (exo C t tb).mapFields (·.setIfInBounds 1 x) = exo C t x := rfl

theorem entry_ok {tb head : Value} {hadNext : Bool} (hfr : A.frames = some (env :: outer)) (hl : s.heap.FunFrames base (env :: outer)) (hf : env.frame = some L) (he : s.heap.get? a = some (exo C t tb))
    (h : ∀ h' T', s.heap.get? T' = none → s.heap.objs.size ≤ T' → Ex h' a C T' (rawInt L) → Mv ((env :: outer).filterMap (·.frame)) a a s.heap h' → Q () { s with heap := h' }) :
    wpAny M A (do let x ← frameOf env; let pl ← entryPlaceOf L hadNext; let b ← EntryCells.newEntry head x .none (rawInt L) .none pl; setField (.ref a) 1 b) Q E s := by
  have hnf : a ∉ (env :: outer).filterMap (·.frame) := fun hm => by
    obtain ⟨_, o, ho, hn⟩ := hl.mem hm
    rw [he] at ho; cases ho; exact hn _ rfl
  refine wpAny_bind (wpAny_frameOf_fun hfr hl hf fun h1 hs => ?_)
  refine wpAny_bind (wpAny_entryPlaceOf fun pl hpl => ?_)
  unfold EntryCells.newEntry newFields
  refine wpAny_bind (wpAny_newObj_type ?_ (hpl.sizeOk5 _ _ _ _ _))
  have he1 : h1.get? a = some (exo C t tb) := (hs.2.1 a hnf).trans he
  have he2 := Heap.get?_push_of_some (h := h1) { cls := .type "traceback", dict := none, data := .fields ([head, .ref L, .none, rawInt L, .none] ++ (if pl.isEmpty then List.replicate 6 Value.none else pl)).toArray } he1
  refine wpAny_setField he2 rfl (Nat.lt_of_sub_pos (Nat.succ_pos 4)) ?_
  have hne : h1.objs.size ≠ a := Nat.ne_of_gt (Heap.lt_size he1)
  have hup : ∀ b o, s.heap.get? b = some o → b ≠ h1.objs.size := fun b o e => by
    obtain ⟨sl, e1⟩ := hs.2.2 b o e
    exact Nat.ne_of_lt (Heap.lt_size e1)
  have hfree : s.heap.get? h1.objs.size = none := by
    cases q : s.heap.get? h1.objs.size with
    | none => rfl
    | some o => exact absurd rfl (hup _ o q)
  refine h _ h1.objs.size hfree (Nat.le_of_eq hs.1.symm) ⟨⟨t, ?_⟩, hne, { cls := .type "traceback", dict := none, data := .fields ([head, .ref L, .none, rawInt L, .none] ++ (if pl.isEmpty then List.replicate 6 Value.none else pl)).toArray }, _, ?_, rfl, ?_⟩ ⟨fun b o e hb ha _ => ?_, fun b o e hb ha _ => ?_⟩
  · rw [← exo_map C t tb]
    exact Heap.get?_update_self _ he2 rfl
  · rw [Heap.get?_update_other _ _ (Ne.symm hne)]
    exact Heap.get?_push_size h1 rfl
  · first | (simp; done) | (rcases hpl with rfl | ⟨_, _, _, _, _, _, _, rfl⟩ <;> simp)
  · rw [Heap.get?_update_other _ _ (Ne.symm ha)]
    exact Heap.get?_push_of_some _ ((hs.2.1 b hb).trans e)
  · obtain ⟨sl, e1⟩ := hs.2.2 b o e
    refine ⟨sl, ?_⟩
    rw [Heap.get?_update_other _ _ (Ne.symm ha)]
    exact Heap.get?_push_of_some _ e1

/-- an exception just made is noted -/
theorem note0 (hfr : A.frames = some (env :: outer)) (hl : s.heap.FunFrames base (env :: outer)) (hf : env.frame = some L) (he : s.heap.get? a = some (exo C t .none))
    (h : ∀ h' T', s.heap.get? T' = none → s.heap.objs.size ≤ T' → Ex h' a C T' (rawInt L) → Mv ((env :: outer).filterMap (·.frame)) a a s.heap h' → Q () { s with heap := h' }) : wpAny M A (noteFrame (.ref a) env) Q E s := by
  unfold noteFrame
  simp only [hf]
  refine wpAny_bind (wpAny_field he rfl (x := .none) rfl ?_)
  rw [if_neg (by decide)]
  exact entry_ok hfr hl hf he h
/-- one that came from within is noted -/
theorem note1 (hfr : A.frames = some (env :: outer)) (hl : s.heap.FunFrames base (env :: outer)) (hf : env.frame = some L) (he : Ex s.heap a C T .none)
    (h : ∀ h' T', s.heap.get? T' = none → s.heap.objs.size ≤ T' → Ex h' a C T' (rawInt L) → Mv ((env :: outer).filterMap (·.frame)) a T s.heap h' → Q () { s with heap := h' }) : wpAny M A (noteFrame (.ref a) env) Q E s := by
  obtain ⟨⟨t, ha⟩, hne, oT, ts, hT, hd, h3⟩ := he
  unfold noteFrame
  simp only [hf]
  refine wpAny_bind (wpAny_field ha rfl (x := .ref T) rfl ?_)
  rw [if_pos (show (Value.ref T != Value.none) = true from by simp)]
  refine wpAny_bind (wpAny_field hT hd h3 ?_)
  rw [if_neg (show ¬ ((Value.none == rawInt L) = true) from by simp [rawInt])]
  refine wpAny_bind (wpAny_setField hT hd (Array.getElem?_eq_some_iff.mp h3).1 ?_)
  have oth : ∀ b, b ≠ T → (s.heap.update T (Obj.mapFields (·.setIfInBounds 3 Value.none))).get? b = s.heap.get? b := fun b hb => Heap.get?_update_other _ _ (Ne.symm hb)
  have nr : ∀ b o, s.heap.get? b = some o → (∀ vs, o.data ≠ .fields vs) → b ≠ T := fun b o hb hnf q => by
    rw [q, hT] at hb; cases hb; exact hnf ts hd
  refine entry_ok (s := { s with heap := s.heap.update T (Obj.mapFields (·.setIfInBounds 3 Value.none)) }) hfr (hl.of_keeps fun b o hb hnf => ⟨o, (oth b (nr b o hb hnf)).trans hb, rfl⟩) hf ((oth a (Ne.symm hne)).trans ha) fun h' T' f1 f1' f2 f3 => ?_
  refine h h' T' ?_ ?_ f2 ⟨fun b o e hb h1 h2 => f3.keep b o ((oth b h2).trans e) hb h1 h1, fun b o e hb h1 h2 => f3.slot b o ((oth b h2).trans e) hb h1 h1⟩
  · by_cases q : T' = T
    · rw [q] at f1
      have z := Heap.get?_update_self (Obj.mapFields (·.setIfInBounds 3 Value.none)) hT (Obj.isFreed_of_fields (Obj.data_mapFields hd _))
      rw [z] at f1
      cases f1
    · exact (oth T' q).symm.trans f1
  · have z := Heap.size_after_update s.heap T (Obj.mapFields (·.setIfInBounds 3 Value.none))
    exact Nat.le_trans (Nat.le_of_eq z.symm) f1'
/-- the mark goes -/
theorem flight0 {fl : Value} (he : Ex s.heap a C T fl) (h : ∀ h', Ex h' a C T .none → Heap.SameBut T s.heap h' → Q () { s with heap := h' }) : wpAny M A (setFlight (.ref a) none) Q E s := by
  obtain ⟨⟨t, ha⟩, hne, oT, ts, hT, hd, h3⟩ := he
  have hz : 3 < ts.size := (Array.getElem?_eq_some_iff.mp h3).1
  unfold setFlight
  refine wpAny_bind (wpAny_field ha rfl (x := .ref T) rfl ?_)
  rw [if_pos (show (Value.ref T != Value.none) = true from by simp)]
  refine wpAny_setField hT hd hz (h _ ⟨⟨t, (Heap.get?_update_other _ _ hne).trans ha⟩, hne, _, _, Heap.get?_update_self _ hT (Obj.isFreed_of_fields (Obj.data_mapFields hd _)), Obj.data_mapFields hd _, by simp [hz]⟩ (Heap.SameBut.update ..))
end
end L2

set_option Elab.async false
set_option linter.all false
set_option maxRecDepth 100000
set_option maxHeartbeats 4000000
/-! A walk over a tuple ends while an exception is handled. -/
namespace L2
open PySem PySem.Spec PyProof.Rows

theorem entry_unchain : entryFor table "proto.unchain" = some Builtin.«proto.unchain» := entryFor_of_tree (by kernel_rfl)
section
variable {prog : Program} {w : World} {A : Around} {E : Value → Shared → Prop} {s : Shared} {e C t : Addr} {tb : Value}
theorem unchain_ok {x : Value} {Q : Value → Shared → Prop} (he : s.heap.get? e = some (exo C t tb)) (h : Q .none s) :
    wpAny (model prog w) A (runValue (.builtin "proto.unchain" ⟨[x, .ref e, .ref e, .bool false], []⟩)) Q E s := by
  refine wpAny_runValue (codeAny_builtin entry_unchain ?_)
  unfold Builtin.«proto.unchain»
  refine wpAny_bind (wpAny_field he rfl (x := .none) rfl ?_)
  show wpAny (model prog w) _ (if (Value.none == Value.none) = true then (ret .none : Sem Fin) else _) _ _ _
  rw [if_pos (by decide)]
  exact wpAny_pure h
/-- what is raised while e is handled has it as its context -/
theorem raise_in {α : Type} {x : Addr} {ox : Obj} {vs : Array Value} {Q : α → Shared → Prop} (hh : A.handled = some (.ref e)) (he : s.heap.get? e = some (exo C t tb)) (hx : s.heap.get? x = some ox) (hd : ox.data = .fields vs) (hz : 2 < vs.size) (hne : e ≠ x)
    (h : E (.ref x) { s with heap := s.heap.update x (Obj.mapFields (·.setIfInBounds 2 (.ref e))) }) : wpAny (model prog w) A (raiseNew (.ref x) : Sem α) Q E s := by
  unfold raiseNew
  refine wpAny_bind (wpAny_handled ?_)
  rw [hh]
  show wpAny _ _ (if (Value.ref e != Value.ref x) = true then _ else _) _ _ _
  rw [if_pos (by simp [hne])]
  refine wpAny_bind (wpAny_holding (unchain_ok he ?_))
  exact wpAny_bind (wpAny_setField (M := model prog w) (A := A) (E := E) (x := .ref e) hx hd hz (wpAny_throw h))

theorem tuple_endH {it tp : Addr} {i : Nat} {items} {Q : Option Value → Shared → Prop} (hh : A.handled = some (.ref e)) (he : s.heap.get? e = some (exo C t tb)) (hne : e ≠ it)
    (hit : s.heap.IsTupleIter it tp i) (ht : s.heap.IsTuple tp items) (hx : items[i]? = none)
    (hQ : ∀ h', Heap.ExtBut it s.heap h' → Q none { s with heap := h' }) : wpAny (model prog w) A (pyNext (.ref it)) Q E s := by
  obtain ⟨o, ho, hc, hd⟩ := id hit
  obtain ⟨ol, hol, _, nl, hdl⟩ := ht
  unfold pyNext
  refine wpAny_bind (wpAny_attempt (wpAny_callSpecial?_slot (name := Str.ofString "__next__") hit.typeIs F.slot_tuple_iterator_next (wpAny_call_entry F.slot_tuple_iterator_next hit.typeIs F.entry_tuple_iterator_next ?_ (F.args_tuple_iterator_next_1 _))))
  show wpAny _ _ (field (.ref it) 0 >>= _) _ _ s
  refine wpAny_bind (wpAny_field ho hd (x := .ref tp) rfl ?_)
  show wpAny _ _ (if (Value.ref tp == Value.none) = true then _ else _) _ _ s
  rw [if_neg (show ¬ ((Value.ref tp == Value.none) = true) from Bool.false_ne_true)]
  show wpAny _ _ (field (.ref it) 1 >>= _) _ _ s
  refine wpAny_bind (wpAny_field ho hd (x := .int i 0) rfl ?_)
  show wpAny _ _ (seqItems? (.ref tp) >>= _) _ _ s
  refine wpAny_bind (wpAny_seqItems hol hdl ?_)
  simp only [Int.toNat_natCast, hx]
  refine wpAny_bind (wpAny_rule (wpAny_bind (wpAny_setField ho hd (by simp) ?_)))
  show wpAny _ _ (newExc (.type "StopIteration") [] >>= _) _ _ _
  refine wpAny_bind ?_
  simp only [newExc, newTuple]
  refine wpAny_bind (wpAny_newObj_type ?_ (by size_fits))
  refine wpAny_bind (m := firstArgMember _ _) (wpAny_of_eq (a := Value.none) (by first | rfl | (simp only [firstArgMember]; rfl)) ?_)
  refine wpAny_newObj_type ?_ (by size_fits)
  have k1 : ∀ {h1 : Heap} {ob : Obj}, h1.get? e = some (exo C t tb) → (h1.push ob).get? e = some (exo C t tb) := fun q => Heap.get?_push_of_some _ q
  have k0 : (s.heap.update it (Obj.mapFields (·.setIfInBounds 0 Value.none))).get? e = some (exo C t tb) := (Heap.get?_update_other _ _ (Ne.symm hne)).trans he
  refine raise_in (C := C) (t := t) (tb := tb) (e := e) hh (k1 (k1 k0)) (Heap.get?_push_size _ rfl) rfl (by simp [ownMembersOf]) (Nat.ne_of_lt (Heap.lt_size (k1 k0))) ?_
  refine wpAny_bind (wpAny_isInstance (T := "StopIteration") (b := true) ⟨_, Heap.get?_update_self _ (Heap.get?_push_size _ rfl) rfl, rfl⟩ isSubtype_stop ?_)
  refine wpAny_pure (hQ _ ?_)
  intro b o hb q
  have q1 : (s.heap.update it (Obj.mapFields (·.setIfInBounds 0 Value.none))).get? b = some o := (Heap.get?_update_other _ _ (Ne.symm hb)).trans q
  have q2 := Heap.get?_push_of_some ({ cls := .type "tuple", data := .seq #[] } : Obj) q1
  exact (Heap.get?_update_other _ _ (Ne.symm (Nat.ne_of_lt (Heap.lt_size q2)))).trans (Heap.get?_push_of_some _ q2)
end
end L2

set_option Elab.async false
set_option linter.all false
set_option maxRecDepth 100000
set_option maxHeartbeats 4000000
/-! Exceptions over the hand layer: in flight behind a call, raised, passed on. -/
namespace L2
open PySem PySem.Spec PyProof.Rows

theorem ObjOk.there {P : Program} {w : World} {H : Hp} {h : Heap} {a : Addr} {o : HO} (x : ObjOk P w H h a o) : ∃ ob, h.get? a = some ob := by
  cases o with
  | lst xs => obtain ⟨_, _, _, _, e⟩ := x; exact ⟨_, e⟩
  | tup xs => obtain ⟨_, _, _, o, e, _⟩ := x; exact ⟨_, e⟩
  | dK kvs => obtain ⟨_, _, _, _, o, _, _, e, _⟩ := x; exact ⟨_, e⟩
  | dT kvs => obtain ⟨_, _, _, _, o, _, _, e, _⟩ := x; exact ⟨_, e⟩
  | set S n => obtain ⟨o, _, _, _, e, _⟩ := x; exact ⟨_, e⟩
  | ins C dx fs => obtain ⟨_, _, _, e, _⟩ := x; exact ⟨_, e⟩
  | own y => exact x
  | xd fs => obtain ⟨_, ⟨o, _, _, e, _⟩, _⟩ := x; exact ⟨_, e⟩
  | rng lo hi => obtain ⟨_, _, _, e⟩ := x; exact ⟨_, e⟩
  | frz ob u => obtain ⟨e, _⟩ := x; exact ⟨_, e⟩
  | tbl ps => exact ⟨_, (show h.get? a = some _ from x)⟩
  | met f y => exact ⟨_, (show h.get? a = some _ from x)⟩
  | ext φ => exact x.2.1
theorem HOk.none_of {P : Program} {w : World} {H : Hp} {h : Heap} {a : Addr} (x : HOk P w H h) (e : h.get? a = none) : H a = none := by
  cases q : H a with
  | none => rfl
  | some o =>
    obtain ⟨ob, z⟩ := (x a o q).there
    rw [e] at z; cases z
/-- tracked things are kept: they are held -/
theorem HOk.keep {P : Program} {w : World} {H : Hp} {h h' : Heap} (x : HOk P w H h) (k : ∀ b u o, H b = some u → h.get? b = some o → h'.get? b = some o) : HOk P w H h' := fun a o e =>
  (x a o e).stay (fun b u hb q => by
    rcases hb with rfl | hb
    · exact k _ _ _ e q
    · exact k _ _ _ hb q) (fun _ q => q) fun _ _ q => q

/-- an exception of the class at C flies behind a call: what lies ahead of the call (H, s), what lies now (H', s') -/
structure Fl (P : Program) (w : World) (l : List Env) (H : Hp) (s : Shared) (H' : Hp) (a C : Addr) (fl : Value) (s' : Shared) : Prop where
  os : s'.os = s.os
  bare : AllBare s'.gens
  un : Un (frs l) [] H H' s.heap s'.heap
  hok : HOk P w H' s'.heap
  na : H' a = none
  new : s.heap.get? a = none
  ex : ∃ T, Ex s'.heap a C T fl ∧ H' T = none ∧ s.heap.get? T = none
/-- what is wanted of an exception behind a call -/
def CX1 (P : Program) (w : World) : CXT := fun l H s E e s' => ∃ a C H', e = .ref a ∧ Fl P w l H s H' a C .none s' ∧ E (.ref C) none H'

section
variable {X : Cx} {pins : List (Addr × Obj)} {σ : St} {H H' : Hp} {s s' : Shared} {a C : Addr} {fl : Value}
theorem Fl.inv (I : Inv X pins σ H s) (f : Fl X.prog X.w X.stack H s H' a C fl s') : Inv X pins σ H' s' := I.call' (ch := []) f.os f.un f.hok f.bare (fun b hb => absurd hb (by simp))
theorem Fl.frF (I : Inv X pins σ H s) (f : Fl X.prog X.w X.stack H s H' a C fl s') : ∀ b ∈ frs X.stack, H' b = none := fun b hb => by
  obtain ⟨_, o, ho, _⟩ := I.stack.mem hb
  exact f.un.free b o ho (I.stkFree b hb) (by simp)
/-- the heap moves by a station -/
theorem Fl.move {l : List Env} {fl' : Value} {T T' : Addr} {h' : Heap} (f : Fl X.prog X.w l H s H' a C fl s') (hfr : ∀ b ∈ frs l, H' b = none) (hT : H' T = none) (hTn : s.heap.get? T = none) (m : Mv (frs l) a T s'.heap h')
    (e : Ex h' a C T' fl') (hT' : H' T' = none) (hTn' : s.heap.get? T' = none) : Fl X.prog X.w l H s H' a C fl' { s' with heap := h' } where
  os := f.os
  bare := f.bare
  un := by
    have na : ∀ b o, s.heap.get? b = some o → b ≠ a := fun b o q z => by rw [z, f.new] at q; cases q
    have nT : ∀ b o, s.heap.get? b = some o → b ≠ T := fun b o q z => by rw [z, hTn] at q; cases q
    refine ⟨fun b o q n hb hx => m.keep b o (f.un.keep b o q n hb hx) hb (na b o q) (nT b o q), fun b o q n hb hx => ?_, f.un.free, fun b o q hx => ?_, f.un.tups, f.un.frzs, f.un.tbls⟩
    · obtain ⟨sl, q1⟩ := f.un.slot b o q n hb hx
      obtain ⟨sl', q2⟩ := m.slot b _ q1 hb (na b o q) (nT b o q)
      exact ⟨sl', q2⟩
    · obtain ⟨o', q1⟩ := f.un.there b o q hx
      obtain ⟨sl, q2⟩ := m.any q1 (na b o q) (nT b o q)
      exact ⟨_, q2⟩
  hok := f.hok.keep fun b u o e q => m.keep b o q (fun z => by rw [hfr b z] at e; cases e) (fun z => by rw [z, f.na] at e; cases e) (fun z => by rw [z, hT] at e; cases e)
  na := f.na
  new := f.new
  ex := ⟨T', e, hT', hTn'⟩
theorem Fl.fresh {l : List Env} {T' : Addr} (f : Fl X.prog X.w l H s H' a C fl s') (hn : s'.heap.get? T' = none) (hs : s'.heap.objs.size ≤ T') : H' T' = none ∧ s.heap.get? T' = none := by
  refine ⟨f.hok.fresh hs, ?_⟩
  cases q : s.heap.get? T' with
  | none => rfl
  | some o =>
    obtain ⟨o', z⟩ := f.un.there T' o q (by simp)
    rw [hn] at z; cases z
/-- the frames stand behind the call -/
theorem Fl.funs (I : Inv X pins σ H s) (f : Fl X.prog X.w X.stack H s H' a C fl s') : s'.heap.FunFrames X.base X.stack := (f.inv I).stack
variable {M : Model} {A : Around} {E : Value → Shared → Prop} {Q : Unit → Shared → Prop}
theorem Fl.note {outer : List Env} (I : Inv X pins σ H s) (hst : X.stack = X.env :: outer) (hf : X.env.frame = some X.env.locals) (hfr : A.frames = some X.stack) (f : Fl X.prog X.w X.stack H s H' a C .none s')
    (h : ∀ s'', Fl X.prog X.w X.stack H s H' a C (rawInt X.env.locals) s'' → Q () s'') : wpAny M A (noteFrame (.ref a) X.env) Q E s' := by
  obtain ⟨T, e, hT, hTn⟩ := f.ex
  have hl := f.funs I
  have fm : ∀ b ∈ frs X.stack, H' b = none := f.frF I
  rw [hst] at hfr hl
  refine note1 hfr hl hf e fun h' T' n1 n2 e' m => h _ ?_
  obtain ⟨g1, g2⟩ := f.fresh n1 n2
  exact f.move fm hT hTn (by rw [hst]; exact m) e' g1 g2
theorem Fl.land {l : List Env} (f : Fl X.prog X.w l H s H' a C fl s') (hfr : ∀ b ∈ frs l, H' b = none) (h : ∀ s'', Fl X.prog X.w l H s H' a C .none s'' → Q () s'') : wpAny M A (setFlight (.ref a) none) Q E s' := by
  obtain ⟨T, e, hT, hTn⟩ := f.ex
  exact flight0 e fun h' e' sb => h _ (f.move hfr hT hTn ⟨fun b o q _ _ hb => (sb.2 b hb).trans q, fun b o q _ _ hb => ⟨o.slots, (sb.2 b hb).trans q⟩⟩ e' hT hTn)
/-- .. through the caller's frame -/
theorem Fl.out (I : Inv X pins σ H s) (hx : X.ex = []) (f : Fl X.prog X.w X.stack H s H' a C fl s') : Fl X.prog X.w X.outer X.H₀ X.s₀ H' a C fl s' := by
  have J := f.inv I
  have old : ∀ b, s.heap.get? b = none → X.s₀.heap.get? b = none := fun b q => by
    cases z : X.s₀.heap.get? b with
    | none => rfl
    | some o =>
      obtain ⟨o', y⟩ := I.base.there b o z (by rw [hx]; simp)
      rw [q] at y; cases y
  obtain ⟨T, e, hT, hTn⟩ := f.ex
  have un := J.base
  rw [hx] at un
  exact ⟨J.os, J.bare, un, J.hok, f.na, old _ f.new, T, e, hT, old _ hTn⟩
end

/-- a def's own body: its frame is the newest -/
structure Frm (X : Cx) : Prop where
  st : X.stack = X.env :: X.outer
  fr : X.env.frame = some X.env.locals
  ex : X.ex = []
/-- an exception that leaves the frame and is wanted behind it is what this body wants of exceptions -/
def OutTo (X : Cx) (E : XK) : Prop := ∀ e s', wpAny (model X.prog X.w) X.A (leaving X.env e) (fun _ s'' => CX1 X.prog X.w X.outer X.H₀ X.s₀ E e s'') (fun e' s'' => CX1 X.prog X.w X.outer X.H₀ X.s₀ E e' s'') s' → X.xe e s'
/-- an exception is made here, and leaves -/
theorem OutTo.made {X : Cx} {E : XK} {pins : List (Addr × Obj)} {σ : St} {H : Hp} {s : Shared} {h' : Heap} {a C : Addr} {vs : List Value} (fr : Frm X) (o : OutTo X E) (I : Inv X pins σ H s) (m : Heap.MadeExcOf s.heap h' a (.ref C) vs) (q : E (.ref C) none H) :
    X.xe (.ref a) { s with heap := h' } := by
  refine o _ _ ?_
  obtain ⟨t, ha, htn, ht⟩ := m.there
  have J : Inv X pins σ H { s with heap := h' } := I.kept (t' := s.toks) m.keeps
  have fm : ∀ b ∈ frs X.stack, H b = none := J.stkFree
  unfold leaving
  have hl := J.stack
  have hfr := J.ok.frames
  rw [fr.st] at hl hfr
  have hn : H a = none := I.hok.none_of m.new
  have gone : ∀ b, h'.get? b = none → s.heap.get? b = none := fun b q => by
    cases z : s.heap.get? b with
    | none => rfl
    | some o => rw [m.keeps b o z] at q; cases q
  refine wpAny_bind (note0 (s := { s with heap := h' }) hfr hl fr.fr ha fun h2 T n1 n2 e mv => ?_)
  have hT : H T = none := J.hok.fresh n2
  have f : Fl X.prog X.w X.stack H s H a C (rawInt X.env.locals) { s with heap := h2 } := by
    have na : ∀ b o, s.heap.get? b = some o → b ≠ a := fun b o q z => by rw [z, m.new] at q; cases q
    have mv' : Mv (frs X.stack) a a h' h2 := by rw [fr.st]; exact mv
    refine ⟨rfl, J.bare, ⟨fun b o q n hb hx => mv'.keep b o (m.keeps b o q) hb (na b o q) (na b o q), fun b o q n hb hx => mv'.slot b o (m.keeps b o q) hb (na b o q) (na b o q), fun b o _ n _ => n, fun b o q _ => ?_, fun _ _ q => q, fun _ _ _ q => q, fun _ ps q => ⟨#[], by rw [q]; simp⟩⟩, ?_, hn, m.new, T, e, hT, gone T n1⟩
    · obtain ⟨sl, q2⟩ := mv'.any (m.keeps b o q) (na b o q) (na b o q)
      exact ⟨_, q2⟩
    · exact J.hok.keep fun b u o e q => mv'.keep b o q (fun z => by rw [fm b z] at e; cases e) (fun z => by rw [z, hn] at e; cases e) (fun z => by rw [z, hn] at e; cases e)
  refine f.land fm fun s3 f3 => ?_
  exact ⟨a, C, H, rfl, f3.out I fr.ex, q⟩
end L2

set_option Elab.async false
set_option linter.all false
set_option maxRecDepth 100000
set_option maxHeartbeats 4000000
/-! raise C('..'), and defs that raise. -/
namespace L2
open PySem PySem.Spec PyProof.Rows

/-- an own class below ValueError, as it stands in the fragment -/
abbrev mroVE : List Value := [.type "ValueError", .type "Exception", .type "BaseException", .type "object"]
def ExcK (K : PySem.W.Frag) (C : Addr) : Prop := PySem.W.excIn K C mroVE "ValueError.__new__" = true
theorem exc_obj {K : PySem.W.Frag} {h : Heap} {C : Addr} (X : K.In h) (q : ExcK K C) :
    ∃ bm N nm qn bs hdct sn sub ab col dd k0 k1 k2 k3 k5 mN, h.get? C = some (excClassObj nm qn C N bs bm hdct sn sub ab col dd k0 k1 k2 k3 k5 "ValueError.__new__") ∧ h.Ns N mN ∧ mN "__init__" = none ∧ OwnTail h mroVE bm := by
  unfold ExcK PySem.W.excIn at q
  split at q
  · rename_i dd cd sl ho
    split at q
    · rename_i C' bm k0 k1 k2 k3 n k5 hm hs
      simp only [Bool.and_eq_true, beq_iff_eq, Bool.not_eq_true'] at q
      obtain ⟨⟨⟨⟨⟨rfl, rfl⟩, hdel⟩, ht⟩, hok⟩, hni⟩ := q
      obtain ⟨nm, bs, mro, ns, qn, hd, sn, sub, ab, col, del⟩ := cd
      dsimp only at hm hdel hok hni
      subst hm hdel
      obtain ⟨l⟩ := sl
      dsimp only at hs
      subst hs
      exact ⟨bm, ns, nm, qn, bs, hd, sn, sub, ab, col, dd, k0, k1, k2, k3, k5, _, X _ _ ho, .of_isNs (PySem.W.isNs_of_in X hok), PySem.W.nsMap_none_of_in X hok hni, PySem.W.tail_of_in X ht⟩
    · cases q
  · cases q

def tRaise (E : XK) (C : Addr) (te : TE) : TS := fun _ σ H => te σ H fun _ H1 => E (.ref C) none H1
theorem ps_raise {X : Cx} {E : XK} {x : Str} {C : Addr} {e0 : Expr} {te : TE} {np cpos pos : Pos} (fr : Frm X) (o : OutTo X E) (hc : X.calm = true) (hg : Gl X x) (hm : X.mg x = some (.ref C)) (hK : ExcK X.K C) (he : PE X e0 te)
    (hpl : plainE e0 = true := by rfl) (hd : (x == ("__debug__" : Str)) = false := by decide) : PS X (.Raise (some (.Call (.Name x np) [e0] [] cpos)) none pos) (tRaise E C te) := by
  intro pins s σ H D I h
  obtain ⟨bm, N, nm, qn, bs, hdct, sn, sub, ab, col, dd, k0, k1, k2, k3, k5, mN, hC, hN, hni, T⟩ := exc_obj I.mod.kin hK
  have hs := star_cons (es := []) (env := X.env) hpl
  refine wpAny_Raise_call_subT (C := C) (nm := nm) (q := qn) (N := N) (bs := bs) (bm := bm) (hdct := hdct) (sn := sn) (sub := sub) (ab := ab) (col := col) (dd := dd) (k0 := k0) (k1 := k1) (k2 := k2) (k3 := k3) (k5 := k5)
    PySem.F.excBase_ValueError (mN := mN) (T.hasType (by decide)) (I.ok.hd hc) (by rw [hs]; rfl) hni (ld_glob I hg hm ⟨rfl, ?_⟩ hd)
  rw [hs]
  refine Calls.evalArgs_plain (Calls.spliced_cons (thn (he pins s σ H _ I h) fun v s2 ⟨y, H1, I1, r, q⟩ => ?_))
  exact Calls.spliced_nil ⟨rfl, (by show 1 ≤ sizeLine; decide), I1.bk _ _ hC, hN.keeps I1.bk, T.keeps I1.bk, fun h' e m => o.made fr I1 m q⟩

/-! ### a def that may raise -/
structure DefX (P : Program) (w : World) (K : PySem.W.Frag) (mg : Str → Option Value) (base : Heap) (k : Nat) (x : Str) (ps : List Str) (sp : Sp) : Prop where
  ex : ∃ (f : Addr) (fd : FuncData), FnOk P w K mg base (CX1 P w) k f fd ps sp ∧ mg x = some (.ref f) ∧ PySem.W.keepIn K (.ref f) = true ∧ Binds K fd ps []
section
variable {P : Program} {w : World} {K : PySem.W.Frag} {mg : Str → Option Value} {base : Heap} {x : Str} {st : Stmt} {ps N : List Str} {k j : Nat} {sp sp' : Sp}
theorem Src.okX (S : Src K mg x st ps) (F : FnScope N ps (defScope st)) (len : ∀ vs H Q E, sp vs H Q E → vs.length = ps.length)
    (hbody : ∀ (f : Addr) (cdv : Value) (A : Around) (outer : List Env) (s : Shared) (H : Hp) (vs : List V) (Q : VK) (E : XK), Room k (A.deeper (envOfC x (defScope st) s.heap.objs.size f cdv)) → sp vs H Q E →
      ∃ t, PSs (cxOf (CX1 P w) P w K mg base N x (defScope st) f cdv A outer s H E) (defBody st) t ∧ t { nx := fun _ H' => Q .non H', rt := Q } (start N vs) H) : DefX P w K mg base (k + 1) x ps sp := by
  obtain ⟨f, fd, F0, hm, hb⟩ := S.ex
  obtain ⟨oc, od, kV, doc, pm, an, cdv, ct, osl, rfl, lk, hcd⟩ := F0.ex
  exact ⟨f, _, fn_of lk hcd F len fun A outer s H vs Q E hr hsp => hbody f cdv A outer s H vs Q E hr hsp, hm, F0.kp, hb⟩
theorem DefX.mono (D : DefX P w K mg base j x ps sp) (h : j ≤ k) : DefX P w K mg base k x ps sp := by
  obtain ⟨f, fd, F, r⟩ := D.ex
  exact ⟨f, fd, F.mono h, r⟩
theorem DefX.imp (D : DefX P w K mg base k x ps sp) (h : ∀ vs H Q E, sp' vs H Q E → sp vs H Q E) : DefX P w K mg base k x ps sp' := by
  obtain ⟨f, fd, F, r⟩ := D.ex
  exact ⟨f, fd, F.imp h, r⟩
theorem frm_cx {CX : CXT} {s : Shared} {H : Hp} {E : XK} {f : Addr} {cdv : Value} {A : Around} {outer : List Env} {sc : Scope} : Frm (cxOf CX P w K mg base N x sc f cdv A outer s H E) := ⟨rfl, rfl, rfl⟩
theorem out_cx {s : Shared} {H : Hp} {E : XK} {f : Addr} {cdv : Value} {A : Around} {outer : List Env} {sc : Scope} : OutTo (cxOf (CX1 P w) P w K mg base N x sc f cdv A outer s H E) E := fun _ _ h => h
end
def tDefX (sp : Sp) (E : XK) (t : TA) : TE := fun σ H Q => t σ H fun vs H1 => sp vs H1 Q E
theorem pe_defX {X : Cx} {k : Nat} {x : Str} {ps : List Str} {sp : Sp} {E : XK} {p pos : Pos} {e : Expr} {es : List Expr} {t : TA} (D : DefX X.prog X.w X.K X.mg X.base k x ps sp) (hr : Room k X.A) (hp : Passes (CX1 X.prog X.w) X E) (hg : Gl X x) (ha : PA X (e :: es) t)
    (hdb : (x == ("__debug__" : Str)) = false := by decide) (hpl : (e :: es).all plainE = true := by rfl) : PE X (.Call (.Name x p) (e :: es) [] pos) (tDefX sp E t) := by
  obtain ⟨f, fd, F, hm, hk, hb⟩ := D.ex
  intro pins s σ H Q I h
  rw [List.all_cons, Bool.and_eq_true] at hpl
  have q := pe_call (p := p) (pos := pos) F hr hg hm hk hb .nil hp ha hdb (star_cons hpl.1) (star_all hpl.2) pins s σ H Q I
  refine q ?_
  have e2 : tCall sp [] E t = tDefX sp E t := by
    funext σ H Q
    unfold tCall tDefX
    simp only [List.append_nil]
  rw [e2]
  exact h
end L2

set_option Elab.async false
set_option linter.all false
set_option maxRecDepth 100000
set_option maxHeartbeats 4000000
/-! try .. except C as n, and defs that are called while an exception is handled. -/
namespace L2
open PySem PySem.Spec PyProof.Rows

theorem Cx.Ok.pnx {X : Cx} (ok : X.Ok) (pl : List (Addr × Obj)) (E : Value → Shared → Prop) : Cx.Ok { X with pn := pl, xe := E } :=
  ⟨ok.mod, ok.kind, ok.glob, ok.blt, ok.above, ok.inj, ok.has, ok.cab, ok.hd, ok.frames, ok.stk, ok.exf, ok.bs, ok.bsz, ok.noex, ok.exfs, ok.funs, ok.frf⟩
/-- a try's body: exceptions wanted as E1, the records at pn as they are -/
abbrev Cx.tr (X : Cx) (pn : List (Addr × Obj)) (E1 : XK) : Cx := { X with pn := pn, xe := fun e s' => ∃ σ H s, Inv { X with pn := pn } [] σ H s ∧ CX1 X.prog X.w X.stack H s E1 e s' }
theorem tr_pass {X : Cx} {pn : List (Addr × Obj)} {E1 : XK} : Passes (CX1 X.prog X.w) (X.tr pn E1) E1 := by
  intro pins σ H s e s' I h
  refine ⟨σ, H, s, ?_, h⟩
  have J : Inv (X.tr pn E1) [] σ H s := I.pins_of fun p hp => absurd hp (by simp)
  exact ⟨J.ok.pnx pn X.xe, J.os, J.bare, J.base, J.loc, J.cell, J.free, J.freeC, J.pin, J.hok, J.len⟩
/-- a handler's suite (or a def that it calls): the exception at a is handled, its object pinned -/
abbrev Cx.hn (X : Cx) (pn : List (Addr × Obj)) (a : Addr) : Cx := { X with A := X.A.mark (some (.ref a)), calm := false, pn := pn, xe := fun _ _ => False }
structure Hd (X : Cx) (a C : Addr) : Prop where
  hd : X.A.handled = some (.ref a)
  pn : ∃ t tb, (a, exo C t tb) ∈ X.pn

section
variable {X : Cx} {pins pn : List (Addr × Obj)} {σ : St} {H H' : Hp} {s s' : Shared} {a C : Addr}
/-- pins of the statement become the context's -/
theorem Inv.toPn (I : Inv X pins σ H s) (E : Value → Shared → Prop) : Inv { X with pn := X.pn ++ pins, xe := E } [] σ H s :=
  ⟨I.ok.pnx _ _, I.os, I.bare, I.base, I.loc, I.cell, I.free, I.freeC, fun p hp => I.pin p (by simpa using hp), I.hok, I.len⟩
theorem Inv.ofPn {E : Value → Shared → Prop} (ok : X.Ok) (I : Inv { X with pn := X.pn ++ pins, xe := E } [] σ H s) : Inv X pins σ H s :=
  ⟨ok, I.os, I.bare, I.base, I.loc, I.cell, I.free, I.freeC, fun p hp => I.pin p (by simpa using hp), I.hok, I.len⟩
theorem Inv.toHn {oe : Obj} (I : Inv { X with pn := pn } [] σ H s) (ho : s.heap.get? a = some oe) (hn : H a = none) (hl : a ≠ X.env.locals) (hf : a ∉ X.fs) (hc : ∀ v, oe.data ≠ .cell v) : Inv (X.hn ((a, oe) :: pn) a) [] σ H s := by
  refine ⟨⟨I.ok.mod, I.ok.kind, I.ok.glob, I.ok.blt, I.ok.above, I.ok.inj, I.ok.has, I.ok.cab, fun z => (Bool.false_ne_true z).elim, I.ok.frames, I.ok.stk, I.ok.exf, I.ok.bs, I.ok.bsz, I.ok.noex, I.ok.exfs, I.ok.funs, I.ok.frf⟩, I.os, I.bare, I.base, I.loc, I.cell, I.free, I.freeC, fun p hp => ?_, I.hok, I.len⟩
  have hp' : p ∈ (a, oe) :: pn := by simpa using hp
  rcases List.mem_cons.mp hp' with rfl | hp'
  · exact ⟨ho, hn, hl, hf, hc⟩
  · exact I.pin p (by simpa using hp')
theorem Inv.ofHn {oe : Obj} (ok : Cx.Ok { X with pn := pn }) (I : Inv (X.hn ((a, oe) :: pn) a) [] σ H s) : Inv { X with pn := pn } [] σ H s :=
  ⟨ok, I.os, I.bare, I.base, I.loc, I.cell, I.free, I.freeC, fun p hp => I.pin p (by
    have hp' : p ∈ pn := by simpa using hp
    simpa using Or.inr hp'), I.hok, I.len⟩
/-- the name behind the suite goes -/
theorem Inv.goes {i : Nat} {n : Str} {h' : Heap} {v : Option Value} {m : Str → Option Value} {tk : Nat} (I : Inv X pins σ H s) (hN : X.N.Nodup) (hi : X.N[i]? = some n) (hl : X.env.kindOf n = some .local) (hn : s.heap.Ns X.env.locals m)
    (hn' : h'.Ns X.env.locals (fun x => if x = n then v else m x)) (hs : Heap.SameBut X.env.locals s.heap h') : Inv X pins (σ.set i none) H { s with heap := h', toks := tk } := by
  obtain ⟨m1, hm1, hl1⟩ := id I.loc
  have e1 : m1 = m := by
    funext x
    obtain ⟨o, es, ep, ho, hd, _, hf⟩ := hm1
    obtain ⟨o', es', ep', ho', hd', _, hf'⟩ := hn
    rw [ho] at ho'; cases ho'
    rw [hd] at hd'; cases hd'
    rw [← hf, ← hf']
  subst e1
  have ln : ∀ {b : Addr} {o : Obj}, X.s₀.heap.get? b = some o → b ≠ X.env.locals := fun q => Nat.ne_of_lt (Nat.lt_of_lt_of_le (Heap.lt_size q) I.ok.above)
  refine ⟨I.ok, I.os, I.bare, ⟨fun b o q n hb hx => (hs.2 b (ln q)).trans (I.base.keep b o q n hb hx), fun b o q n hb hx => ?_, I.base.free, fun b o q hx => ?_, I.base.tups, I.base.frzs, I.base.tbls⟩, ⟨_, hn', fun j y v' q1 q2 q3 => ?_⟩, fun y c q => ?_, I.free, I.freeC, fun p hp => ?_, I.hok.keep fun b u o q z => ?_, by simpa using I.len⟩
  · obtain ⟨sl, z⟩ := I.base.slot b o q n hb hx
    exact ⟨sl, (hs.2 b (ln q)).trans z⟩
  · obtain ⟨o', z⟩ := I.base.there b o q hx
    exact ⟨o', (hs.2 b (ln q)).trans z⟩
  · by_cases hj : j = i
    · subst hj
      rw [List.getElem?_set] at q2
      split at q2
      · split at q2 <;> cases q2
      · exact absurd rfl (by assumption)
    · rw [List.getElem?_set_ne (Ne.symm hj)] at q2
      obtain ⟨u, r, z⟩ := hl1 j y v' q1 q2 q3
      refine ⟨u, r, ?_⟩
      rcases z with ⟨k, z⟩ | ⟨k, c, z1, z2⟩
      · have : y ≠ n := fun z => hj (nodup_ix hN q1 (z ▸ hi))
        exact .inl ⟨k, by simp [this, z]⟩
      · exact .inr ⟨k, c, z1, z2.sameBut hs (I.cne y c z1)⟩
  · obtain ⟨v', z⟩ := I.cell y c q
    exact ⟨v', z.sameBut hs (I.cne y c q)⟩
  · obtain ⟨z1, z2, z3, z4, z5⟩ := I.pin p hp
    exact ⟨(hs.2 p.1 z3).trans z1, z2, z3, z4, z5⟩
  · exact (hs.2 b (fun y => by rw [y, I.free] at q; cases q)).trans z
end

/-- the class at R catches what is of the class at C -/
structure HitK (K : PySem.W.Frag) (R : Addr) : Prop where
  ty : PySem.W.typeIn K (.ref R) = some (.type "type")
  cl : (PySem.W.clsIn K R).isSome = true
  ba : PySem.W.subIn K (.ref R) (.type "BaseException") = some true
theorem isType_in {K : PySem.W.Frag} {M : Model} {h : Heap} {R : Addr} (X : K.In h) (q : (PySem.W.clsIn K R).isSome = true) : PySem.W.Looks M h (isType (.ref R)) true := by
  unfold PySem.W.clsIn at q
  split at q
  · rename_i c' d' cd' sl' ho
    intro A' Q' E' s' k z
    unfold isType loadHead
    exact wpAny_bind (wpAny_loadPart (k _ _ (X _ _ ho)) (wpAny_pure z))
  · cases q
theorem exc_hit {K : PySem.W.Frag} {M : Model} {A : Around} {E : Value → Shared → Prop} {Q : Bool → Shared → Prop} {s : Shared} {a C R : Addr} {oe : Obj} (X : K.In s.heap) (hR : HitK K R) (ha : s.heap.get? a = some oe) (hc : oe.cls = .ref C)
    (h4 : PySem.W.subIn K (.ref C) (.ref R) = some true) (q : Q true s) : wpAny M A (excMatches (.ref a) (.ref R)) Q E s := by
  obtain ⟨h, g, d, tk, os⟩ := s
  have L1 : PySem.W.Looks M h (typeOf (.ref R)) (.type "type") := PySem.W.looks_typeIn X hR.ty
  have L2 : PySem.W.Looks M h (isSubtype (.ref R) (.type "BaseException")) true := PySem.W.looks_subIn X hR.ba
  have L3 : PySem.W.Looks M h (isType (.ref R)) true := isType_in X hR.cl
  have L4 : PySem.W.Looks M h (isSubtype (.ref C) (.ref R)) true := PySem.W.looks_subIn X h4
  have L5 : PySem.W.Looks M h (typeOf (.ref a)) (.ref C) := hc ▸ (PySem.W.Looks.ld ha).andThen .now
  have L6 : PySem.W.Looks M h (isInstance (.ref R) (.type "tuple")) false := L1.andThen (PySem.W.Looks.of_pure tc_notTuple)
  have L7 : PySem.W.Looks M h (isExcClass (.ref R)) true := L3.andThen L2
  unfold excMatches
  refine wpAny_bind (L6.at ?_)
  dsimp only
  rw [if_neg (by decide)]
  refine wpAny_bind (wpAny_pure ?_)
  refine wpAny_bind ?_
  rw [List.forIn_cons]
  refine wpAny_bind (wpAny_bind (L7.at ?_))
  rw [if_neg (by decide)]
  refine wpAny_pure ?_
  dsimp only
  rw [List.forIn_nil]
  refine wpAny_pure ?_
  refine wpAny_bind (L5.at ?_)
  refine wpAny_bind ?_
  rw [List.forIn_cons]
  refine wpAny_bind (wpAny_bind (L4.at ?_))
  rw [if_pos rfl]
  refine wpAny_pure ?_
  dsimp only
  exact wpAny_pure (wpAny_pure q)
end L2

set_option Elab.async false
set_option linter.all false
set_option maxRecDepth 100000
set_option maxHeartbeats 4000000
/-! Sets of texts: made from a list, told in rising order. -/
namespace L2
open PySem PySem.Spec PyProof.Rows

def keyT (e : Int × Value) : Str := strOf e.2
/-- the set at a holds just these texts; where its order is by its table, that table is led -/
def SetS (P : Program) (w : World) (h : Heap) (a : Addr) (ws : List Str) : Prop :=
  ∃ (o : Obj) (es : Array (Int × Value)) (ep : Nat) (t : SetTable), h.get? a = some o ∧ o.ExactSet ∧ o.data = .set es ep t ∧ ElemsOf (PySem.strKind P w) es.toList ∧ (es.toList.map keyT).Perm ws ∧ ws.Nodup ∧
    es.size < scanBound ∧ t.fits es.size = true ∧ (w.params.followText "set-order" = false → t.led = true ∧ (es.size ≠ 0 → t.plain = false))
def insT (ws : List Str) (x : Str) : List Str := if x ∈ ws then ws else ws ++ [x]
theorem stand_led (t : SetTable) (n : Nat) : (t.orStandIn n).led = t.led := by
  unfold SetTable.orStandIn
  split <;> rfl
theorem layNew_led (t : SetTable) (es : Array (Int × Value)) (h : Int) (x : Value) : (layNew t es h x).2.1.led = t.led := by
  unfold layNew
  split
  · dsimp only; rw [stand_led]; rfl
  · rfl
theorem relaid_led {t t' : SetTable} {hs : Array Int} {n : Nat} {os : Array Nat} (h : t.relaid hs n = some (t', os)) : t'.led = t.led ∧ t'.plain = t.plain := by
  unfold SetTable.relaid SetTable.laid at h
  cases hc : SetTable.layClean (SetTable.sizeAbove n - 1) hs with
  | none => rw [hc] at h; cases h
  | some ow =>
    rw [hc] at h
    cases h
    exact ⟨rfl, rfl⟩
theorem relay_led (t : SetTable) (es : Array (Int × Value)) (n : Nat) : (relayAll t es n).2.1.led = t.led ∧ (t.plain = false → (relayAll t es n).2.1.plain = false) := by
  unfold relayAll
  split
  · rename_i t' os e
    have := relaid_led e
    dsimp only
    split
    · exact ⟨this.1, fun h => this.2.trans h⟩
    · exact ⟨rfl, fun _ => rfl⟩
  · exact ⟨rfl, fun _ => rfl⟩
theorem key_of {P : Program} {w : World} {es : List (Int × Value)} (hel : ElemsOf (PySem.strKind P w) es) {e : Int × Value} (he : e ∈ es) : ∃ t, e.2 = .str (keyT e) t := by
  obtain ⟨⟨k, hk, _⟩, _⟩ := hel e he
  obtain ⟨t, ht⟩ := Value.isStrOf_shape hk
  exact ⟨t, by unfold keyT; rw [ht]; rfl⟩
theorem found_iff {P : Program} {w : World} {es : List (Int × Value)} (hel : ElemsOf (PySem.strKind P w) es) (x : Str) : (∃ e ∈ es, (PySem.strKind P w).is x e.2 = true) ↔ x ∈ es.map keyT := by
  constructor
  · rintro ⟨e, he, hp⟩
    obtain ⟨t, ht⟩ := Value.isStrOf_shape hp
    refine List.mem_map.mpr ⟨e, he, ?_⟩
    unfold keyT; rw [ht]; rfl
  · intro h
    obtain ⟨e, he, rfl⟩ := List.mem_map.mp h
    obtain ⟨t, ht⟩ := key_of hel he
    exact ⟨e, he, by rw [ht]; exact strKind_is P w _ t⟩
section
variable {P : Program} {w : World} {A : Around} {E : Value → Shared → Prop} {s : Shared}
theorem stored {a : Addr} {o : Obj} {es es1 : Array (Int × Value)} {ep : Nat} {t t1 : SetTable} {ws : List Str} (ho : s.heap.get? a = some o) (hex : o.ExactSet) (hd : o.data = .set es ep t)
    (hel : ElemsOf (PySem.strKind P w) es1.toList) (hp : (es1.toList.map keyT).Perm ws) (nd : ws.Nodup) (hb : es1.size < scanBound) (hf : t1.fits es1.size = true)
    (hl : w.params.followText "set-order" = false → t1.led = true ∧ (es1.size ≠ 0 → t1.plain = false)) :
    (s.heap.update a (Obj.putSet es1 t1)).get? a = some { o with data := .set es1 (ep + 1) t1 } ∧ SetS P w (s.heap.update a (Obj.putSet es1 t1)) a ws := by
  have hg : (s.heap.update a (Obj.putSet es1 t1)).get? a = some { o with data := .set es1 (ep + 1) t1 } := by
    have q := Heap.get?_update_self (Obj.putSet es1 t1) ho (by rw [putSet_of es1 t1 hd]; rfl)
    rw [putSet_of es1 t1 hd] at q
    exact q
  exact ⟨hg, _, es1, ep + 1, t1, hg, hex, rfl, hel, hp, nd, hb, hf, hl⟩
/-- one text more -/
theorem add_text {a : Addr} {ws : List Str} {x : Str} {tk : Tok} {Q : Bool → Shared → Prop} (hS : SetS P w s.heap a ws) (hroom : ws.length + 1 < scanBound)
    (h : ∀ (b : Bool) (h' : Heap), Heap.SameBut a s.heap h' → SetS P w h' a (insT ws x) → Q b { s with heap := h' }) : wpAny (model P w) A (setAddHashed a (.str x tk) ((PySem.strKind P w).hash x)) Q E s := by
  obtain ⟨o, es, ep, t, ho, hex, hd, hel, hperm, nd, hb, hf, hled⟩ := hS
  have hkey := strKind_is P w x tk
  have hlen : es.size = ws.length := by rw [← hperm.length_eq, List.length_map, Array.length_toList]
  unfold setAddHashed setAddHashedIn
  refine wpAny_holding (wpAny_bind (wpAny_setState_of ho hd hf ?_))
  dsimp only
  rw [byScan_of (x := .str x tk) rfl hb hel]
  simp only [↓reduceIte]
  unfold setAddByScan
  refine wpAny_bind (wpAny_bind (wpAny_rule (wpAny_bind (wpAny_setScan_of hkey ho hd hf hel ?_))))
  cases hr : List.findIdx? (fun e => (PySem.strKind P w).is x e.2) es.toList with
  | some j =>
    dsimp only
    obtain ⟨hj, hpj, _⟩ := List.findIdx?_eq_some_iff_getElem.mp hr
    have hx : x ∈ ws := hperm.mem_iff.mp ((found_iff hel x).mp ⟨_, List.getElem_mem hj, hpj⟩)
    refine wpAny_pure (wpAny_pure ?_)
    have q := h false s.heap (Heap.SameBut.refl a s.heap) ⟨o, es, ep, t, ho, hex, hd, hel, by unfold insT; rw [if_pos hx]; exact hperm, by unfold insT; rw [if_pos hx]; exact nd, hb, hf, hled⟩
    exact q
  | none =>
    dsimp only
    have hx : x ∉ ws := fun hx => by
      obtain ⟨e, he, hp⟩ := (found_iff hel x).mpr (hperm.mem_iff.mpr hx)
      have := List.findIdx?_eq_none_iff.mp hr e he
      rw [hp] at this
      cases this
    have ei : insT ws x = ws ++ [x] := by unfold insT; rw [if_neg hx]
    rw [ei] at h
    have nd' : (ws ++ [x]).Nodup := List.nodup_append.mpr ⟨nd, by simp, fun y hy z hz => by
      rw [List.mem_singleton] at hz
      subst hz
      exact fun e => hx (e ▸ hy)⟩
    have hp1 := layNew_perm t es ((PySem.strKind P w).hash x) (.str x tk)
    have hf1 := layNew_fits t es ((PySem.strKind P w).hash x) (.str x tk)
    have hl1 := layNew_led t es ((PySem.strKind P w).hash x) (.str x tk)
    generalize layNew t es ((PySem.strKind P w).hash x) (.str x tk) = L at hp1 hf1 hl1 ⊢
    obtain ⟨es1, t1, wasDummy, gave⟩ := L
    dsimp only at hp1 hf1 hl1 ⊢
    rw [Array.toList_push] at hp1
    have hel1 : ElemsOf (PySem.strKind P w) es1.toList := (hel.push hkey rfl).perm hp1
    have hperm1 : (es1.toList.map keyT).Perm (ws ++ [x]) := (hp1.map keyT).trans (by rw [List.map_append]; exact hperm.append (List.Perm.refl _))
    have hsz1 : es1.size = ws.length + 1 := by rw [← Array.length_toList, ← List.length_map (f := keyT), hperm1.length_eq, List.length_append]; rfl
    have hb1 : es1.size < scanBound := by omega
    have gw : ∀ (b : Bool) {s₁ : Shared} {Q' : Unit → Shared → Prop}, Q' () s₁ → wpAny (model P w) A (match b with | true => rule "set.scan.the-table-gave-way" | false => pure ()) Q' E s₁ := fun b s₁ Q' hq => by
      cases b
      · exact wpAny_pure hq
      · exact wpAny_rule hq
    refine wpAny_bind (gw _ ?_)
    -- behind the place: the table is no plain one
    have tail : ∀ t2 : SetTable, t2.fits es1.size = true → t2.led = t.led → t2.plain = false → wpAny (model P w) A (do
        storeSet a es1 t2
        if (!wasDummy && t2.tooFull) = true then do
            (match (relayAll t2 es1 (SetTable.grown es1.size)).2.2 with | true => rule "set.scan.the-table-gave-way" | false => pure ())
            storeSet a (relayAll t2 es1 (SetTable.grown es1.size)).1 (relayAll t2 es1 (SetTable.grown es1.size)).2.1
            pure (some true)
          else pure (some true)) (fun r s' => ∃ h', r = some true ∧ s' = { s with heap := h' } ∧ Heap.SameBut a s.heap h' ∧ SetS P w h' a (ws ++ [x])) E s := by
      intro t2 hf2 hl2 hp2
      refine wpAny_bind (wpAny_storeSet_of ho hd ?_ (fits_of_scanBound hb1))
      obtain ⟨ho1, hS1⟩ := stored (P := P) (w := w) ho hex hd hel1 hperm1 nd' hb1 hf2 fun z => ⟨hl2.trans (hled z).1, fun _ => hp2⟩
      have sb1 := Heap.SameBut.update s.heap a (Obj.putSet es1 t2)
      split
      · have hpr := relayAll_perm t2 es1 (SetTable.grown es1.size)
        have hfr := relayAll_fits t2 es1 (SetTable.grown es1.size)
        have hlr := relay_led t2 es1 (SetTable.grown es1.size)
        generalize relayAll t2 es1 (SetTable.grown es1.size) = R at hpr hfr hlr ⊢
        obtain ⟨es2, t3, gave2⟩ := R
        dsimp only at hpr hfr hlr ⊢
        have hsz : es2.size = es1.size := by rw [← Array.length_toList, hpr.length_eq, Array.length_toList]
        have hb2 : es2.size < scanBound := by omega
        refine wpAny_bind (gw _ ?_)
        refine wpAny_bind (wpAny_storeSet_of ho1 rfl ?_ (fits_of_scanBound hb2))
        obtain ⟨_, hS2⟩ := stored (P := P) (w := w) (s := { s with heap := s.heap.update a (Obj.putSet es1 t2) }) ho1 hex rfl (hel1.perm hpr) ((hpr.map keyT).trans hperm1) nd' hb2 hfr fun z => ⟨hlr.1.trans (hl2.trans (hled z).1), fun _ => hlr.2 hp2⟩
        exact wpAny_pure ⟨_, rfl, rfl, sb1.trans (Heap.SameBut.update _ a _), hS2⟩
      · exact wpAny_pure ⟨_, rfl, rfl, sb1, hS1⟩
    have fin : ∀ (r : Option Bool) (s' : Shared), (∃ h', r = some true ∧ s' = { s with heap := h' } ∧ Heap.SameBut a s.heap h' ∧ SetS P w h' a (ws ++ [x])) → ∃ h', r = some true ∧ s' = { s with heap := h' } ∧ Q true { s with heap := h' } := fun r s' ⟨h', e1, e2, e3, e4⟩ => ⟨h', e1, e2, h true h' e3 e4⟩
    split
    · refine wpAny_bind ?_
      rw [hashByValue_scannable 8 (x := .str x tk) rfl]
      refine wpAny_pure (wpAny_mono (tail { t1 with plain := false } (SetTable.fits_plain_off hf1) hl1 rfl) (fun r s' z => ?_) fun _ _ e => e)
      obtain ⟨h', rfl, rfl, q⟩ := fin r s' z
      exact wpAny_pure q
    · rename_i hpl
      refine wpAny_bind (wpAny_pure ?_)
      refine wpAny_mono (tail t1 hf1 hl1 (Bool.eq_false_iff.mpr hpl)) (fun r s' z => ?_) fun _ _ e => e
      obtain ⟨h', rfl, rfl, q⟩ := fin r s' z
      exact wpAny_pure q
end
end L2

set_option Elab.async false
set_option linter.all false
set_option maxRecDepth 100000
set_option maxHeartbeats 4000000
namespace L2
open PySem PySem.Spec PyProof.Rows
def foldT (l : List Str) : List Str := l.foldl insT []
theorem foldT_snoc (l : List Str) (x : Str) : foldT (l ++ [x]) = insT (foldT l) x := by unfold foldT; rw [List.foldl_append]; rfl
theorem insT_nodup {ws : List Str} (h : ws.Nodup) (x : Str) : (insT ws x).Nodup := by
  unfold insT
  split
  · exact h
  · rename_i hx
    exact List.nodup_append.mpr ⟨h, by simp, fun y hy z hz => by
      rw [List.mem_singleton] at hz
      subst hz
      exact fun e => hx (e ▸ hy)⟩
theorem insT_mem {ws : List Str} {x y : Str} : y ∈ insT ws x ↔ y ∈ ws ∨ y = x := by
  unfold insT
  split
  · rename_i hx
    exact ⟨.inl, fun h => h.elim id fun e => e ▸ hx⟩
  · rw [List.mem_append, List.mem_singleton]
theorem foldT_facts (l : List Str) : (foldT l).Nodup ∧ ∀ y, y ∈ foldT l ↔ y ∈ l := by
  suffices h : ∀ (l : List Str) (ws : List Str), ws.Nodup → (l.foldl insT ws).Nodup ∧ ∀ y, y ∈ l.foldl insT ws ↔ y ∈ ws ∨ y ∈ l by
    obtain ⟨a, b⟩ := h l [] List.nodup_nil
    exact ⟨a, fun y => (b y).trans (by simp)⟩
  intro l
  induction l with
  | nil => intro ws h; exact ⟨h, fun y => by simp⟩
  | cons x r ih =>
    intro ws h
    obtain ⟨a, b⟩ := ih (insT ws x) (insT_nodup h x)
    exact ⟨a, fun y => (b y).trans (by rw [insT_mem, List.mem_cons, or_assoc])⟩
theorem SetS.at {P : Program} {w : World} {h h' : Heap} {a : Addr} {ws : List Str} (H : SetS P w h a ws) (k : ∀ o, h.get? a = some o → h'.get? a = some o) : SetS P w h' a ws := by
  obtain ⟨o, es, ep, t, ho, r⟩ := H
  exact ⟨o, es, ep, t, k o ho, r⟩
section
variable {P : Program} {w : World} {A : Around} {E : Value → Shared → Prop}
/-- all texts of the walk go into the set -/
theorem fill_loop {R : Result → Shared → Prop} {I S l : Addr} {its : Array Value} {xs : List Str} (W : Walks P w A.in1 I [I, l] [I] its.size (fun i v => its[i]? = some v) (fun i h => h.IsListIter I l i ∧ h.IsList l its)) (hSI : S ≠ I) (hSl : S ≠ l)
    (hx : ∀ (i : Nat) (v : Value), its[i]? = some v → ∃ x t, xs[i]? = some x ∧ v = .str x t) (hn : xs.length = its.size) (hb : ∀ i, (foldT (xs.take i)).length + 1 < scanBound) :
    ∀ (k i : Nat) (s : Shared), its.size - i = k → i ≤ its.size → s.heap.IsListIter I l i ∧ s.heap.IsList l its → SetS P w s.heap S (foldT (xs.take i)) →
      (∀ (h' : Heap) (tk : Nat), (∀ b o, b ≠ S → b ≠ I → s.heap.get? b = some o → h'.get? b = some o) → SetS P w h' S (foldT xs) → R (.ok (.ret .none)) { s with heap := h', toks := tk }) →
      codeAny (model P w) A (.builtin "set.update.loop" ⟨[.ref S, .ref I], []⟩) R s := by
  intro k
  induction k with
  | zero =>
    intro i s hk hi st hS q
    obtain rfl : i = its.size := by omega
    refine codeAny_builtin F.entry_set_update_loop ?_
    rw [Around.under_plainId F.plain_set_update_loop _]
    show wpAny _ A.in1 (pyNext (.ref I) >>= _) _ _ s
    refine wpAny_bind (W.done s _ _ st fun h' tk kp => ?_)
    show wpAny _ A.in1 (ret Value.none) _ _ _
    have e : foldT (xs.take its.size) = foldT xs := by rw [← hn, List.take_length]
    exact wpAny_pure (q h' tk (fun b o _ hbI g => kp b o (by simp [hbI]) g) (e ▸ hS.at fun o g => kp S o (by simp [hSI]) g))
  | succ k ih =>
    intro i s hk hi st hS q
    have hlt : i < its.size := by omega
    refine codeAny_builtin F.entry_set_update_loop ?_
    rw [Around.under_plainId F.plain_set_update_loop _]
    show wpAny _ A.in1 (pyNext (.ref I) >>= _) _ _ s
    refine wpAny_bind (W.item i s _ _ hlt st fun v h' tk hv st' kp => ?_)
    obtain ⟨x, t, hxi, rfl⟩ := hx i v hv
    have hS' : SetS P w h' S (foldT (xs.take i)) := hS.at fun o g => kp S o (by simp [hSI]) g
    show wpAny _ A.in1 (holding [Value.str x t] (setAdd S (.str x t)) >>= _) _ _ _
    refine wpAny_bind (wpAny_holding ?_)
    unfold setAdd
    refine wpAny_holding (wpAny_bind ((PySem.strKind P w).pyHash (k := x) (strKind_is _ _ _ _) ?_))
    refine add_text (s := { s with heap := h', toks := tk + 1 }) hS' (hb i) fun b h2 sb hS2 => ?_
    have e : foldT (xs.take (i + 1)) = insT (foldT (xs.take i)) x := by rw [List.take_add_one, hxi]; exact foldT_snoc _ _
    refine wpAny_pure ⟨plainId_quiet F.plain_set_update_loop _, ih (i + 1) _ (by omega) hlt (W.frame _ _ _ st' fun c hc o g => ?_) (e ▸ hS2) fun h3 tk3 kp3 hS3 => ?_⟩
    · rw [sb.2 c (by
        simp only [List.mem_cons, List.not_mem_nil, or_false] at hc
        rcases hc with rfl | rfl
        · exact Ne.symm hSI
        · exact Ne.symm hSl)]
      exact g
    · refine q h3 tk3 (fun c o hcS hcI g => kp3 c o hcS hcI ?_) hS3
      show h2.get? c = some o
      rw [sb.2 c hcS]
      exact kp c o (by simp [hcI]) g
/-- the new set, its table led where its order is by the table -/
theorem new_led (a : Value) {s : Shared} {Q₁ : Value → Shared → Prop}
    (h : Q₁ (.ref s.heap.objs.size) { s with heap := s.heap.push { cls := .type "set", dict := none, data := .set #[] 0 (.fresh 0 0 (!w.params.followText "set-order")) } }) :
    codeAny (model P w) A (.call (.builtin "set.__new__") ⟨[.type "set", a], []⟩) (wants Q₁ E) s := by
  refine codeAny_of_tree ?_
  show wpAny _ A.in1 (do checkBuiltinCall "set.__new__" ⟨[.type "set", a], []⟩; again (.builtin "set.__new__" ⟨[.type "set", a], []⟩)) _ _ s
  refine wpAny_bind (wpAny_of_eq (F.newCall_set_1 a) (wpAny_pure ⟨plainId_quiet F.plain_set_new _, codeAny_builtin F.entry_set_new ?_⟩))
  rw [Around.under_plainId F.plain_set_new _]
  unfold Builtin.«set.__new__» Builtin.Frozenset.newClass
  have hsub := sub_set_self
  obtain ⟨hp, g, d, tk, os⟩ := s
  dsimp only
  wp_walk
  refine wpAny_askSetting (wpAny_pure ?_)
  dsimp only
  simp only [newObj]
  refine wpAny_bind (wpAny_alloc (wpAny_pure ?_))
  exact wpAny_pure h
end
end L2

set_option Elab.async false
set_option linter.all false
set_option maxRecDepth 100000
set_option maxHeartbeats 4000000
namespace L2
open PySem PySem.Spec PyProof.Rows
section
variable {P : Program} {w : World} {A : Around} {E : Value → Shared → Prop} {s : Shared}
/-- set(x): the new set, then what fills it -/
theorem set_call {x : Value} {Q : Value → Shared → Prop}
    (hnext : wpAny (model P w) A.in1.in1 (Builtin.«set.__init__» ⟨[.ref s.heap.objs.size, x], []⟩)
        (fun fin s' => match fin with | .done f => wants (fun r s₂ => r = .none ∧ Q (.ref s.heap.objs.size) s₂) E (.ok f) s' | .again c' => c'.quiet = true ∧ codeAny (model P w) A.in1 c' (wants (fun r s₂ => r = .none ∧ Q (.ref s.heap.objs.size) s₂) E) s')
        (fun e s' => wants (fun r s₂ => r = .none ∧ Q (.ref s.heap.objs.size) s₂) E (.error e) s') { s with heap := s.heap.push { cls := .type "set", dict := none, data := .set #[] 0 (.fresh 0 0 (!w.params.followText "set-order")) } }) :
    wpAny (model P w) A (call (.type "set") [x]) Q E s := by
  have ft := F.called_set
  obtain ⟨c, tl, hmro⟩ := ft.mro; have hmade := ft.made; have hsub := ft.sub; have h1 := ft.notType; have h2 := ft.canCreate; have hct := F.typeCall_set_1 x
  refine wpAny_call (codeAny_of_tree (show wpAny _ _ (callAny (.type "set") _) _ _ _ from wpAny_pure ⟨Code.quiet_builtin _ (by decide +kernel), codeAny_builtin F.entry_type_call ?_⟩))
  rw [Around.under_plain (weight_type_call_type "set" [x] []) rfl]
  repeat (any_goals (first | assumption | wp_step))
  refine codeAny_mono (new_led (P := P) (w := w) x (E := E) (Q₁ := fun obj s₁ => obj = .ref s.heap.objs.size ∧ s₁ = { s with heap := s.heap.push { cls := .type "set", dict := none, data := .set #[] 0 (.fresh 0 0 (!w.params.followText "set-order")) } }) ⟨rfl, rfl⟩) fun r s₁ hr => ?_
  match r, hr with
  | .error e, hr => exact hr
  | .ok (.ret obj), hr =>
    obtain ⟨rfl, rfl⟩ := hr
    have hT : Shared.TypeIs { s with heap := s.heap.push { cls := .type "set", dict := none, data := .set #[] 0 (.fresh 0 0 (!w.params.followText "set-order")) } } (.ref s.heap.objs.size) "set" := ⟨_, Heap.get?_push_size _ rfl, rfl⟩
    have hli := ft.init.lookup; have hbi := ft.init.bind (.ref s.heap.objs.size)
    repeat (any_goals (first | assumption | wp_step))
    refine codeAny_mono (codeAny_call_builtin ft.init.plain F.entry_set_init (check_set_init_1 hT hnext)) fun r₂ s₂ hr₂ => ?_
    match r₂, hr₂ with
    | .error e, hr₂ => exact hr₂
    | .ok (.ret u), hr₂ =>
      obtain ⟨rfl, hq⟩ := hr₂
      repeat (any_goals (first | assumption | wp_step))
    | .ok .next, hr₂ => exact hr₂.elim
    | .ok .brk, hr₂ => exact hr₂.elim
    | .ok .cont, hr₂ => exact hr₂.elim
  | .ok .next, hr => exact hr.elim
  | .ok .brk, hr => exact hr.elim
  | .ok .cont, hr => exact hr.elim
end
end L2

set_option Elab.async false
set_option linter.all false
set_option maxRecDepth 100000
set_option maxHeartbeats 4000000
namespace L2
open PySem PySem.Spec PyProof.Rows
section
variable {P : Program} {w : World} {A : Around} {E : Value → Shared → Prop} {s : Shared}
/-- set(a list of texts) -/
theorem set_of_texts {l : Addr} {its : Array Value} {xs : List Str} {Q : Value → Shared → Prop} (hh : A.handled = none) (hl : s.heap.IsList l its)
    (hx : ∀ (i : Nat) (v : Value), its[i]? = some v → ∃ x t, xs[i]? = some x ∧ v = .str x t) (hn : xs.length = its.size) (hb : ∀ i, (foldT (xs.take i)).length + 1 < scanBound)
    (h : ∀ (h' : Heap) (tk : Nat), SetS P w h' s.heap.objs.size (foldT xs) → (∀ b o, s.heap.get? b = some o → h'.get? b = some o) → Q (.ref s.heap.objs.size) { s with heap := h', toks := tk }) :
    wpAny (model P w) A (call (.type "set") [.ref l]) Q E s := by
  refine set_call ?_
  generalize ho : ({ cls := .type "set", dict := none, data := .set #[] 0 (.fresh 0 0 (!w.params.followText "set-order")) } : Obj) = o
  have hS : (s.heap.push o).get? s.heap.objs.size = some o := Heap.get?_push_size _ (by rw [← ho]; rfl)
  have hS0 : SetS P w (s.heap.push o) s.heap.objs.size (foldT (xs.take 0)) := by
    refine ⟨o, #[], 0, .fresh 0 0 (!w.params.followText "set-order"), hS, by rw [← ho]; exact ⟨rfl, rfl, rfl⟩, by rw [← ho], fun e he => by simp at he, ?_, ?_, by decide, by rfl, fun z => ⟨?_, fun y => absurd rfl y⟩⟩
    · exact List.Perm.refl _
    · exact List.nodup_nil
    · show (!w.params.followText "set-order") = true
      rw [z]; rfl
  obtain ⟨ol, hol, hcl, nl, hdl⟩ := hl
  have hol1 := Heap.get?_push_of_some o hol
  have hl1 : (s.heap.push o).IsList l its := ⟨_, hol1, hcl, nl, hdl⟩
  have hlS : l < s.heap.objs.size := Heap.lt_size hol
  have hsz : (s.heap.push o).objs.size = s.heap.objs.size + 1 := size_push' _ _
  obtain ⟨oc, od, odt, osl⟩ := ol
  simp only at hcl hdl
  subst hcl; subst hdl
  have e1 := F.sub_list_set
  have e2 := F.sub_list_frozenset
  have e3 : (Value.type "list" == Value.type "dict") = false := by decide
  have n1 : l ≠ (s.heap.push o).objs.size := by rw [hsz]; exact Nat.ne_of_lt (Nat.lt_succ_of_lt hlS)
  have n2 : s.heap.objs.size ≠ (s.heap.push o).objs.size := by rw [hsz]; exact Nat.ne_of_lt (Nat.lt_succ_self _)
  subst ho
  unfold Builtin.«set.__init__» noKeywords Builtin.Frozenset.updateFrom
  generalize hPI : pyIter = PI
  wp_walk
  subst hPI
  refine wpAny_pyIter_list hl1 ?_
  refine wpAny_bind (wpAny_runValue ?_)
  have hh3 : A.in1.in1.in1.handled = none := by simp [hh]
  refine fill_loop (P := P) (w := w) (A := A.in1.in1) (xs := xs) (Walks.list hh3 _ l n1 its) n2 (Nat.ne_of_gt hlS) hx hn hb (its.size - 0) 0 _ (by omega) (Nat.zero_le _) ⟨⟨_, Heap.get?_push_size _ rfl, rfl, rfl⟩, hl1.push _⟩ (hS0.at fun o' g => Heap.get?_push_of_some _ g) fun h' tk kp hS' => ?_
  show wpAny _ _ _ _ _ _
  refine wpAny_pure ?_
  show wpAny _ _ (ret Value.none) _ _ _
  refine wpAny_pure ⟨rfl, h h' tk hS' fun c o' g => ?_⟩
  have gc := Heap.lt_size g
  exact kp c o' (Nat.ne_of_lt gc) (by rw [hsz]; exact Nat.ne_of_lt (Nat.lt_succ_of_lt gc)) (Heap.get?_push_of_some _ (Heap.get?_push_of_some _ g))
end
end L2

set_option Elab.async false
set_option linter.all false
set_option maxRecDepth 100000
set_option maxHeartbeats 4000000
namespace L2
open PySem PySem.Spec PyProof.Rows
theorem si_next : Slot "set_iterator" "__next__" "set_iterator.__next__" := by
  refine .of (owner := "set_iterator") (n := "__next__") ?_ ?_ ?_ ?_ ?_ ?_
  · rw [typeLookup_type, builtinLookup_eq_fast]; kernel_rfl
  · decide +kernel
  · decide +kernel
  · decide +kernel
  · first | exact .inl (by decide +kernel) | exact .inr (by decide +kernel)
  · rw [isSubtype_type]; kernel_rfl
theorem si_entry : entryFor table "set_iterator.__next__" = some Builtin.«set_iterator.__next__» := entryFor_of_tree (by kernel_rfl)
theorem si_args (a : Value) : argsOk "set_iterator.__next__" ⟨[a], []⟩ := by
  unfold argsOk
  kernel_rfl
theorem set_iter_entry : entryFor table "set.__iter__" = some Builtin.«frozenset.__iter__» := by
  refine entryFor_alias (id' := "frozenset.__iter__") ?_ rfl ?_ ?_
  · kernel_rfl
  · decide +kernel
  · kernel_rfl
/-- the walk's own record -/
def SIt (h : Heap) (I a : Addr) (first : Value) (i n ep : Nat) : Prop := ∃ o, h.get? I = some o ∧ o.cls = .type "set_iterator" ∧ o.data = .fields #[first, .int i 0, .ref a, .int n 0, .int ep 0]
theorem SIt.typeIs {s : Shared} {I a : Addr} {first : Value} {i n ep : Nat} (h : SIt s.heap I a first i n ep) : s.TypeIs (.ref I) "set_iterator" := let ⟨o, ho, hc, _⟩ := h; ⟨o, ho, hc⟩
section
variable {P : Program} {w : World} {A : Around} {E : Value → Shared → Prop} {s : Shared}
/-- a step where no order was drawn -/
theorem si_item {I a : Addr} {slot i n ep nx : Nat} {o : Obj} {es : Array (Int × Value)} {t : SetTable} {v : Value} {Q : Option Value → Shared → Prop} (hit : SIt s.heap I a (.int slot 0) i n ep) (ho : s.heap.get? a = some o) (hd : o.data = .set es ep t) (hf : t.fits es.size = true) (hn : es.size = n)
    (hx : ∀ (A' : Around) (E' : Value → Shared → Prop) (Q' : Option (Value × Nat) → Shared → Prop), Q' (some (v, nx)) s → wpAny (model P w) A' (setNext a slot i ep) Q' E' s)
    (q : ∀ h', SIt h' I a (.int nx 0) (i + 1) n ep → Heap.SameBut I s.heap h' → Q (some v) { s with heap := h' }) : wpAny (model P w) A (pyNext (.ref I)) Q E s := by
  obtain ⟨oI, hoI, hc, hdI⟩ := id hit
  unfold pyNext
  refine wpAny_bind (wpAny_attempt (wpAny_callSpecial?_slot (name := Str.ofString "__next__") hit.typeIs si_next (wpAny_call_entry si_next hit.typeIs si_entry ?_ (si_args _))))
  unfold Builtin.«set_iterator.__next__»
  refine wpAny_bind (wpAny_pure ?_)
  refine wpAny_bind (wpAny_fieldsOf hoI hdI ?_)
  show wpAny _ _ (setEntries a >>= _) _ _ s
  refine wpAny_bind (wpAny_setEntries_of ho hd hf ?_)
  rw [if_neg (by rw [hn]; simp)]
  show wpAny _ _ (setNext a ((slot : Int).toNat) ((i : Int).toNat) ((ep : Int).toNat) >>= _) _ _ s
  rw [Int.toNat_natCast, Int.toNat_natCast, Int.toNat_natCast]
  refine wpAny_bind (hx _ _ _ ?_)
  show wpAny _ _ (setField (.ref I) 0 (rawInt nx) >>= _) _ _ s
  refine wpAny_bind (wpAny_setField hoI hdI (by simp) ?_)
  have g1 := Heap.get?_update_self (Obj.mapFields (·.setIfInBounds 0 (rawInt nx))) hoI (Obj.isFreed_of_fields (Obj.data_mapFields hdI _))
  have d1 := Obj.data_mapFields hdI (·.setIfInBounds 0 (rawInt nx))
  have c1 : (Obj.mapFields (·.setIfInBounds 0 (rawInt nx)) oI).cls = .type "set_iterator" := (Obj.cls_mapFields ..).trans hc
  refine wpAny_bind (wpAny_setField (s := { s with heap := s.heap.update I (Obj.mapFields (·.setIfInBounds 0 (rawInt nx))) }) g1 d1 (by simp) ?_)
  have g2 := Heap.get?_update_self (Obj.mapFields (·.setIfInBounds 1 (rawInt ((i : Int) + 1)))) g1 (Obj.isFreed_of_fields (Obj.data_mapFields d1 _))
  have d2 := Obj.data_mapFields d1 (·.setIfInBounds 1 (rawInt ((i : Int) + 1)))
  refine wpAny_pure ⟨v, rfl, wpAny_pure (q _ ⟨_, g2, (Obj.cls_mapFields ..).trans c1, ?_⟩ ((Heap.SameBut.update ..).trans (Heap.SameBut.update ..)))⟩
  rw [d2]
  simp [rawInt]
end
end L2

set_option Elab.async false
set_option linter.all false
set_option maxRecDepth 100000
set_option maxHeartbeats 4000000
namespace L2
open PySem PySem.Spec PyProof.Rows
section
variable {P : Program} {w : World} {A : Around} {E : Value → Shared → Prop} {s : Shared}
/-- the end where no order was drawn -/
theorem si_end {I a : Addr} {slot i n ep : Nat} {o : Obj} {es : Array (Int × Value)} {t : SetTable} {Q : Option Value → Shared → Prop} (hh : A.handled = none) (hit : SIt s.heap I a (.int slot 0) i n ep) (ho : s.heap.get? a = some o) (hd : o.data = .set es ep t) (hf : t.fits es.size = true) (hn : es.size = n)
    (hx : ∀ (A' : Around) (E' : Value → Shared → Prop) (Q' : Option (Value × Nat) → Shared → Prop), Q' none s → wpAny (model P w) A' (setNext a slot i ep) Q' E' s)
    (q : ∀ h', Heap.ExtBut I s.heap h' → Q none { s with heap := h' }) : wpAny (model P w) A (pyNext (.ref I)) Q E s := by
  obtain ⟨oI, hoI, hc, hdI⟩ := id hit
  unfold pyNext
  refine wpAny_bind (wpAny_attempt (wpAny_callSpecial?_slot (name := Str.ofString "__next__") hit.typeIs si_next (wpAny_call_entry si_next hit.typeIs si_entry ?_ (si_args _))))
  unfold Builtin.«set_iterator.__next__»
  refine wpAny_bind (wpAny_pure (wpAny_bind (wpAny_fieldsOf hoI hdI ?_)))
  show wpAny _ _ (setEntries a >>= _) _ _ s
  refine wpAny_bind (wpAny_setEntries_of ho hd hf ?_)
  rw [if_neg (by rw [hn]; simp)]
  show wpAny _ _ (setNext a ((slot : Int).toNat) ((i : Int).toNat) ((ep : Int).toNat) >>= _) _ _ s
  rw [Int.toNat_natCast, Int.toNat_natCast, Int.toNat_natCast]
  refine wpAny_bind (hx _ _ _ ?_)
  show wpAny _ _ (setField (.ref I) 2 .none >>= _) _ _ s
  refine wpAny_bind (wpAny_setField hoI hdI (by simp) ?_)
  refine wpAny_bind (show wpAny _ _ (newExc (.type "StopIteration") []) _ _ _ from ?_); simp only [newExc, newTuple]
  refine wpAny_bind (wpAny_newObj_type ?_ (by size_fits)); refine wpAny_bind (m := firstArgMember _ _) (wpAny_of_eq (a := Value.none) rfl ?_); refine wpAny_newObj_type ?_ (by size_fits)
  simp only [raiseNew]; refine wpAny_bind (wpAny_handled ?_); rw [show A.in1.handled = none from hh]; refine wpAny_bind (wpAny_pure (wpAny_throw ?_))
  refine wpAny_bind (wpAny_isInstance (T := "StopIteration") (b := true) ⟨_, Heap.get?_push_size _ rfl, rfl⟩ isSubtype_stop (wpAny_pure (q _ (((Heap.SameBut.update ..).extBut.push _).push _))))
/-- a step by a drawn order -/
theorem sd_item {I a pl : Addr} {i n ep k : Nat} {o : Obj} {es : Array (Int × Value)} {t : SetTable} {v : Value} {z : Int} {tk : Tok} {ps : Array Value} {Q : Option Value → Shared → Prop} (hit : SIt s.heap I a (.ref pl) i n ep) (ho : s.heap.get? a = some o) (hd : o.data = .set es ep t) (hf : t.fits es.size = true) (hn : es.size = n)
    (hp : s.heap.IsTuple pl ps) (hk : ps[i]? = some (.int k tk)) (he : es[k]? = some (z, v))
    (q : ∀ h', SIt h' I a (.ref pl) (i + 1) n ep → Heap.SameBut I s.heap h' → Q (some v) { s with heap := h' }) : wpAny (model P w) A (pyNext (.ref I)) Q E s := by
  obtain ⟨oI, hoI, hc, hdI⟩ := id hit
  obtain ⟨op, hop, hpc, mp, hpd⟩ := hp
  unfold pyNext
  refine wpAny_bind (wpAny_attempt (wpAny_callSpecial?_slot (name := Str.ofString "__next__") hit.typeIs si_next (wpAny_call_entry si_next hit.typeIs si_entry ?_ (si_args _))))
  unfold Builtin.«set_iterator.__next__»
  refine wpAny_bind (wpAny_pure (wpAny_bind (wpAny_fieldsOf hoI hdI ?_)))
  show wpAny _ _ (setEntries a >>= _) _ _ s
  refine wpAny_bind (wpAny_setEntries_of ho hd hf ?_)
  rw [if_neg (by rw [hn]; simp)]
  show wpAny _ _ (seqItems? (.ref pl) >>= _) _ _ s
  refine wpAny_bind (wpAny_seqItems hop hpd ?_)
  simp only [Int.toNat_natCast, hk]
  refine wpAny_bind ?_
  unfold setNextDrawn
  refine wpAny_bind (wpAny_setState_of ho hd hf ?_)
  dsimp only
  rw [if_neg (by simp)]
  simp only [he]
  refine wpAny_pure ?_
  refine wpAny_bind (wpAny_setField hoI hdI (by simp) ?_)
  have g2 := Heap.get?_update_self (Obj.mapFields (·.setIfInBounds 1 (rawInt ((i : Int) + 1)))) hoI (Obj.isFreed_of_fields (Obj.data_mapFields hdI _))
  refine wpAny_pure ⟨v, rfl, wpAny_pure (q _ ⟨_, g2, (Obj.cls_mapFields ..).trans hc, ?_⟩ (Heap.SameBut.update ..))⟩
  rw [Obj.data_mapFields hdI]
  simp [rawInt]
/-- the end of a drawn order -/
theorem sd_end {I a pl : Addr} {i n ep : Nat} {o : Obj} {es : Array (Int × Value)} {t : SetTable} {ps : Array Value} {Q : Option Value → Shared → Prop} (hh : A.handled = none) (hit : SIt s.heap I a (.ref pl) i n ep) (ho : s.heap.get? a = some o) (hd : o.data = .set es ep t) (hf : t.fits es.size = true) (hn : es.size = n)
    (hp : s.heap.IsTuple pl ps) (hk : ps[i]? = none) (q : ∀ h', Heap.ExtBut I s.heap h' → Q none { s with heap := h' }) : wpAny (model P w) A (pyNext (.ref I)) Q E s := by
  obtain ⟨oI, hoI, hc, hdI⟩ := id hit
  obtain ⟨op, hop, hpc, mp, hpd⟩ := hp
  unfold pyNext
  refine wpAny_bind (wpAny_attempt (wpAny_callSpecial?_slot (name := Str.ofString "__next__") hit.typeIs si_next (wpAny_call_entry si_next hit.typeIs si_entry ?_ (si_args _))))
  unfold Builtin.«set_iterator.__next__»
  refine wpAny_bind (wpAny_pure (wpAny_bind (wpAny_fieldsOf hoI hdI ?_)))
  show wpAny _ _ (setEntries a >>= _) _ _ s
  refine wpAny_bind (wpAny_setEntries_of ho hd hf ?_)
  rw [if_neg (by rw [hn]; simp)]
  show wpAny _ _ (seqItems? (.ref pl) >>= _) _ _ s
  refine wpAny_bind (wpAny_seqItems hop hpd ?_)
  simp only [Int.toNat_natCast, hk]
  refine wpAny_bind (wpAny_setField hoI hdI (by simp) ?_)
  have g1 := Heap.get?_update_self (Obj.mapFields (·.setIfInBounds 0 (rawInt 0))) hoI (Obj.isFreed_of_fields (Obj.data_mapFields hdI _))
  refine wpAny_bind (wpAny_setField (s := { s with heap := s.heap.update I (Obj.mapFields (·.setIfInBounds 0 (rawInt 0))) }) g1 (Obj.data_mapFields hdI _) (by simp) ?_)
  refine wpAny_bind (show wpAny _ _ (newExc (.type "StopIteration") []) _ _ _ from ?_); simp only [newExc, newTuple]
  refine wpAny_bind (wpAny_newObj_type ?_ (by size_fits)); refine wpAny_bind (m := firstArgMember _ _) (wpAny_of_eq (a := Value.none) rfl ?_); refine wpAny_newObj_type ?_ (by size_fits)
  simp only [raiseNew]; refine wpAny_bind (wpAny_handled ?_); rw [show A.in1.handled = none from hh]; refine wpAny_bind (wpAny_pure (wpAny_throw ?_))
  refine wpAny_bind (wpAny_isInstance (T := "StopIteration") (b := true) ⟨_, Heap.get?_push_size _ rfl, rfl⟩ isSubtype_stop (wpAny_pure (q _ ((((Heap.SameBut.update ..).trans (Heap.SameBut.update ..)).extBut.push _).push _))))
end
end L2

set_option Elab.async false
set_option linter.all false
set_option maxRecDepth 100000
set_option maxHeartbeats 4000000
namespace L2
open PySem PySem.Spec PyProof.Rows
section
variable {P : Program} {w : World} {A : Around} {E : Value → Shared → Prop}
theorem wp_draw {src : Source} {n : Nat} {s : Shared} {Q : Nat → Shared → Prop} (hn : n ≠ 0) (h : ∀ i, i < n → ∀ d, Q i { s with drawn := d }) : wpAny (model P w) A (choose src n) Q E s := by
  intro Γ p hΓ
  show Sem.wp _ _ (.choose src n .pure) _ _ _ _
  rw [Sem.wp_choose]
  exact ⟨hn, h _ (Nat.mod_lt _ (Nat.pos_of_ne_zero hn)) _⟩
theorem perm_erase {α : Type} : ∀ {xs : List α} {i : Nat} {x : α}, xs[i]? = some x → (x :: xs.eraseIdx i).Perm xs
  | y :: r, 0, x, h => by
    simp at h
    subst h
    exact List.Perm.refl _
  | y :: r, i + 1, x, h => by
    simp at h
    rw [List.eraseIdx_cons_succ]
    exact (List.Perm.swap y x _).trans ((perm_erase (by simpa using h)).cons y)
theorem wp_order {α : Type} : ∀ (n : Nat) (xs : List α) (s : Shared) {Q : List α → Shared → Prop}, xs.length = n → (∀ ys d, ys.Perm xs → Q ys { s with drawn := d }) → wpAny (model P w) A (drawOrder n xs) Q E s
  | 0, xs, s, Q, hl, h => by
    obtain rfl := List.length_eq_zero_iff.mp hl
    exact wpAny_pure (h [] s.drawn (List.Perm.refl _))
  | n + 1, [], s, Q, hl, h => by cases hl
  | n + 1, y :: r, s, Q, hl, h => by
    unfold drawOrder
    refine wpAny_bind (wp_draw (by simp) fun i hi d => ?_)
    obtain ⟨x, hx⟩ : ∃ x, (y :: r)[i]? = some x := ⟨_, List.getElem?_eq_getElem hi⟩
    simp only [hx]
    refine wpAny_bind (wp_order n ((y :: r).eraseIdx i) { s with drawn := d } (by rw [List.length_eraseIdx, if_pos hi]; simp at hl ⊢; omega) fun ys d' hp => wpAny_pure ?_)
    exact h (x :: ys) d' ((hp.cons x).trans (perm_erase hx))
/-- an order by the text's own choice -/
theorem pick_go {α : Type} (next : Nat → Nat) : ∀ (f k : Nat) (left : List α) (out : Array α), left.length = f → ((pickOrder.go next f k left out).toList).Perm (out.toList ++ left)
  | 0, k, left, out, hl => by
    obtain rfl := List.length_eq_zero_iff.mp hl
    unfold pickOrder.go
    simp
  | f + 1, k, left, out, hl => by
    unfold pickOrder.go
    have hi : next k % left.length < left.length := Nat.mod_lt _ (by omega)
    obtain ⟨x, hx⟩ : ∃ x, left[next k % left.length]? = some x := ⟨_, List.getElem?_eq_getElem hi⟩
    simp only [hx]
    refine (pick_go next f (k + 1) _ _ (by rw [List.length_eraseIdx, if_pos hi]; omega)).trans ?_
    rw [Array.toList_push, List.append_assoc]
    exact List.Perm.append_left _ (perm_erase hx)
theorem pick_perm {α : Type} (next : Nat → Nat) (xs : Array α) : (pickOrder next xs).toList.Perm xs.toList := by
  have := pick_go next xs.size 0 xs.toList #[] (by simp)
  unfold pickOrder
  simpa using this
end
end L2

set_option Elab.async false
set_option linter.all false
set_option maxRecDepth 100000
set_option maxHeartbeats 4000000
namespace L2
open PySem PySem.Spec PyProof.Rows
theorem si_iter : Slot "set_iterator" "__iter__" "set_iterator.__iter__" := by
  refine .of (owner := "set_iterator") (n := "__iter__") ?_ ?_ ?_ ?_ ?_ ?_
  · rw [typeLookup_type, builtinLookup_eq_fast]; kernel_rfl
  · decide +kernel
  · decide +kernel
  · decide +kernel
  · first | exact .inl (by decide +kernel) | exact .inr (by decide +kernel)
  · rw [isSubtype_type]; kernel_rfl
theorem si_iter_entry : entryFor table "set_iterator.__iter__" = some Builtin.«dict_keyiterator.__iter__» := by
  refine entryFor_alias (id' := "dict_keyiterator.__iter__") ?_ rfl ?_ ?_
  · kernel_rfl
  · decide +kernel
  · kernel_rfl
theorem si_iter_args (a : Value) : argsOk "set_iterator.__iter__" ⟨[a], []⟩ := by
  unfold argsOk
  kernel_rfl
section
variable {P : Program} {w : World} {A : Around} {E : Value → Shared → Prop}
/-- a walk over these texts -/
def TxtWalk (P : Program) (w : World) (A : Around) (I : Addr) (fp : List Addr) (xs : List Str) (St : Nat → Heap → Prop) : Prop := Walks P w A I fp [I] xs.length (fun i v => ∃ x t, xs[i]? = some x ∧ v = .str x t) St
theorem si_self {s : Shared} {I a : Addr} {first : Value} {i n ep : Nat} {Q : Value → Shared → Prop} (hit : SIt s.heap I a first i n ep) (h : Q (.ref I) s) : wpAny (model P w) A (pyIter (.ref I)) Q E s := by
  refine wpAny_pyIter_slot hit.typeIs si_iter (wpAny_call_entry si_iter hit.typeIs si_iter_entry ?_ (si_iter_args _))
  exact wpAny_pure ⟨_, rfl, "set_iterator", _, hit.typeIs, si_next.lookup, h⟩
theorem SIt.at {h h' : Heap} {I a : Addr} {first : Value} {i n ep : Nat} (x : SIt h I a first i n ep) (k : ∀ o, h.get? I = some o → h'.get? I = some o) : SIt h' I a first i n ep := let ⟨o, ho, r⟩ := x; ⟨o, k o ho, r⟩
theorem next_text {s : Shared} {a : Addr} {i ep slot : Nat} {o : Obj} {es : Array (Int × Value)} {t : SetTable} {Q : Option (Value × Nat) → Shared → Prop} (ho : s.heap.get? a = some o) (hd : o.data = .set es ep t) (hf : t.fits es.size = true) (hb : w.params.followText "set-order" = true)
    (h : Q (((pickOrder (w.params.setOrder a ep) es)[i]?).map fun e => (e.2, slot)) s) : wpAny (model P w) A (setNext a slot i ep) Q E s := by
  unfold setNext
  refine wpAny_bind (wpAny_setState_of ho hd hf ?_)
  dsimp only
  unfold setsByText
  refine wpAny_bind (wpAny_bind (wpAny_askSetting (wpAny_pure ?_)))
  refine wpAny_ite_split (fun _ => ?_) (fun z => absurd hb z)
  rw [if_neg (by simp)]
  refine wpAny_bind ?_
  unfold setWalk
  refine wpAny_bind (wpAny_setState_of ho hd hf ?_)
  dsimp only
  unfold setsByText
  refine wpAny_bind (wpAny_bind (wpAny_askSetting (wpAny_pure ?_)))
  refine wpAny_ite_split (fun _ => ?_) (fun z => absurd hb z)
  exact wpAny_bind (wpAny_askSetting (wpAny_pure (wpAny_pure h)))
theorem next_few {s : Shared} {a : Addr} {i ep slot : Nat} {o : Obj} {es : Array (Int × Value)} {t : SetTable} {Q : Option (Value × Nat) → Shared → Prop} (ho : s.heap.get? a = some o) (hd : o.data = .set es ep t) (hf : t.fits es.size = true) (hb : w.params.followText "set-order" = false) (hl : t.led = true) (hs : es.size ≤ 1)
    (h : Q (match es[SetTable.below t.place slot]?, t.place[SetTable.below t.place slot]? with
      | some (_, x), some j => some (x, j + 1)
      | _, _ => none) s) : wpAny (model P w) A (setNext a slot i ep) Q E s := by
  unfold setNext
  refine wpAny_bind (wpAny_setState_of ho hd hf ?_)
  dsimp only
  unfold setsByText
  refine wpAny_bind (wpAny_bind (wpAny_askSetting (wpAny_pure ?_)))
  refine wpAny_ite_split (fun z => absurd (hb.symm.trans z) (by decide)) fun _ => ?_
  refine wpAny_ite_split (fun z => absurd z ?_) fun _ => ?_
  · show ¬ ((!t.plain && decide (es.size > 1)) = true)
    rw [decide_eq_false (by omega), Bool.and_false]
    decide
  refine wpAny_bind ?_
  show wpAny _ _ (if (!t.led && !es.isEmpty) = true then unsupported _ else pure ()) _ _ _
  rw [hl]
  exact wpAny_pure (wpAny_pure h)
/-- the record of a walk whose order is not drawn -/
theorem iter_plain {s : Shared} {a : Addr} {ep : Nat} {o : Obj} {es : Array (Int × Value)} {t : SetTable} {Q : Value → Shared → Prop} (ho : s.heap.get? a = some o) (hex : o.ExactSet) (hd : o.data = .set es ep t) (hf : t.fits es.size = true) (hb : w.params.followText "set-order" = true ∨ es.size ≤ 1)
    (h : Q (.ref s.heap.objs.size) { s with heap := s.heap.push { cls := .type "set_iterator", data := .fields #[.int 0 0, .int 0 0, .ref a, .int es.size 0, .int ep 0] } }) : wpAny (model P w) A (pyIter (.ref a)) Q E s := by
  have hT : s.TypeIs (.ref a) "set" := ⟨o, ho, hex.1⟩
  refine wpAny_pyIter_slot hT F.slot_set_iter (wpAny_call_entry F.slot_set_iter hT set_iter_entry ?_ (F.args_set_iter_1 _))
  unfold Builtin.«frozenset.__iter__»
  show wpAny _ _ (Builtin.Frozenset.sizeOf a >>= _) _ _ s
  refine wpAny_bind ?_
  unfold Builtin.Frozenset.sizeOf
  refine wpAny_bind (wpAny_setEntries_of ho hd hf (wpAny_pure ?_))
  refine wpAny_bind ?_
  unfold setDrawn
  refine wpAny_bind (wpAny_setState_of ho hd hf ?_)
  dsimp only
  unfold setsByText
  refine wpAny_bind (wpAny_bind (wpAny_askSetting (wpAny_pure (wpAny_pure ?_))))
  refine wpAny_ite_split (fun z => absurd z ?_) fun _ => wpAny_bind (wpAny_pure ?_)
  · show ¬ ((!w.params.followText "set-order" && (!t.plain && decide (es.size > 1))) = true)
    rcases hb with hb | hb
    · rw [hb]; exact Bool.false_ne_true
    · rw [decide_eq_false (by omega), Bool.and_false, Bool.and_false]; decide
  refine wpAny_bind (wpAny_setEpoch_of ho hd hf ?_)
  exact wpAny_bind (wpAny_newObj_type (wpAny_pure ⟨_, rfl, "set_iterator", _, ⟨_, Heap.get?_push_size _ rfl, rfl⟩, si_next.lookup, h⟩))
/-- the record of a walk by a drawn order -/
theorem iter_drawn {s : Shared} {a : Addr} {ep : Nat} {o : Obj} {es : Array (Int × Value)} {t : SetTable} {Q : Value → Shared → Prop} (ho : s.heap.get? a = some o) (hex : o.ExactSet) (hd : o.data = .set es ep t) (hf : t.fits es.size = true) (hz : es.size ≤ sizeLine) (hb : w.params.followText "set-order" = false) (hs : 1 < es.size) (hp : t.plain = false)
    (h : ∀ (ys : List Nat) (d : Drawn), ys.Perm (List.range es.size) → Q (.ref (s.heap.objs.size + 1)) { s with heap := (s.heap.push { cls := .type "tuple", data := .seq (ys.map fun i => rawInt (i : Nat)).toArray }).push { cls := .type "set_iterator", data := .fields #[.ref s.heap.objs.size, .int 0 0, .ref a, .int es.size 0, .int ep 0] }, drawn := d }) :
    wpAny (model P w) A (pyIter (.ref a)) Q E s := by
  have hT : s.TypeIs (.ref a) "set" := ⟨o, ho, hex.1⟩
  refine wpAny_pyIter_slot hT F.slot_set_iter (wpAny_call_entry F.slot_set_iter hT set_iter_entry ?_ (F.args_set_iter_1 _))
  unfold Builtin.«frozenset.__iter__»
  show wpAny _ _ (Builtin.Frozenset.sizeOf a >>= _) _ _ s
  refine wpAny_bind ?_
  unfold Builtin.Frozenset.sizeOf
  refine wpAny_bind (wpAny_setEntries_of ho hd hf (wpAny_pure ?_))
  refine wpAny_bind ?_
  unfold setDrawn
  refine wpAny_bind (wpAny_setState_of ho hd hf ?_)
  dsimp only
  unfold setsByText
  refine wpAny_bind (wpAny_bind (wpAny_askSetting (wpAny_pure (wpAny_pure ?_))))
  refine wpAny_ite_split (fun _ => ?_) fun z => absurd (show (!w.params.followText "set-order" && (!t.plain && decide (es.size > 1))) = true by rw [hb, hp, decide_eq_true hs]; rfl) z
  refine wpAny_bind (wp_order es.size (List.range es.size) s List.length_range fun ys d hys => ?_)
  have hl : (ys.map fun i => rawInt (i : Nat)).length ≤ sizeLine := by rw [List.length_map, hys.length_eq, List.length_range]; exact hz
  refine wpAny_bind (wpAny_newTuple ?_ hl)
  have ho2 := Heap.get?_push_of_some ({ cls := .type "tuple", data := .seq (ys.map fun i => rawInt (i : Nat)).toArray } : Obj) ho
  refine wpAny_bind (wpAny_setEpoch_of (s := { s with heap := s.heap.push { cls := .type "tuple", data := .seq (ys.map fun i => rawInt (i : Nat)).toArray }, drawn := d }) ho2 hd hf ?_)
  have hq := h ys d hys
  have hsz : (s.heap.push { cls := .type "tuple", data := .seq (ys.map fun i => rawInt (i : Nat)).toArray }).objs.size = s.heap.objs.size + 1 := size_push' _ _
  rw [← hsz] at hq
  exact wpAny_bind (wpAny_newObj_type (wpAny_pure ⟨_, rfl, "set_iterator", _, ⟨_, Heap.get?_push_size _ rfl, rfl⟩, si_next.lookup, hq⟩))
end
end L2

set_option Elab.async false
set_option linter.all false
set_option maxRecDepth 100000
set_option maxHeartbeats 4000000
namespace L2
open PySem PySem.Spec PyProof.Rows
section
variable {P : Program} {w : World} {A : Around} {E : Value → Shared → Prop}
theorem below_one0 (p : Nat) : SetTable.below #[p] 0 = 0 := by
  unfold SetTable.below
  simp [SetTable.below.go]
theorem below_one1 (p : Nat) : SetTable.below #[p] (p + 1) = 1 := by
  unfold SetTable.below
  simp [SetTable.below.go]
/-- where the order is the text's own -/
theorem walk_text {I a : Addr} {ep : Nat} {o : Obj} {es : Array (Int × Value)} {t : SetTable} (hh : A.handled = none) (hne : a ≠ I) (hd : o.data = .set es ep t) (hel : ElemsOf (PySem.strKind P w) es.toList) (hf : t.fits es.size = true) (hb : w.params.followText "set-order" = true) :
    TxtWalk P w A I [I, a] ((pickOrder (w.params.setOrder a ep) es).toList.map keyT) (fun i h => SIt h I a (.int 0 0) i es.size ep ∧ h.get? a = some o) where
  sub := fun b hb => by simp at hb; simp [hb]
  frame := fun i h h' st k => ⟨st.1.at fun o' e => k I (by simp) o' e, k a (by simp) o st.2⟩
  item := fun i s Q E hi st hQ => by
    rw [List.length_map, Array.length_toList] at hi
    obtain ⟨e, he⟩ : ∃ e, (pickOrder (w.params.setOrder a ep) es)[i]? = some e := ⟨_, Array.getElem?_eq_getElem hi⟩
    have hm : e ∈ es.toList := (pick_perm (w.params.setOrder a ep) es).mem_iff.mp (by rw [← Array.getElem?_toList] at he; exact List.mem_of_getElem? he)
    obtain ⟨tk, ht⟩ := key_of hel hm
    refine si_item (slot := 0) (nx := 0) (v := e.2) st.1 st.2 hd hf rfl (fun A' E' Q' q => next_text st.2 hd hf hb (by rw [he]; exact q)) fun h' hit' sb => ?_
    exact hQ e.2 h' s.toks ⟨keyT e, tk, by rw [List.getElem?_map, Array.getElem?_toList, he]; rfl, ht⟩ ⟨hit', by rw [sb.2 a hne]; exact st.2⟩ fun b o' hb' g => by rw [sb.2 b (by simpa using hb')]; exact g
  done := fun s Q E st hQ => by
    refine si_end (slot := 0) hh st.1 st.2 hd hf rfl (fun A' E' Q' q => next_text st.2 hd hf hb ?_) fun h' ex => hQ h' s.toks fun b o' hb' g => ex b o' (by simpa using hb') g
    rw [List.length_map, Array.length_toList, Array.getElem?_eq_none (Nat.le_refl _)]
    exact q
  self := fun i s Q E st h => si_self st.1 h
/-- none or one -/
theorem walk_few {I a : Addr} {ep : Nat} {o : Obj} {es : Array (Int × Value)} {t : SetTable} (hh : A.handled = none) (hne : a ≠ I) (hd : o.data = .set es ep t) (hel : ElemsOf (PySem.strKind P w) es.toList) (hf : t.fits es.size = true) (hb : w.params.followText "set-order" = false) (hl : t.led = true) (hs : es.size ≤ 1) :
    TxtWalk P w A I [I, a] (es.toList.map keyT) (fun i h => SIt h I a (.int (if i = 0 then 0 else ((t.place.getD 0 0 + 1 : Nat) : Int)) 0) i es.size ep ∧ h.get? a = some o) where
  sub := fun b hb => by simp at hb; simp [hb]
  frame := fun i h h' st k => ⟨st.1.at fun o' e => k I (by simp) o' e, k a (by simp) o st.2⟩
  item := fun i s Q E hi st hQ => by
    rw [List.length_map, Array.length_toList] at hi
    obtain rfl : i = 0 := by omega
    have hp : t.place.size = 1 := by
      simp only [SetTable.fits, Bool.and_eq_true, beq_iff_eq] at hf
      omega
    obtain ⟨p, hpl⟩ : ∃ p, t.place = #[p] := Array.size_eq_one_iff.mp hp
    obtain ⟨e, he⟩ : ∃ e, es[0]? = some e := ⟨_, Array.getElem?_eq_getElem hi⟩
    have hm : e ∈ es.toList := by rw [← Array.getElem?_toList] at he; exact List.mem_of_getElem? he
    obtain ⟨tk, ht⟩ := key_of hel hm
    have hit : SIt s.heap I a (.int ((0 : Nat) : Int) 0) 0 es.size ep := st.1
    refine si_item (nx := p + 1) (v := e.2) hit st.2 hd hf rfl (fun A' E' Q' q => next_few st.2 hd hf hb hl hs ?_) fun h' hit' sb => ?_
    · rw [hpl, below_one0, he]
      exact q
    refine hQ e.2 h' s.toks ⟨keyT e, tk, by rw [List.getElem?_map, Array.getElem?_toList, he]; rfl, ht⟩ ⟨?_, by rw [sb.2 a hne]; exact st.2⟩ fun b o' hb' g => by rw [sb.2 b (by simpa using hb')]; exact g
    rw [if_neg (by omega), hpl]
    exact hit'
  done := fun s Q E st hQ => by
    rw [List.length_map, Array.length_toList] at st
    have hsz : t.place.size = es.size := by
      simp only [SetTable.fits, Bool.and_eq_true, beq_iff_eq] at hf
      exact hf.1
    have fin : ∀ h', Heap.ExtBut I s.heap h' → Q none { s with heap := h' } := fun h' ex => hQ h' s.toks fun b o' hb' g => ex b o' (by simpa using hb') g
    by_cases h0 : es.size = 0
    · rw [if_pos h0] at st
      have hit : SIt s.heap I a (.int ((0 : Nat) : Int) 0) es.size es.size ep := st.1
      refine si_end hh hit st.2 hd hf rfl (fun A' E' Q' q => next_few st.2 hd hf hb hl hs ?_) fin
      rw [Array.getElem?_eq_none (by omega)]
      exact q
    · rw [if_neg h0] at st
      obtain ⟨p, hpl⟩ : ∃ p, t.place = #[p] := Array.size_eq_one_iff.mp (by omega)
      have hit : SIt s.heap I a (.int ((p + 1 : Nat) : Int) 0) es.size es.size ep := by have := st.1; rw [hpl] at this; exact this
      refine si_end hh hit st.2 hd hf rfl (fun A' E' Q' q => next_few st.2 hd hf hb hl hs ?_) fin
      rw [hpl, below_one1, Array.getElem?_eq_none (by omega)]
      exact q
  self := fun i s Q E st h => si_self st.1 h
/-- by a drawn order -/
theorem walk_drawn {I a pl : Addr} {ep : Nat} {o : Obj} {es : Array (Int × Value)} {t : SetTable} {ys : List Nat} (hh : A.handled = none) (hne : a ≠ I) (hpl : pl ≠ I) (hd : o.data = .set es ep t) (hel : ElemsOf (PySem.strKind P w) es.toList) (hf : t.fits es.size = true) (hys : ys.Perm (List.range es.size)) :
    TxtWalk P w A I [I, a, pl] (ys.map fun k => keyT (es.getD k (0, .none))) (fun i h => SIt h I a (.ref pl) i es.size ep ∧ h.get? a = some o ∧ h.IsTuple pl (ys.map fun i => rawInt (i : Nat)).toArray) where
  sub := fun b hb => by simp at hb; simp [hb]
  frame := fun i h h' st k => ⟨st.1.at fun o' e => k I (by simp) o' e, k a (by simp) o st.2.1, let ⟨o', ho', r⟩ := st.2.2; ⟨o', k pl (by simp) o' ho', r⟩⟩
  item := fun i s Q E hi st hQ => by
    rw [List.length_map] at hi
    obtain ⟨k, hk⟩ : ∃ k, ys[i]? = some k := ⟨_, List.getElem?_eq_getElem hi⟩
    have hks : k < es.size := List.mem_range.mp (hys.mem_iff.mp (List.mem_of_getElem? hk))
    obtain ⟨e, he⟩ : ∃ e, es[k]? = some e := ⟨_, Array.getElem?_eq_getElem hks⟩
    have hm : e ∈ es.toList := by rw [← Array.getElem?_toList] at he; exact List.mem_of_getElem? he
    obtain ⟨tk, ht⟩ := key_of hel hm
    refine sd_item (k := k) (tk := 0) (z := e.1) (v := e.2) st.1 st.2.1 hd hf rfl st.2.2 (by rw [List.getElem?_toArray, List.getElem?_map, hk]; rfl) (by rw [he]) fun h' hit' sb => ?_
    refine hQ e.2 h' s.toks ⟨keyT e, tk, ?_, ht⟩ ⟨hit', by rw [sb.2 a hne]; exact st.2.1, ?_⟩ fun b o' hb' g => by rw [sb.2 b (by simpa using hb')]; exact g
    · rw [List.getElem?_map, hk]
      show some (keyT (es.getD k (0, .none))) = _
      rw [Array.getD_eq_getD_getElem?, he]; rfl
    · obtain ⟨o', ho', r⟩ := st.2.2
      exact ⟨o', by rw [sb.2 pl hpl]; exact ho', r⟩
  done := fun s Q E st hQ => by
    refine sd_end hh st.1 st.2.1 hd hf rfl st.2.2 (by rw [List.getElem?_toArray, List.getElem?_map, List.length_map, List.getElem?_eq_none (Nat.le_refl _)]; rfl) fun h' ex => hQ h' s.toks fun b o' hb' g => ex b o' (by simpa using hb') g
  self := fun i s Q E st h => si_self st.1 h
end
end L2

set_option Elab.async false
set_option linter.all false
set_option maxRecDepth 100000
set_option maxHeartbeats 4000000
namespace L2
open PySem PySem.Spec PyProof.Rows
section
variable {P : Program} {w : World} {A : Around} {E : Value → Shared → Prop} {s : Shared}
theorem getD_map (es : Array (Int × Value)) : ((List.range es.size).map fun k => keyT (es.getD k (0, .none))) = es.toList.map keyT := by
  have e : es.toList = (List.range es.size).map fun k => es.getD k (0, .none) := by
    refine List.ext_getElem (by simp) fun i h1 h2 => ?_
    simp only [Array.length_toList] at h1
    rw [List.getElem_map, List.getElem_range, Array.getD_eq_getD_getElem?, Array.getElem?_eq_getElem h1]
    simp
  rw [e, List.map_map]
  rfl
/-- a set of texts, walked: some order of them -/
theorem set_iter {a : Addr} {ws : List Str} {Q : Value → Shared → Prop} (hh : A.handled = none) (hS : SetS P w s.heap a ws)
    (h : ∀ (I : Addr) (fp : List Addr) (xs : List Str) (St : Nat → Heap → Prop) (h' : Heap) (d : Drawn), TxtWalk P w A I fp xs St → St 0 h' → xs.Perm ws → (∀ b o, s.heap.get? b = some o → h'.get? b = some o) → s.heap.objs.size ≤ I → (∀ b ∈ fp, b = a ∨ s.heap.objs.size ≤ b) →
      Q (.ref I) { s with heap := h', drawn := d }) : wpAny (model P w) A (pyIter (.ref a)) Q E s := by
  obtain ⟨o, es, ep, t, ho, hex, hd, hel, hperm, nd, hsb, hf, hled⟩ := hS
  have ha := Heap.lt_size ho
  cases hb : w.params.followText "set-order" with
  | true =>
    refine iter_plain ho hex hd hf (.inl hb) (h _ [s.heap.objs.size, a] _ _ _ s.drawn (walk_text hh (Nat.ne_of_lt ha) hd hel hf hb) ⟨⟨_, Heap.get?_push_size _ rfl, rfl, rfl⟩, Heap.get?_push_of_some _ ho⟩ (((pick_perm _ es).map keyT).trans hperm) (fun b o' g => Heap.get?_push_of_some _ g) (Nat.le_refl _) fun b hb' => ?_)
    simp only [List.mem_cons, List.not_mem_nil, or_false] at hb'
    rcases hb' with rfl | rfl
    · exact .inr (Nat.le_refl _)
    · exact .inl rfl
  | false =>
    obtain ⟨hl, hpl⟩ := hled hb
    by_cases hs : es.size ≤ 1
    · refine iter_plain ho hex hd hf (.inr hs) (h _ [s.heap.objs.size, a] _ _ _ s.drawn (walk_few hh (Nat.ne_of_lt ha) hd hel hf hb hl hs) ⟨⟨_, Heap.get?_push_size _ rfl, rfl, rfl⟩, Heap.get?_push_of_some _ ho⟩ hperm (fun b o' g => Heap.get?_push_of_some _ g) (Nat.le_refl _) fun b hb' => ?_)
      simp only [List.mem_cons, List.not_mem_nil, or_false] at hb'
      rcases hb' with rfl | rfl
      · exact .inr (Nat.le_refl _)
      · exact .inl rfl
    · refine iter_drawn ho hex hd hf (fits_of_scanBound hsb) hb (by omega) (hpl (by omega)) fun ys d hys => ?_
      have hsz : ∀ o' : Obj, (s.heap.push o').objs.size = s.heap.objs.size + 1 := fun o' => size_push' _ _
      have gp : ∀ o1 o2 : Obj, o2.isFreed = false → ((s.heap.push o1).push o2).get? (s.heap.objs.size + 1) = some o2 := fun o1 o2 hfr => by
        rw [← hsz o1]
        exact Heap.get?_push_size _ hfr
      refine h (s.heap.objs.size + 1) [s.heap.objs.size + 1, a, s.heap.objs.size] _ _ _ d (walk_drawn hh (Nat.ne_of_lt (Nat.lt_succ_of_lt ha)) (Nat.ne_of_lt (Nat.lt_succ_self _)) hd hel hf hys) ⟨⟨_, gp _ _ rfl, rfl, rfl⟩, Heap.get?_push_of_some _ (Heap.get?_push_of_some _ ho), ⟨_, Heap.get?_push_of_some _ (Heap.get?_push_size _ rfl), rfl, _, rfl⟩⟩
        (((hys.map _).trans (by rw [getD_map])).trans hperm) (fun b o' g => Heap.get?_push_of_some _ (Heap.get?_push_of_some _ g)) (Nat.le_succ _) fun b hb' => ?_
      · simp only [List.mem_cons, List.not_mem_nil, or_false] at hb'
        rcases hb' with rfl | rfl | rfl
        · exact .inr (Nat.le_succ _)
        · exact .inl rfl
        · exact .inr (Nat.le_refl _)
theorem hint_set {r : Addr} {Q : Bool → Shared → Prop} (hT : s.TypeIs (.ref r) "set") (h : Q false s) : wpAny (model P w) A (Builtin.List.listLengthHint (.ref r)) Q E s := by
  unfold Builtin.List.listLengthHint
  refine wpAny_bind (wpAny_specialOf hT F.slot_set_len.lookup ?_)
  generalize hid : ("set.__len__" : String) = id0
  wp_delta
  rw [show splitId id0 = some ("set", "__len__") from by subst hid; decide +kernel]; subst hid
  refine wpAny_bind (wpAny_isInstance (T := "set") (b := true) hT sub_set_self ?_)
  refine wpAny_ite_split (fun z => absurd z (by decide)) (fun _ => wpAny_ite_split (fun _ => ?_) (fun z => absurd (by decide +kernel) z))
  exact wpAny_bind (wpAny_typeOf hT (wpAny_pure h))
end
end L2

set_option Elab.async false
set_option linter.all false
set_option maxRecDepth 100000
set_option maxHeartbeats 4000000
namespace L2
open PySem PySem.Spec PyProof.Rows
/-- these values are these texts -/
def Texts (acc : Array Value) (xs : List Str) : Prop := acc.size = xs.length ∧ ∀ (j : Nat) (v : Value), acc[j]? = some v → ∃ x t, xs[j]? = some x ∧ v = .str x t
section
variable {P : Program} {w : World} {A : Around} {E : Value → Shared → Prop} {s : Shared}
theorem set_extend {R : Result → Shared → Prop} {a S : Addr} {ws : List Str} {c₀ : Nat} (hh : A.handled = none) (hSet : SetS P w s.heap a ws) (hn : ws.length ≤ sizeLine) (hSa : S ≠ a) (hS : s.heap.get? S = some { cls := .type "list", data := .seq #[] c₀ })
    (hR : ∀ (h' : Heap) (tk : Nat) (d : Drawn) (acc : Array Value) (c : Nat) (xs : List Str), (∀ b o, b ≠ S → s.heap.get? b = some o → h'.get? b = some o) → h'.get? S = some { cls := .type "list", dict := none, data := .seq acc c, slots := #[] } → Texts acc xs → xs.Perm ws → R (.ok (.ret (.ref S))) { s with heap := h', toks := tk, drawn := d }) :
    wpAny (model P w) A.in1 (Builtin.List.listExtendWith (.ref S) (.ref a) (.ref S)) (fun fin s' => match fin with
      | .done f => R (.ok f) s'
      | .again c' => c'.quiet = true ∧ codeAny (model P w) A c' R s') (fun e s' => R (.error e) s') s := by
  have hT : s.TypeIs (.ref a) "set" := by
    obtain ⟨o, _, _, _, ho, hex, _⟩ := hSet
    exact ⟨o, ho, hex.1⟩
  have hSlt := Heap.lt_size hS
  unfold Builtin.List.listExtendWith
  refine wpAny_bind (wpAny_typeOf (T := "set") hT ?_)
  have h1 : Builtin.List.listSameRef (.ref S) (.ref a) = false := by simp [Builtin.List.listSameRef, hSa]
  simp only [h1, show (Value.type "set" == Value.type "list") = false by decide, show (Value.type "set" == Value.type "tuple") = false by decide, Bool.or_false, Bool.false_eq_true, if_false]
  refine wpAny_bind (set_iter (A := A.in1) hh hSet fun I fp xs St h1' d W st hp kp hI hfp => ?_)
  have hSI : S ≠ I := Nat.ne_of_lt (Nat.lt_of_lt_of_le hSlt hI)
  have hSf : S ∉ fp := fun z => (hfp S z).elim hSa fun y => absurd hSlt (Nat.not_lt.mpr y)
  have hlx : xs.length ≤ sizeLine := by rw [hp.length_eq]; exact hn
  have key : ∀ (h : Heap) (c₁ tk : Nat), St 0 h → (∀ b o, b ≠ S → s.heap.get? b = some o → h.get? b = some o) → h.get? S = some { cls := .type "list", data := .seq #[] c₁ } →
      codeAny (model P w) A (.builtin "list.extend.loop" ⟨[.ref S, .ref I, .ref S], []⟩) R { s with heap := h, toks := tk, drawn := d } := by
    intro h c₁ tk hst hk hS₁
    refine codeAny_extend_loopS (Walks.toS W) hlx S hSf (.ref S) xs.length 0 { s with heap := h, toks := tk, drawn := d } #[] c₁ rfl (Nat.zero_le _) hst hS₁ (ItemsOf.nil _) fun s' acc' c' hm hS' hacc => ?_
    rw [Moved.eq_with hm]
    refine hR s'.heap s'.toks d acc' c' xs (fun b o hb e => hm.heap b o (fun z => ?_) (hk b o hb e)) hS' hacc hp
    rcases List.mem_cons.mp z with e' | z
    · exact hb e'
    · rw [List.mem_singleton] at z
      exact absurd (Heap.lt_size e) (Nat.not_lt.mpr (by rw [z]; exact hI))
  have hS1 := kp S _ hS
  refine wpAny_bind (wpAny_holding (hint_set (s := { s with heap := h1', drawn := d }) (by
    obtain ⟨o, ho, hc⟩ := hT
    exact ⟨o, kp a o ho, hc⟩) ?_))
  refine wpAny_ite_split (fun _ => ?_) (fun _ => wpAny_pure ⟨plainId_quiet PySem.F.plain_extend_loop _, key _ c₀ _ st (fun b o _ e => kp b o e) hS1⟩)
  refine wpAny_bind (wpAny_rule (wpAny_bind ?_))
  show wpAny _ _ (updateSeq S (·.push .none) >>= fun _ => updateSeq S (·.pop)) _ _ _
  refine wpAny_bind (wpAny_updateSeq (s := { s with heap := h1', drawn := d }) hS1 rfl ?_)
  have hS2 := Heap.get?_update_self (Obj.mapSeq (·.push Value.none)) hS1 rfl
  refine wpAny_updateSeq (hz := by seq_fits) hS2 rfl ?_
  have hS3 := Heap.get?_update_self (Obj.mapSeq (·.pop)) hS2 rfl
  refine wpAny_pure ⟨plainId_quiet PySem.F.plain_extend_loop _, key _ _ _ (W.frame 0 _ _ st fun b hb o e => ?_) (fun b o hb e => ?_) hS3⟩
  · have hbS : b ≠ S := fun z => hSf (z ▸ hb)
    exact (Heap.get?_update_other _ _ (Ne.symm hbS)).trans ((Heap.get?_update_other _ _ (Ne.symm hbS)).trans e)
  · exact (Heap.get?_update_other _ _ (Ne.symm hb)).trans ((Heap.get?_update_other _ _ (Ne.symm hb)).trans (kp b o e))
end
end L2

set_option Elab.async false
set_option linter.all false
set_option maxRecDepth 100000
set_option maxHeartbeats 4000000
namespace L2
open PySem PySem.Spec PyProof.Rows
theorem texts_are : ∀ {vs : List Value} {xs : List Str}, vs.length = xs.length → (∀ (j : Nat) (v : Value), vs[j]? = some v → ∃ x t, xs[j]? = some x ∧ v = .str x t) → StrsAre vs xs
  | [], [], _, _ => .nil
  | [], _ :: _, h, _ => by cases h
  | _ :: _, [], h, _ => by cases h
  | v :: vs, x :: xs, h, k => by
    obtain ⟨y, t, hy, rfl⟩ := k 0 v rfl
    have e : x = y := by simpa using hy
    subst e
    exact .cons x t (texts_are (by simpa using h) fun j u hu => by simpa using k (j + 1) u (by simpa using hu))
theorem Texts.strs {acc : Array Value} {xs : List Str} (h : Texts acc xs) : StrsAre acc.toList xs := texts_are (by rw [Array.length_toList]; exact h.1) fun j v hv => h.2 j v (by rw [← Array.getElem?_toList]; exact hv)
/-! ### two rising lists of the same texts -/
theorem unique_of {α : Type} {R : α → α → Prop} (anti : ∀ a b, R a b → R b a → a = b) : ∀ {l1 l2 : List α}, l1.Perm l2 → l1.Pairwise R → l2.Pairwise R → l1 = l2
  | [], l2, p, _, _ => (List.nil_perm.mp p).symm
  | a :: r, [], p, _, _ => absurd p.length_eq (by simp)
  | a :: r, b :: t, p, h1, h2 => by
    have e : a = b := by
      have ha : a ∈ b :: t := p.mem_iff.mp List.mem_cons_self
      have hb : b ∈ a :: r := p.mem_iff.mpr List.mem_cons_self
      rcases List.mem_cons.mp ha with e | ha
      · exact e
      rcases List.mem_cons.mp hb with e | hb
      · exact e.symm
      exact anti a b ((List.pairwise_cons.mp h1).1 b hb) ((List.pairwise_cons.mp h2).1 a ha)
    subst e
    rw [unique_of anti (List.Perm.cons_inv p) (List.pairwise_cons.mp h1).2 (List.pairwise_cons.mp h2).2]
def leT (a b : Str) : Prop := a.cps.toList ≤ b.cps.toList
theorem rising_pw : ∀ {x : Str} {r : List Str}, risingS x r = true → (x :: r).Pairwise leT
  | x, [], _ => List.pairwise_singleton _ _
  | x, y :: r, h => by
    unfold risingS at h
    rw [Bool.and_eq_true] at h
    have h1 : leT x y := by
      have z := h.1
      rw [ltCps_eq] at z
      exact List.not_lt.mp (by simpa using z)
    have h2 := rising_pw h.2
    refine List.pairwise_cons.mpr ⟨fun z hz => ?_, h2⟩
    rcases List.mem_cons.mp hz with rfl | hz
    · exact h1
    · exact List.le_trans h1 ((List.pairwise_cons.mp h2).1 z hz)
theorem sorted_pw {l : List Str} (h : sortedS l = true) : l.Pairwise leT := by
  cases l with
  | nil => exact List.Pairwise.nil
  | cons x r => exact rising_pw h
theorem sorted_one {l1 l2 ws : List Str} (p1 : l1.Perm ws) (p2 : l2.Perm ws) (h1 : sortedS l1 = true) (h2 : sortedS l2 = true) : l1 = l2 := by
  refine unique_of (fun a b x y => ?_) (p1.trans p2.symm) (sorted_pw h1) (sorted_pw h2)
  have e : a.cps.toList = b.cps.toList := List.le_antisymm x y
  cases a; cases b
  congr
  exact Array.toList_inj.mp e
section
variable {P : Program} {w : World} {A : Around} {E : Value → Shared → Prop} {s : Shared}
theorem set_collect {R : List Value → Shared → Prop} {a : Addr} {ws : List Str} (hh : A.handled = none) (hSet : SetS P w s.heap a ws) (hn : ws.length ≤ sizeLine)
    (h : ∀ (h' : Heap) (tk : Nat) (d : Drawn) (acc : Array Value) (xs : List Str), (∀ b o, s.heap.get? b = some o → h'.get? b = some o) → s.heap.objs.size < h'.objs.size → Texts acc xs → xs.Perm ws → R acc.toList { s with heap := h', toks := tk, drawn := d }) : wpAny (model P w) A (collect (.ref a)) R E s := by
  have ha : a < s.heap.objs.size := by
    obtain ⟨o, _, _, _, ho, _⟩ := hSet
    exact Heap.lt_size ho
  unfold collect
  refine wpAny_bind (wpAny_runValue (codeAny_builtin entry_proto_collect' ?_)); rw [Around.under_plainId PySem.F.plain_proto_collect _]
  show wpAny _ A.in1 (newList [] >>= fun l => again (.builtin "list.__iadd__" ⟨[l, .ref a], []⟩)) _ _ s
  refine wpAny_bind (wpAny_newObj_type (wpAny_pure ⟨plainId_quiet PySem.F.plain_list_iadd _, codeAny_builtin entry_list_iadd' ?_⟩)); rw [Around.under_plainId PySem.F.plain_list_iadd _]
  show wpAny _ A.in1 (Builtin.List.listExtendWith (.ref s.heap.objs.size) (.ref a) (.ref s.heap.objs.size)) _ _ _
  have hS₁ : (s.heap.push { cls := .type "list", data := .seq ([] : List Value).toArray }).get? s.heap.objs.size = some { cls := .type "list", data := .seq #[] } := Heap.get?_push_size _ rfl
  have key := set_extend (P := P) (w := w) (A := A) (s := { s with heap := s.heap.push { cls := .type "list", data := .seq ([] : List Value).toArray } })
    (R := fun (q : Result) (s' : Shared) => ∃ (h' : Heap) (tk : Nat) (d : Drawn) (acc : Array Value) (c : Nat) (xs : List Str), q = .ok (.ret (.ref s.heap.objs.size)) ∧ s' = { s with heap := h', toks := tk, drawn := d } ∧ (∀ b o, s.heap.get? b = some o → h'.get? b = some o) ∧
      h'.get? s.heap.objs.size = some { cls := .type "list", dict := none, data := .seq acc c, slots := #[] } ∧ Texts acc xs ∧ xs.Perm ws) hh (hSet.at fun o g => Heap.get?_push_of_some _ g) hn (Nat.ne_of_gt ha) hS₁
    fun h' tk d acc c xs kp g tx hp => ⟨h', tk, d, acc, c, xs, rfl, rfl, fun b o e => kp b o (Nat.ne_of_lt (Heap.lt_size e)) (Heap.get?_push_of_some _ e), g, tx, hp⟩
  have fin : ∀ (q : Result) (s' : Shared), (∃ (h' : Heap) (tk : Nat) (d : Drawn) (acc : Array Value) (c : Nat) (xs : List Str), q = .ok (.ret (.ref s.heap.objs.size)) ∧ s' = { s with heap := h', toks := tk, drawn := d } ∧ (∀ b o, s.heap.get? b = some o → h'.get? b = some o) ∧
      h'.get? s.heap.objs.size = some { cls := .type "list", dict := none, data := .seq acc c, slots := #[] } ∧ Texts acc xs ∧ xs.Perm ws) → wants (fun v s₂ => wpAny (model P w) A (match v with
        | .ref a => do
          match (← load a).data with
          | .seq xs _ => pure xs.toList
          | _ => unsupported "internal:collect"
        | _ => unsupported "internal:collect") R E s₂) E q s' := by
    rintro q s' ⟨h', tk, d, acc, c, xs, rfl, rfl, kp, g, tx, hp⟩
    show wpAny _ A (load s.heap.objs.size >>= _) _ _ _
    exact wpAny_bind (wpAny_load g (wpAny_pure (h h' tk d acc xs kp (Heap.lt_size g) tx hp)))
  refine wpAny_mono key (fun f s' x => ?_) fun e s' x => ?_
  · cases f with
    | done f => exact fin _ _ x
    | again c₁ => exact ⟨x.1, codeAny_mono x.2 fun q s₂ y => fin _ _ y⟩
  · obtain ⟨_, _, _, _, _, _, e', _⟩ := x
    cases e'
/-- sorted(a set of texts) -/
theorem sorted_set {Q : Value → Shared → Prop} {a : Addr} {ws : List Str} (hh : A.handled = none) (hSet : SetS P w s.heap a ws) (h64 : ws.length < 64)
    (h : ∀ (h' : Heap) (tk : Nat) (d : Drawn) (D : Addr) (e : Nat) (out : List Value) (ss : List Str), (∀ b o, s.heap.get? b = some o → h'.get? b = some o) → s.heap.objs.size ≤ D → h'.get? D = some (seqObj "list" out.toArray e) → StrsAre out ss → ss.Perm ws → sortedS ss = true →
      Q (.ref D) { s with heap := h', toks := tk, drawn := d }) : wpAny (model P w) A (call (.builtin "sorted") [.ref a]) Q E s := by
  have hsl : (64 : Nat) ≤ sizeLine := by decide
  refine Calls.call_function_entry kind_sorted plain_sorted entry_sorted (args_sorted1 _) ?_
  unfold Builtin.«sorted»
  refine wpAny_bind (m := checkCount "sorted" 1 1 _) (wpAny_pure (wpAny_bind (set_collect (A := A.in1) hh hSet (by omega) fun h' tk d acc xs kp hlt tx hp => ?_)))
  have hl : acc.toList.length = ws.length := by rw [Array.length_toList, tx.1, hp.length_eq]
  have hS := tx.strs
  refine wpAny_bind (wpAny_newList ?_ (by omega))
  have hoL : (h'.push (seqObj "list" acc.toList.toArray 0)).get? h'.objs.size = some (seqObj "list" acc.toList.toArray 0) := Heap.get?_push_size _ rfl
  refine wpAny_bind (wpAny_holding (wpAny_call_entry slot_list_sort ⟨_, hoL, rfl⟩ entry_list_sort (list_sort_treeK (s := { s with heap := h'.push (seqObj "list" acc.toList.toArray 0), toks := tk, drawn := d }) strKind_oneLt hoL hS.keysOf (fun v₁ v₂ rest e => keyKind_strs (by rw [← e]; exact hS)) (by omega) fun st' a1 a2 => ⟨_, rfl, ?_⟩) (args_list_sort _)))
  obtain ⟨ss, z1, z2, z3⟩ := sorted_out_str hS a1 a2
  obtain ⟨e, he⟩ := sortedHeap_at (out := (arrOf st').map (·.2)) hoL
  refine wpAny_pure ⟨_, rfl, h _ tk d h'.objs.size e ((arrOf st').map (·.2)).toList ss (fun b o g => ?_) ?_ he z1 (z2.trans hp) z3⟩
  · have gb := Heap.lt_size (kp b o g)
    rw [sortedHeap_old (Nat.ne_of_lt gb) (by rw [size_push']; exact Nat.lt_succ_of_lt gb)]
    exact Heap.get?_push_of_some _ (kp b o g)
  · exact Nat.le_of_lt hlt
end
end L2

set_option Elab.async false
set_option linter.all false
set_option maxRecDepth 100000
set_option maxHeartbeats 4000000
namespace L2
open PySem PySem.Spec PyProof.Rows
theorem Inv.drew {X : Cx} {pins : List (Addr × Obj)} {σ : St} {H : Hp} {s : Shared} (I : Inv X pins σ H s) (d : Drawn) : Inv X pins σ H { s with drawn := d } := ⟨I.ok, I.os, I.bare, I.base, I.loc, I.cell, I.free, I.freeC, I.pin, I.hok, I.len⟩
theorem vals_strs : ∀ {ws : List Str} {us : List Value}, Vals (ws.map V.str) us → StrsAre us ws
  | [], us, h => by cases h; exact .nil
  | x :: r, us, h => by
    cases h with
    | cons a b =>
      obtain ⟨t, rfl⟩ := a
      exact .cons x t (vals_strs b)
theorem strs_vals : ∀ {ws : List Str} {us : List Value}, StrsAre us ws → Vals (ws.map V.str) us
  | [], us, h => by cases h; exact .nil
  | x :: r, us, h => by
    cases h with
    | cons _ t b => exact .cons ⟨t, rfl⟩ (strs_vals b)
theorem fold_grows : ∀ (l ws : List Str), ws.length ≤ (l.foldl insT ws).length
  | [], ws => Nat.le_refl _
  | x :: r, ws => by
    refine Nat.le_trans ?_ (fold_grows r (insT ws x))
    unfold insT
    split
    · exact Nat.le_refl _
    · rw [List.length_append]; exact Nat.le_add_right _ _
theorem foldT_take (ws : List Str) (i : Nat) : (foldT (ws.take i)).length ≤ (foldT ws).length := by
  have e : foldT ws = (ws.drop i).foldl insT (foldT (ws.take i)) := by
    unfold foldT
    rw [← List.foldl_append, List.take_append_drop]
  rw [e]
  exact fold_grows _ _
/-- set(texts) -/
theorem call_set_texts {X : Cx} (hc : X.calm = true) : CallR X (.type "set") (fun xs H Q => ∃ (l : Addr) (ws : List Str), xs = [.ref l] ∧ SqL X.K H l (ws.map V.str) ∧ (foldT ws).length < 64 ∧ ∀ a, H a = none → Q (.ref a) (upd H a (.ext fun h => SetS X.prog X.w h a (foldT ws)))) := by
  intro pins s σ H xs us Q I r h
  obtain ⟨l, ws, rfl, hl, h64, q⟩ := h
  obtain ⟨u, rfl, ru⟩ := r.one
  cases ru
  obtain ⟨its, rv, pl, hz⟩ := I.list hl
  have hS := vals_strs rv
  have hsc : (64 : Nat) < scanBound := by decide
  have hlen : ws.length = its.toArray.size := by rw [List.size_toArray, ← rv.length, List.length_map]
  refine set_of_texts (xs := ws) (I.ok.hd hc) pl.isList (fun i v hv => ?_) hlen (fun i => by have := foldT_take ws i; omega) fun h' tk hSet kp => ?_
  · rw [List.getElem?_toArray] at hv
    have hi : i < ws.length := by
      rw [hlen, List.size_toArray]
      exact (List.getElem?_eq_some_iff.mp hv).1
    obtain ⟨t, ht⟩ := hS.at (List.getElem?_eq_getElem hi)
    rw [ht] at hv
    exact ⟨_, t, List.getElem?_eq_getElem hi, by injection hv with hv; exact hv.symm⟩
  · refine ⟨.ref s.heap.objs.size, _, I.laid (t' := tk) kp (Nat.le_refl _) (show ObjOk X.prog X.w _ h' _ (.ext fun h => SetS X.prog X.w h s.heap.objs.size (foldT ws)) from ⟨hSet, let ⟨o, _, _, _, ho, _⟩ := hSet; ⟨o, ho⟩, fun h1 h2 z k => z.at k⟩), rfl, q _ I.fresh⟩
/-- sorted(a set of texts) -/
theorem call_sorted_set {X : Cx} (hc : X.calm = true) : CallR X (.builtin "sorted") (fun xs H Q => ∃ (a : Addr) (ws : List Str), xs = [.ref a] ∧ H a = some (.ext fun h => SetS X.prog X.w h a ws) ∧ ws.length < 64 ∧ ∀ (D : Addr) (ss : List Str), H D = none → ss.Perm ws → sortedS ss = true → Q (.ref D) (upd H D (.lst (ss.map V.str)))) := by
  intro pins s σ H xs us Q I r h
  obtain ⟨a, ws, rfl, ha, h64, q⟩ := h
  obtain ⟨u, rfl, ru⟩ := r.one
  cases ru
  have hSet := (I.hok a _ ha).1
  have hsl : (64 : Nat) ≤ sizeLine := by decide
  refine sorted_set (I.ok.hd hc) hSet h64 fun h' tk d D e out ss kp hD ho hS hp hs => ?_
  have hl : ss.length ≤ sizeLine := by rw [hp.length_eq]; omega
  exact ⟨.ref D, _, (I.laid (t' := tk) kp hD (show ObjOk X.prog X.w _ h' _ (.lst (ss.map V.str)) from ⟨by rw [List.length_map]; exact hl, out, e, strs_vals hS, ho⟩)).drew d, rfl, q D ss (I.hok.fresh hD) hp hs⟩
/-- sorted(a list of texts) -/
theorem call_sorted_list {X : Cx} : CallR X (.builtin "sorted") (fun xs H Q => ∃ (l : Addr) (ws : List Str), xs = [.ref l] ∧ SqL X.K H l (ws.map V.str) ∧ ws.length < 64 ∧ ∀ (D : Addr) (ss : List Str), H D = none → ss.Perm ws → sortedS ss = true → Q (.ref D) (upd H D (.lst (ss.map V.str)))) := by
  intro pins s σ H xs us Q I r h
  obtain ⟨l, ws, rfl, hl, h64, q⟩ := h
  obtain ⟨u, rfl, ru⟩ := r.one
  cases ru
  obtain ⟨its, rv, pl, hz⟩ := I.list hl
  have hlen : its.length = ws.length := by rw [← rv.length, List.length_map]
  have hsl : (64 : Nat) ≤ sizeLine := by decide
  refine sorted_strs (vs := its) pl.isList (vals_strs rv) (by omega) fun out ss hS hp hs => ?_
  obtain ⟨e, he⟩ := sortedAll_at s.heap its out
  have hz' : ss.length ≤ sizeLine := by rw [hp.length_eq]; omega
  exact ⟨.ref (s.heap.objs.size + 1), _, I.laid (t' := s.toks) (fun b o g => sortedAll_old g) (Nat.le_succ _) (show ObjOk X.prog X.w _ _ _ (.lst (ss.map V.str)) from ⟨by rw [List.length_map]; exact hz', out.toList, e, strs_vals hS, he⟩), rfl, q _ ss (I.hok.fresh (Nat.le_succ _)) hp hs⟩
end L2

set_option Elab.async false
set_option linter.all false
set_option maxRecDepth 100000
set_option maxHeartbeats 4000000
/-! Lists and tuples of things that are alike: == and != of them. -/
namespace L2
open PySem PySem.Spec PyProof.Rows PySem.SeqAt
/-- the very same, or tuples of such things, n deep -/
def Alike (H : Hp) : Nat → V → V → Prop
  | 0, _, _ => False
  | n + 1, x, y => (x = y ∧ (flatV x = true ∨ ∃ a, x = .ref a)) ∨ ∃ a b xs ys, x = .ref a ∧ y = .ref b ∧ H a = some (.tup xs) ∧ H b = some (.tup ys) ∧ Paired (Alike H n) xs ys
theorem paired_at {α β : Type} {R : α → β → Prop} : ∀ {xs : List α} {ys : List β}, Paired R xs ys → ∀ {i : Nat} {x : α} {y : β}, xs[i]? = some x → ys[i]? = some y → R x y
  | [], [], _, i, x, y, h, _ => by simp at h
  | _ :: _, _ :: _, .cons a b, 0, x, y, h, k => by
    simp at h k
    subst h; subst k
    exact a
  | _ :: _, _ :: _, .cons a b, i + 1, x, y, h, k => paired_at b (by simpa using h) (by simpa using k)
section
variable {X : Cx} {pins : List (Addr × Obj)} {σ : St} {H : Hp} {s : Shared}
/-- items that are alike pairwise -/
theorem items_alike {R : V → V → Prop} {xs ys : List V} {us vs : List Value} (p : Paired R xs ys) (ru : Vals xs us) (rv : Vals ys vs) {j : Nat} (h1 : j < us.toArray.size) (h2 : j < vs.toArray.size) : ∃ x y, R x y ∧ RelV x us.toArray[j] ∧ RelV y vs.toArray[j] := by
  have l1 := ru.length
  have l2 := rv.length
  simp only [List.size_toArray] at h1 h2
  obtain ⟨x, hx⟩ : ∃ x, xs[j]? = some x := ⟨_, List.getElem?_eq_getElem (by omega)⟩
  obtain ⟨y, hy⟩ : ∃ y, ys[j]? = some y := ⟨_, List.getElem?_eq_getElem (by omega)⟩
  obtain ⟨u, hu, rxu⟩ := ru.get hx
  obtain ⟨v, hv, ryv⟩ := rv.get hy
  have e1 : us.toArray[j] = u := by
    rw [List.getElem?_eq_getElem h1] at hu
    simpa using hu
  have e2 : vs.toArray[j] = v := by
    rw [List.getElem?_eq_getElem h2] at hv
    simpa using hv
  exact ⟨x, y, paired_at p hx hy, e1 ▸ rxu, e2 ▸ ryv⟩
theorem alike_eq (I : Inv X pins σ H s) : ∀ {n : Nat} {x y : V} {u v : Value} {A : Around}, Alike H n x y → RelV x u → RelV y v → A.units + n < cLine → EqAt A s u v true
  | 0, _, _, _, _, _, h, _, _, _ => h.elim
  | n + 1, x, y, u, v, A, h, ru, rv, hu => by
    rcases h with ⟨rfl, hf | ⟨a, rfl⟩⟩ | ⟨a, b, xs, ys, rfl, rfl, ha, hb, p⟩
    · have q := eqAt_V (A := A) (s := s) ru rv hf hf
      have e : eqV x x = true := by
        cases x <;> simp_all [eqV, flatV]
      rw [e] at q
      exact q
    · cases ru; cases rv
      exact EqAt.same _
    · cases ru; cases rv
      by_cases hne : a = b
      · subst hne; exact EqAt.same _
      obtain ⟨_, its, r1, t1⟩ := I.hok a _ ha
      obtain ⟨_, jts, r2, t2⟩ := I.hok b _ hb
      have hl : its.toArray.size = jts.toArray.size := by rw [List.size_toArray, List.size_toArray, ← r1.length, ← r2.length, p.length]
      refine EqAt.of_refs hne ?_
      have q := RcAt.tuples (A := A) (s := s) (e := fun _ => true) t1 t2 (by omega) fun j h1 h2 => by
        obtain ⟨x, y, hxy, rx, ry⟩ := items_alike p r1 r2 h1 h2
        exact alike_eq I hxy rx ry (by show A.units + 1 + n < cLine; omega)
      have e : ((List.range (min its.toArray.size jts.toArray.size)).all (fun _ => true) && its.toArray.size == jts.toArray.size) = true := by
        rw [hl]; simp
      rw [e] at q
      exact q
/-- == of two lists whose items are alike -/
theorem op_eqA (hu : X.A.units + 64 < cLine) : OpR X (compareOp .Eq) (fun x y H Q => ∃ (a b : Addr) (xs ys : List V) (n : Nat), x = .ref a ∧ y = .ref b ∧ SqL X.K H a xs ∧ SqL X.K H b ys ∧ n ≤ 60 ∧ Paired (Alike H n) xs ys ∧ Q (.bl true) H) := by
  intro pins s σ H x y v u Q I rx ry h
  obtain ⟨a, b, xs, ys, n, rfl, rfl, ha, hb, hn, p, q⟩ := h
  cases rx
  cases ry
  obtain ⟨its, r1, p1, _⟩ := I.list ha
  obtain ⟨jts, r2, p2, _⟩ := I.list hb
  have hl : its.toArray.size = jts.toArray.size := by rw [List.size_toArray, List.size_toArray, ← r1.length, ← r2.length, p.length]
  refine SeqAt.eq_listAt (e := fun _ => true) p1.isList p2.isList hl (by omega) (fun j h1 h2 => ?_) ⟨.bl true, H, I, ?_, q⟩
  · obtain ⟨x, y, hxy, rx, ry⟩ := items_alike p r1 r2 h1 h2
    exact alike_eq I hxy rx ry (by show X.A.units + 1 + n < cLine; omega)
  · show Value.bool _ = Value.bool true
    rw [show (List.range its.toArray.size).all (fun _ => true) = true by simp]
/-- != [] -/
theorem op_neL0 (hu : X.A.units < cLine) : OpR X (compareOp .NotEq) (fun x y H Q => ∃ a b xs, x = .ref a ∧ y = .ref b ∧ SqL X.K H a xs ∧ SqL X.K H b [] ∧ Q (.bl (!xs.isEmpty)) H) := by
  intro pins s σ H x y v u Q I rx ry h
  obtain ⟨a, b, xs, rfl, rfl, ha, hb, q⟩ := h
  cases rx
  cases ry
  obtain ⟨its, r1, p1, _⟩ := I.list ha
  obtain ⟨its2, r2, p2, _⟩ := I.list hb
  obtain rfl := r2.zero
  cases xs with
  | nil =>
    obtain rfl := r1.zero
    exact RcNeAt.lists (A := X.A) (s := s) (e := fun _ => true) p1.isList p2.isList rfl hu (fun j h1 h2 => absurd h1 (by simp)) X.prog X.w _ _ ⟨.bl false, H, I, rfl, q⟩
  | cons x xr =>
    cases r1 with
    | cons r rr => exact RcNeAt.lists_lengths (A := X.A) (s := s) p1.isList p2.isList (by simp) hu X.prog X.w _ _ ⟨.bl true, H, I, rfl, q⟩
end
end L2

set_option Elab.async false
set_option linter.all false
set_option maxRecDepth 100000
set_option maxHeartbeats 4000000
namespace K03
open PySem L2
seal L2.PE L2.PS L2.PSs L2.PT L2.PW L2.PA L2.PG L2.PGs L2.PI L2.PO L2.PIfs L2.PC L2.OpR L2.CallR L2.IxR L2.SlR L2.PSet L2.UnR

/-! ### what a world is -/
def tupAt (H : Hp) : V → Option (List V)
  | .ref a => match H a with
    | some (.tup xs) => some xs
    | _ => none
  | _ => none
theorem tupAt_tup {H : Hp} {a : Addr} {xs : List V} (h : H a = some (.tup xs)) : tupAt H (.ref a) = some xs := by
  unfold tupAt; dsimp only; rw [h]
theorem Dt.tupOr {p : Addr} {H : Hp} {n : Nat} {v : V} (h : Dt p H n v) : ∃ t, tyN H v = some t ∧ ((∃ (m : Nat) (a : Addr) (xs : List V), n = m + 1 ∧ v = .ref a ∧ t = "tuple" ∧ H a = some (.tup xs) ∧ xs.length ≤ 120 ∧ ∀ x ∈ xs, Dt p H m x) ∨ (isiB t "tuple" = false ∧ tupAt H v = none)) := by
  rcases h.kind with ⟨rfl, ty⟩ | ⟨b, rfl, ty⟩ | ⟨i, rfl, ty⟩ | ⟨x, rfl, ty, hx⟩ | ⟨m, a, xs, r1, rfl, ty, ha, hl, hx⟩ | ⟨m, a, xs, _, rfl, ty, ha, _⟩ | ⟨a, rfl, ty, ha⟩
  · exact ⟨_, ty, .inr ⟨by decide, rfl⟩⟩
  · exact ⟨_, ty, .inr ⟨by decide, rfl⟩⟩
  · exact ⟨_, ty, .inr ⟨by decide, rfl⟩⟩
  · exact ⟨_, ty, .inr ⟨by decide, rfl⟩⟩
  · exact ⟨_, ty, .inl ⟨m, a, xs, r1, rfl, rfl, ha, hl, hx⟩⟩
  · exact ⟨_, ty, .inr ⟨by decide, by unfold tupAt; dsimp only; rw [ha]⟩⟩
  · exact ⟨_, ty, .inr ⟨by decide, by unfold tupAt; dsimp only; rw [ha]⟩⟩
theorem tupAt_same {p : Addr} {H H' : Hp} {n : Nat} {v : V} (s : Same H H') (h : Dt p H n v) : tupAt H' v = tupAt H v := by
  obtain ⟨t, ty, ⟨m, a, xs, rfl, rfl, rfl, ha, _⟩ | ⟨hf, hn⟩⟩ := h.tupOr
  · rw [tupAt_tup ha, tupAt_tup (s _ _ ha)]
  · rw [hn]
    obtain ⟨t', ty', ⟨m, a, xs, rfl, rfl, rfl, ha, _⟩ | ⟨hf', hn'⟩⟩ := (h.same s).tupOr
    · exfalso
      have hn2 : tupAt H (.ref a) = none := hn
      rcases h.kind with ⟨q, _⟩ | ⟨b, q, _⟩ | ⟨i, q, _⟩ | ⟨x, q, _, _⟩ | ⟨m', a', xs', _, q, _, ha', _⟩ | ⟨m', a', xs', _, q, _, ha', _⟩ | ⟨a', q, _, ha'⟩
      · cases q
      · cases q
      · cases q
      · cases q
      · cases q; rw [tupAt_tup ha'] at hn2; cases hn2
      · cases q; rw [s _ _ ha'] at ha; cases ha
      · cases q; rw [s _ _ ha'] at ha; cases ha
    · exact hn'
/-- a tuple of at most m things, each one as told -/
def tupOf (H : Hp) (m : Nat) (φ : Hp → V → Bool) (v : V) : Bool := match tupAt H v with
  | some xs => decide (xs.length ≤ m) && xs.all (φ H)
  | none => false
/-- what is told of a thing lasts -/
def Stb (φ : Hp → V → Bool) : Prop := ∀ {p : Addr} {H H' : Hp} {n : Nat} {v : V}, Same H H' → Dt p H n v → φ H' v = φ H v
theorem all_congr {α : Type} {f g : α → Bool} : ∀ {l : List α}, (∀ x ∈ l, f x = g x) → l.all f = l.all g
  | [], _ => rfl
  | x :: r, h => by rw [List.all_cons, List.all_cons, h x (List.mem_cons_self), all_congr fun y hy => h y (List.mem_cons_of_mem _ hy)]
theorem stb_tup {m : Nat} {φ : Hp → V → Bool} (st : Stb φ) : Stb (fun H v => tupOf H m φ v) := by
  intro p H H' n v s h
  show tupOf H' m φ v = tupOf H m φ v
  unfold tupOf
  rw [tupAt_same s h]
  obtain ⟨t, ty, ⟨k, a, xs, rfl, rfl, rfl, ha, _, hx⟩ | ⟨hf, hn⟩⟩ := h.tupOr
  · rw [tupAt_tup ha]
    dsimp only
    rw [all_congr fun x hm => st s (hx x hm)]
  · rw [hn]
def spPred (φ : Hp → V → Bool) : Sp := fun vs H Q _ => ∃ (v : V) (p : Addr) (n : Nat), vs = [v] ∧ Dt p H n v ∧ ∀ H', Same H H' → Q (.bl (φ H v)) H'

section
variable {P : Program} {w : World} {K : PySem.W.Frag} {mg : Str → Option Value} {base : Heap}
/-! ### is_tuple_of -/
theorem sc_tuple_of : FnScope ["thing", "most", "is_one"] ["thing", "most", "is_one"] (defScope (top 21)) := ⟨rfl, rfl, rfl, by decide +kernel, rfl, by decide +kernel, by decide +kernel⟩
def spTupOf (P : Program) (w : World) (K : PySem.W.Frag) (mg : Str → Option Value) (base : Heap) (k : Nat) : Sp := fun vs H Q _ => ∃ (v : V) (m : Nat) (f : Addr) (fd : FuncData) (ps : List Str) (φ : Hp → V → Bool) (p : Addr) (n : Nat),
  vs = [v, .int m, .ref f] ∧ Dt p H n v ∧ FnOk P w K mg base CX0 k f fd ps (spPred φ) ∧ PySem.W.keepIn K (.ref f) = true ∧ Binds K fd ps [] ∧ Stb φ ∧ ∀ H', Same H H' → Q (.bl (tupOf H m φ v)) H'
theorem d_tuple_of {k : Nat} (T : Txt w K mg) (S : Src K mg "is_tuple_of" (top 21) ["thing", "most", "is_one"]) : Def P w K mg base (k + 1) "is_tuple_of" ["thing", "most", "is_one"] (spTupOf P w K mg base k) := by
  refine S.ok sc_tuple_of (fun vs H Q E h => ?_) (fun f0 cdv A outer s H vs Q E hr h => ?_)
  · obtain ⟨v, m, f, fd, ps, φ, p, n, rfl, _⟩ := h; rfl
  obtain ⟨v, m, f, fd, ps, φ, p, n, rfl, hv, F, hk, hb, st, q⟩ := h
  refine ⟨_, (pss_one (ps_ret (pe_and (pe_cB call_isi rfl T.z_isinstance bt_isinstance (pac (pv 0) (pac (pe_ty T.z_tuple bt_tuple rfl) pa_nil))) (pe_and (pe_cmpR op_le (pe_cB call_len_seq rfl T.z_len bt_len (pac (pv 0) pa_nil)) (pv 1) (nomark _)) (pe_one (pe_cB (call_all_bl rfl) rfl T.z_all bt_all (pac (pe_comp (N' := ["part", "is_one"]) (comp_scope (defScope (top 21)) (by rfl) (by decide +kernel) (by decide +kernel) (by decide +kernel) (by decide +kernel) (by decide +kernel) (by decide +kernel)) rfl (capt 1 [2] (by rfl) (by rfl) (by decide +kernel)) (pi_tup (pv 0)) (fun _ _ _ => pg_name (i := 0) (show (["part", "is_one"] : List Str).Nodup by decide +kernel) rfl (Or.inl rfl) (Or.inr rfl)) (fun _ _ _ => pifs_nil) (fun _ _ _ => (show PE _ _ (tCallF P w K mg base k (tVar 1) (tCons (tVar 0) tNil)) from pe_callF (pv 1) hr (pac (pv 0) pa_nil)))) pa_nil))))))), ?_⟩
  obtain ⟨t, ty, ⟨j, a, xs, rfl, rfl, rfl, ha, hl, hx⟩ | ⟨hf, hn⟩⟩ := hv.tupOr
  · refine ⟨_, rfl, _, "tuple", _, rfl, ty, by simp, _, rfl, ifT (by decide) ?_⟩
    refine ⟨_, rfl, a, _, rfl, .inr (SqT.of ha), _, rfl, _, _, rfl, rfl, _, rfl, ite2 (fun c => ?_) (fun c => ?_)⟩
    · refine ⟨_, rfl, a, rfl, ⟨xs, SqT.of ha⟩, walk_tup (te := tCallF P w K mg base k (tVar 1) (tCons (tVar 0) tNil)) (cs := [some (.ref f)]) (fun x => .bl (φ H x)) ha (by omega) (by rfl) (fun x H2 k2 hx2 s2 hk2 => ?_) (fun acc H' hna s' hl' => ?_)⟩
      · refine ⟨_, rfl, f, fd, ps, spPred φ, rfl, F, hk, hb, _, rfl, x, p, j, rfl, (hx x hx2).same s2, fun H3 s3 => ?_⟩
        rw [st s2 (hx x hx2)]
        exact hk2 H3 s3
      · refine ⟨acc, xs.map (φ H), rfl, SqL.of (by rw [List.map_map]; exact hl'), ?_⟩
        have e : tupOf H m φ (.ref a) = (xs.map (φ H)).all id := by
          unfold tupOf
          rw [tupAt_tup ha]
          dsimp only
          rw [decide_eq_true (by have := of_decide_eq_true c; omega), Bool.true_and, List.all_map]
          rfl
        rw [← e]
        exact q H' s'
    · have e : tupOf H m φ (.ref a) = false := by
        unfold tupOf
        rw [tupAt_tup ha]
        dsimp only
        rw [decide_eq_false (by have := of_decide_eq_false (Bool.eq_false_iff.mpr c); omega), Bool.false_and]
      rw [← e]
      exact q H (Same.refl H)
  · refine ⟨_, rfl, _, "tuple", _, rfl, ty, by simp, _, rfl, ifF hf ?_⟩
    have e : tupOf H m φ v = false := by unfold tupOf; rw [hn]
    rw [← e]
    exact q H (Same.refl H)

/-! ### is_pair -/
def pairV (H : Hp) (v : V) : Bool := match tupAt H v with
  | some xs => decide (xs.length = 2)
  | none => false
theorem sc_pair : FnScope ["thing"] ["thing"] (defScope (top 22)) := ⟨rfl, rfl, rfl, by decide +kernel, rfl, by decide +kernel, by decide +kernel⟩
def spPair : Sp := fun vs H Q _ => ∃ (v : V) (p : Addr) (n : Nat), vs = [v] ∧ Dt p H n v ∧ Q (.bl (pairV H v)) H
theorem d_pair (T : Txt w K mg) (S : Src K mg "is_pair" (top 22) ["thing"]) : Def P w K mg base 1 "is_pair" ["thing"] spPair := by
  refine S.ok sc_pair (fun vs H Q E h => ?_) (fun f0 cdv A outer s H vs Q E hr h => ?_)
  · obtain ⟨v, p, n, rfl, _⟩ := h; rfl
  obtain ⟨v, p, n, rfl, hv, q⟩ := h
  refine ⟨_, (pss_one (ps_ret (pe_and (pe_cB call_isi rfl T.z_isinstance bt_isinstance (pac (pv 0) (pac (pe_ty T.z_tuple bt_tuple rfl) pa_nil))) (pe_one (pe_cmpR op_eq (pe_cB call_len_seq rfl T.z_len bt_len (pac (pv 0) pa_nil)) pe_int (nomark _)))))), ?_⟩
  obtain ⟨t, ty, ⟨j, a, xs, rfl, rfl, rfl, ha, hl, hx⟩ | ⟨hf, hn⟩⟩ := hv.tupOr
  · refine ⟨_, rfl, _, "tuple", _, rfl, ty, by simp, _, rfl, ifT (by decide) ?_⟩
    refine ⟨_, rfl, a, _, rfl, .inr (SqT.of ha), rfl, ?_⟩
    have e : pairV H (.ref a) = decide (V.int (xs.length : Int) = V.int 2) := by
      unfold pairV
      rw [tupAt_tup ha]
      dsimp only
      by_cases h2 : xs.length = 2
      · rw [decide_eq_true h2, decide_eq_true (by rw [h2]; rfl)]
      · rw [decide_eq_false h2, decide_eq_false (by intro z; injection z with z; omega)]
    rw [e] at q
    exact q
  · refine ⟨_, rfl, _, "tuple", _, rfl, ty, by simp, _, rfl, ifF hf ?_⟩
    have e : pairV H v = false := by unfold pairV; rw [hn]
    rw [← e]
    exact q

/-! ### is_answer -/
def ansV (H : Hp) (v : V) : Bool := match tupAt H v with
  | some [y, z] => nmV y && tupOf H 40 (fun _ x => numV x) z
  | _ => false
theorem stb_num : Stb (fun _ x => numV x) := fun _ _ => rfl
theorem tup_num {p : Addr} {H H' : Hp} {n m : Nat} {v : V} (s : Same H H') (h : Dt p H n v) : tupOf H' m (fun _ x => numV x) v = tupOf H m (fun _ x => numV x) v := stb_tup stb_num s h
theorem stb_ans : Stb ansV := by
  intro p H H' n v s h
  unfold ansV
  rw [tupAt_same s h]
  obtain ⟨t, ty, ⟨k, a, xs, rfl, rfl, rfl, ha, _, hx⟩ | ⟨hf, hn⟩⟩ := h.tupOr
  · rw [tupAt_tup ha]
    match xs, hx with
    | [], _ => rfl
    | [_], _ => rfl
    | [y, z], hx =>
      dsimp only
      rw [tup_num s (hx z (by simp))]
    | _ :: _ :: _ :: _, _ => rfl
  · rw [hn]
theorem sc_answer : FnScope ["thing"] ["thing"] (defScope (top 23)) := ⟨rfl, rfl, rfl, by decide +kernel, rfl, by decide +kernel, by decide +kernel⟩
theorem d_answer (T : Txt w K mg) (D_is_name : Def P w K mg base 1 "is_name" ["thing"] spIsName) (D_is_number : Def P w K mg base 2 "is_number" ["thing"] spIsNum) (D_is_pair : Def P w K mg base 1 "is_pair" ["thing"] spPair)
    (D_is_tuple_of : Def P w K mg base 3 "is_tuple_of" ["thing", "most", "is_one"] (spTupOf P w K mg base 2)) (S : Src K mg "is_answer" (top 23) ["thing"]) : Def P w K mg base 4 "is_answer" ["thing"] (spPred ansV) := by
  obtain ⟨tm, v_MOST_ANSWERS⟩ := T.answers
  obtain ⟨fn, fd, F, hfn, hkn, hbn⟩ := D_is_number.ex
  refine S.ok sc_answer (fun vs H Q E h => ?_) (fun f0 cdv A outer s H vs Q E hr h => ?_)
  · obtain ⟨v, p, n, rfl, _⟩ := h; rfl
  obtain ⟨v, p, n, rfl, hv, q⟩ := h
  refine ⟨_, (pss_one (ps_ret (pe_and (pe_def (D_is_pair.mono (by decide)) hr rfl (pac (pv 0) pa_nil)) (pe_and (pe_def (D_is_name.mono (by decide)) hr rfl (pac (pe_ix ix_tup (pv 0) pe_int (fun _ _ => rfl)) pa_nil)) (pe_one (pe_def (D_is_tuple_of) hr rfl (pac (pe_ix ix_tup (pv 0) pe_int (fun _ _ => rfl)) (pac (pe_glob (v := .int (40)) rfl v_MOST_ANSWERS ⟨_, rfl⟩) (pac (pe_glob (v := .ref fn) rfl hfn rfl) pa_nil))))))))), ?_⟩
  refine ⟨_, rfl, v, p, n, rfl, hv, _, rfl, ite2 (fun c => ?_) (fun c => ?_)⟩
  · obtain ⟨t, ty, ⟨j, a, xs, rfl, rfl, rfl, ha, hl, hx⟩ | ⟨hf, hn⟩⟩ := hv.tupOr
    case inr => unfold pairV at c; rw [hn] at c; cases c
    have c2 : xs.length = 2 := by unfold pairV at c; rw [tupAt_tup ha] at c; exact of_decide_eq_true c
    match xs, c2, hx, ha with
    | [y, z], _, hx, ha =>
    have eA : ansV H (.ref a) = (nmV y && tupOf H 40 (fun _ x => numV x) z) := by unfold ansV; rw [tupAt_tup ha]
    refine ⟨_, rfl, a, _, 0, _, rfl, rfl, SqT.of ha, atI_nat (j := 0) rfl, y, p, j, rfl, hx y (by simp), fun H1 s1 => ?_⟩
    refine ⟨_, rfl, ite2 (fun d => ?_) (fun d => ?_)⟩
    · refine ⟨_, rfl, a, _, 1, _, rfl, rfl, SqT.of (s1 _ _ ha), atI_nat (j := 1) rfl, z, 40, fn, fd, _, fun _ x => numV x, p, j, rfl, (hx z (by simp)).same s1, F.imp (fun vs H Q E h => ?_), hkn, hbn, stb_num, fun H2 s2 => ?_⟩
      · obtain ⟨v, p, n, e, hv, q⟩ := h
        exact ⟨v, p, n, e, hv, q H (Same.refl H)⟩
      · rw [tup_num s1 (hx z (by simp))]
        rw [d, Bool.true_and] at eA
        rw [← eA]
        exact q H2 (s1.trans s2)
    · rw [Bool.eq_false_iff.mpr d, Bool.false_and] at eA
      rw [← eA]
      exact q H1 s1
  · have e : ansV H v = false := by
      unfold ansV pairV at *
      cases h : tupAt H v with
      | none => rfl
      | some xs =>
        rw [h] at c
        match xs, c with
        | [], _ => rfl
        | [_], _ => rfl
        | [_, _], c => exact absurd (decide_eq_true rfl) c
        | _ :: _ :: _ :: _, _ => rfl
    rw [← e]
    exact q H (Same.refl H)

/-! ### names_of -/
def fstV (H : Hp) (v : V) : V := match tupAt H v with
  | some (y :: _) => y
  | _ => .non
theorem sc_names_of : FnScope ["things"] ["things"] (defScope (top 24)) := ⟨rfl, rfl, rfl, by decide +kernel, rfl, by decide +kernel, by decide +kernel⟩
def spNamesOf : Sp := fun vs H Q _ => ∃ (a : Addr) (xs : List V), vs = [.ref a] ∧ H a = some (.tup xs) ∧ xs.length ≤ 120 ∧ (∀ x ∈ xs, ∃ b y ys, x = .ref b ∧ H b = some (.tup (y :: ys))) ∧
  ∀ acc H', H acc = none → Same H H' → H' acc = some (.lst (xs.map (fstV H))) → Q (.ref acc) H'
theorem d_names_of (T : Txt w K mg) (S : Src K mg "names_of" (top 24) ["things"]) : Def P w K mg base 1 "names_of" ["things"] spNamesOf := by
  refine S.ok sc_names_of (fun vs H Q E h => ?_) (fun f0 cdv A outer s H vs Q E hr h => ?_)
  · obtain ⟨a, xs, rfl, _⟩ := h; rfl
  obtain ⟨a, xs, rfl, ha, hl, hx, q⟩ := h
  refine ⟨_, (pss_one (ps_ret (pe_comp (N' := ["thing"]) (comp_scope (defScope (top 24)) (by rfl) (by decide +kernel) (by decide +kernel) (by decide +kernel) (by decide +kernel) (by decide +kernel) (by decide +kernel)) rfl (capt 1 [] (by rfl) (by rfl) (by decide +kernel)) (pi_tup (pv 0)) (fun _ _ _ => pg_name (i := 0) (show (["thing"] : List Str).Nodup by decide +kernel) rfl (Or.inl rfl) (Or.inr rfl)) (fun _ _ _ => pifs_nil) (fun _ _ _ => (pe_ix (show IxR _ (rIxT K) from ix_tup) (pv 0) pe_int (fun _ _ => rfl)))))), ?_⟩
  refine ⟨_, rfl, a, rfl, ⟨xs, SqT.of ha⟩, walk_tup (te := tOp (rIxT K) (tVar 0) (tC (.int 0))) (cs := []) (fstV H) ha (by omega) (by rfl) (fun x H2 k2 hx2 s2 hk2 => ?_) (fun acc H' hna s' hl' => q acc H' hna s' hl')⟩
  obtain ⟨b, y, ys, rfl, hb⟩ := hx x hx2
  have e : fstV H (.ref b) = y := by unfold fstV; rw [tupAt_tup hb]
  have z := hk2 H2 (Same.refl H2)
  rw [e] at z
  exact ⟨_, rfl, b, _, 0, _, rfl, rfl, SqT.of (s2 _ _ hb), atI_nat (j := 0) rfl, z⟩
end
end K03

set_option Elab.async false
set_option linter.all false
set_option maxRecDepth 100000
set_option maxHeartbeats 4000000
/-! Lists of texts compared; texts by >=; rising texts. -/
namespace L2
open PySem PySem.Spec PyProof.Rows PySem.SeqAt
theorem op_ge_str {X : Cx} : OpR X (compareOp .GtE) (fun x y H Q => ∃ i j, x = .str i ∧ y = .str j ∧ Q (.bl (!decide (i.cps.toList < j.cps.toList))) H) := by
  intro pins s σ H x y v u Q I rx ry h
  obtain ⟨i, j, rfl, rfl, q⟩ := h
  obtain ⟨t, rfl⟩ := rx
  obtain ⟨t', rfl⟩ := ry
  exact PySem.P.ge_str ⟨.bl _, H, I, rfl, q⟩
theorem all_range_eq {xs ys : List Str} (h : xs.length = ys.length) : (List.range xs.length).all (fun j => decide (xs[j]? = ys[j]?)) = decide (xs = ys) := by
  by_cases e : xs = ys
  · subst e
    rw [decide_eq_true rfl]
    simp
  · rw [decide_eq_false e]
    rw [Bool.eq_false_iff]
    intro z
    rw [List.all_eq_true] at z
    apply e
    refine List.ext_getElem? fun j => ?_
    by_cases hj : j < xs.length
    · exact of_decide_eq_true (z j (List.mem_range.mpr hj))
    · rw [List.getElem?_eq_none (by omega), List.getElem?_eq_none (by omega)]
/-- != of two lists of texts -/
theorem op_neS {X : Cx} (hu : X.A.units + 64 < cLine) : OpR X (compareOp .NotEq) (fun x y H Q => ∃ (a b : Addr) (xs ys : List Str), x = .ref a ∧ y = .ref b ∧ SqL X.K H a (xs.map V.str) ∧ SqL X.K H b (ys.map V.str) ∧ Q (.bl (!decide (xs = ys))) H) := by
  intro pins s σ H x y v u Q I rx ry h
  obtain ⟨a, b, xs, ys, rfl, rfl, ha, hb, q⟩ := h
  cases rx
  cases ry
  obtain ⟨its, r1, p1, _⟩ := I.list ha
  obtain ⟨jts, r2, p2, _⟩ := I.list hb
  have l1 := r1.length
  have l2 := r2.length
  rw [List.length_map] at l1 l2
  by_cases hl : xs.length = ys.length
  · have hl' : its.toArray.size = jts.toArray.size := by rw [List.size_toArray, List.size_toArray, ← l1, ← l2, hl]
    refine RcNeAt.lists (A := X.A) (s := s) (e := fun j => decide (xs[j]? = ys[j]?)) p1.isList p2.isList hl' (by omega) (fun j h1 h2 => ?_) X.prog X.w _ _ ⟨.bl _, H, I, ?_, q⟩
    · simp only [List.size_toArray] at h1 h2
      have g1 : xs[j]? = some xs[j] := List.getElem?_eq_getElem (by omega)
      have g2 : ys[j]? = some ys[j] := List.getElem?_eq_getElem (by omega)
      obtain ⟨u, hu1, ru⟩ := r1.get (i := j) (x := .str xs[j]) (by rw [List.getElem?_map, g1]; rfl)
      obtain ⟨v, hv1, rv⟩ := r2.get (i := j) (x := .str ys[j]) (by rw [List.getElem?_map, g2]; rfl)
      have e1 : its.toArray[j] = u := by
        rw [List.getElem?_eq_getElem h1] at hu1
        simpa using hu1
      have e2 : jts.toArray[j] = v := by
        rw [List.getElem?_eq_getElem h2] at hv1
        simpa using hv1
      have z := eqAt_V (A := X.A.in1) (s := s) ru rv rfl rfl
      have e3 : eqV (.str xs[j]) (.str ys[j]) = decide (xs[j]? = ys[j]?) := by
        rw [g1, g2]
        show (xs[j] == ys[j]) = decide (some xs[j] = some ys[j])
        by_cases e : xs[j] = ys[j]
        · rw [e, decide_eq_true rfl]; exact beq_self_eq_true _
        · rw [decide_eq_false (fun z => e (Option.some.inj z))]; exact beq_eq_false_iff_ne.mpr e
      rw [e3] at z
      rw [e1, e2]
      exact z
    · show Value.bool _ = Value.bool _
      rw [List.size_toArray, ← l1, all_range_eq hl]
  · refine RcNeAt.lists_lengths (A := X.A) (s := s) p1.isList p2.isList (by simp [← l1, ← l2, hl]) (by omega) X.prog X.w _ _ ⟨.bl _, H, I, ?_, q⟩
    rw [decide_eq_false (fun e => hl (by rw [e]))]
    rfl
theorem bt_sorted : bootBuiltins "sorted" = some (.builtin "sorted") := by decide +kernel
theorem bt_set : bootBuiltins "set" = some (.type "set") := by decide +kernel
/-- each one before the next -/
def riseS : List Str → Bool
  | [] => true
  | [_] => true
  | x :: y :: r => decide (x.cps.toList < y.cps.toList) && riseS (y :: r)
theorem rise_pw : ∀ {l : List Str}, riseS l = true → l.Pairwise (fun a b => a.cps.toList < b.cps.toList)
  | [], _ => .nil
  | [x], _ => List.pairwise_singleton _ _
  | x :: y :: r, h => by
    unfold riseS at h
    rw [Bool.and_eq_true] at h
    have ih := rise_pw h.2
    have hxy := of_decide_eq_true h.1
    refine List.pairwise_cons.mpr ⟨fun z hz => ?_, ih⟩
    rcases List.mem_cons.mp hz with rfl | hz
    · exact hxy
    · exact List.lt_trans hxy ((List.pairwise_cons.mp ih).1 z hz)
theorem pw_rise : ∀ {l : List Str}, l.Pairwise (fun a b => a.cps.toList < b.cps.toList) → riseS l = true
  | [], _ => rfl
  | [x], _ => rfl
  | x :: y :: r, h => by
    unfold riseS
    rw [Bool.and_eq_true]
    have h' := List.pairwise_cons.mp h
    exact ⟨decide_eq_true (h'.1 y (List.mem_cons_self)), pw_rise h'.2⟩
theorem rise_sorted : ∀ {l : List Str}, riseS l = true → sortedS l = true
  | [], _ => rfl
  | [x], _ => rfl
  | x :: y :: r, h => by
    unfold riseS at h
    rw [Bool.and_eq_true] at h
    have ih := rise_sorted h.2
    have hxy := of_decide_eq_true h.1
    unfold sortedS risingS
    rw [Bool.and_eq_true]
    refine ⟨?_, ih⟩
    rw [ltCps_eq]
    have : ¬ y.cps.toList < x.cps.toList := fun z => List.lt_irrefl _ (List.lt_trans hxy z)
    simp [this]
/-- sorted(set(l)) is l just where l rises -/
theorem rise_iff {l ms : List Str} (p : ms.Perm (foldT l)) (hs : sortedS ms = true) : decide (l = ms) = riseS l := by
  obtain ⟨nd, mem⟩ := foldT_facts l
  cases hr : riseS l with
  | true =>
    have pw := rise_pw hr
    have ndl : l.Nodup := pw.imp fun {a b} h e => by
      subst e
      exact absurd h (List.lt_irrefl _)
    have pl : l.Perm (foldT l) := (List.perm_ext_iff_of_nodup ndl nd).mpr fun y => (mem y).symm
    exact decide_eq_true (sorted_one pl p (rise_sorted hr) hs)
  | false =>
    refine decide_eq_false fun e => ?_
    subst e
    have ndl : l.Nodup := p.nodup_iff.mpr nd
    have pw := (sorted_pw hs).and ndl
    have : l.Pairwise (fun a b => a.cps.toList < b.cps.toList) := pw.imp fun {a b} h => by
      apply Classical.byContradiction
      intro z
      have h1 : a.cps.toList ≤ b.cps.toList := h.1
      have e : a.cps.toList = b.cps.toList := List.le_antisymm h1 (List.not_lt.mp z)
      apply h.2
      cases a; cases b
      congr
      exact Array.toList_inj.mp e
    rw [pw_rise this] at hr
    cases hr
end L2

set_option Elab.async false
set_option linter.all false
set_option maxRecDepth 100000
set_option maxHeartbeats 4000000
namespace K03
open PySem L2
seal L2.PE L2.PS L2.PSs L2.PT L2.PW L2.PA L2.PG L2.PGs L2.PI L2.PO L2.PIfs L2.PC L2.OpR L2.CallR L2.IxR L2.SlR L2.PSet L2.UnR

/-- the text of a thing that is one -/
def strV : V → Str
  | .str x => x
  | _ => ""
/-- a world -/
def worldB (H : Hp) (v : V) : Bool := match tupAt H v with
  | some xs => (decide (xs.length ≤ 5) && xs.all (ansV H)) && riseS (xs.map fun x => strV (fstV H x))
  | none => false
theorem ans_parts {H : Hp} {v : V} (h : ansV H v = true) : ∃ a y z, v = .ref a ∧ H a = some (.tup [.str y, z]) ∧ nmS y = true := by
  unfold ansV at h
  cases e : tupAt H v with
  | none => rw [e] at h; cases h
  | some xs =>
    rw [e] at h
    match xs, e, h with
    | [], _, h => cases h
    | [_], _, h => cases h
    | [y, z], e, h =>
      dsimp only at h
      rw [Bool.and_eq_true] at h
      cases v with
      | ref a =>
        unfold tupAt at e
        dsimp only at e
        split at e
        · rename_i ha
          cases e
          cases y with
          | str y => exact ⟨a, y, z, rfl, ha, h.1⟩
          | _ => cases h.1
        · cases e
      | _ => cases e
    | _ :: _ :: _ :: _, _, h => cases h
theorem fst_str {H : Hp} {xs : List V} (h : xs.all (ansV H) = true) : xs.map (fstV H) = (xs.map fun x => strV (fstV H x)).map V.str := by
  rw [List.map_map]
  refine List.map_congr_left fun x hx => ?_
  obtain ⟨a, y, z, rfl, ha, _⟩ := ans_parts (List.all_eq_true.mp h x hx)
  show fstV H (.ref a) = V.str (strV (fstV H (.ref a)))
  have e : fstV H (.ref a) = .str y := by unfold fstV; rw [tupAt_tup ha]
  rw [e]
  rfl
theorem worldB_same {p : Addr} {H H' : Hp} {n : Nat} {v : V} (s : Same H H') (h : Dt p H n v) : worldB H' v = worldB H v := by
  unfold worldB
  rw [tupAt_same s h]
  obtain ⟨t, ty, ⟨k, a, xs, rfl, rfl, rfl, ha, _, hx⟩ | ⟨hf, hn⟩⟩ := h.tupOr
  · rw [tupAt_tup ha]
    dsimp only
    rw [all_congr fun x hm => stb_ans s (hx x hm)]
    have e : xs.map (fun x => strV (fstV H' x)) = xs.map (fun x => strV (fstV H x)) := List.map_congr_left fun x hm => by
      unfold fstV
      rw [tupAt_same s (hx x hm)]
    rw [e]
  · rw [hn]

section
variable {P : Program} {w : World} {K : PySem.W.Frag} {mg : Str → Option Value} {base : Heap}
theorem sc_world_of : FnScope ["pairs", "doors"] ["pairs"] (defScope (top 20)) := ⟨rfl, rfl, rfl, by decide +kernel, rfl, by decide +kernel, by decide +kernel⟩
def spWorldOf (C : Addr) : Sp := fun vs H Q E => ∃ (v : V) (p : Addr) (n : Nat), vs = [v] ∧ Dt p H n v ∧ (worldB H v = true → ∀ H', Same H H' → Q v H') ∧ (worldB H v = false → ∀ H', Same H H' → E (.ref C) none H')
theorem d_world_of {C : Addr} (T : Txt w K mg) (m_NoWorld : mg "NoWorld" = some (.ref C)) (k_NoWorld : ExcK K C) (D_is_answer : Def P w K mg base 4 "is_answer" ["thing"] (spPred ansV))
    (D_is_tuple_of : Def P w K mg base 5 "is_tuple_of" ["thing", "most", "is_one"] (spTupOf P w K mg base 4)) (D_names_of : Def P w K mg base 1 "names_of" ["things"] spNamesOf)
    (S : Src K mg "world_of" (top 20) ["pairs"]) : DefX P w K mg base 6 "world_of" ["pairs"] (spWorldOf C) := by
  obtain ⟨tm, v_MOST_DOORS⟩ := T.doors
  obtain ⟨fn, fd, F, hfn, hkn, hbn⟩ := D_is_answer.ex
  refine S.okX sc_world_of (fun vs H Q E h => ?_) (fun f0 cdv A outer s H vs Q E hr h => ?_)
  · obtain ⟨v, p, n, rfl, _⟩ := h; rfl
  obtain ⟨v, p, n, rfl, hv, q1, q2⟩ := h
  refine ⟨_, (pss_cons (ps_if (pt_not (pt_val (pe_def (D_is_tuple_of) hr rfl (pac (pv 0) (pac (pe_glob (v := .int (5)) rfl v_MOST_DOORS ⟨_, rfl⟩) (pac (pe_glob (v := .ref fn) rfl hfn rfl) pa_nil))))))
      (pss_one (ps_raise frm_cx out_cx rfl rfl m_NoWorld k_NoWorld pe_str)) pss_nil)
      (pss_cons (ps_set (i := 1) sc_world_of.nd rfl (Or.inl rfl) (pe_def (D_names_of.mono (by decide)) hr rfl (pac (pv 0) pa_nil)))
      (pss_cons (ps_if (pt_cmpR (op_neS hr.units) (pv 1) (pe_cB (call_sorted_set rfl) rfl T.z_sorted bt_sorted (pac (pe_cT (call_set_texts rfl) rfl T.z_set bt_set (pac (pv 1) pa_nil)) pa_nil)) (nomark _))
      (pss_one (ps_raise frm_cx out_cx rfl rfl m_NoWorld k_NoWorld pe_str)) pss_nil)
      (pss_one (ps_ret (pv 0)))))), ?_⟩
  refine ⟨_, rfl, v, 5, fn, fd, _, ansV, p, n, rfl, hv, F, hkn, hbn, stb_ans, fun H1 s1 => ?_⟩
  obtain ⟨t, ty, ⟨j, a, xs, rfl, rfl, rfl, ha, hl, hx⟩ | ⟨hf, hn⟩⟩ := hv.tupOr
  case inr =>
    have e1 : tupOf H 5 ansV v = false := by unfold tupOf; rw [hn]
    have e2 : worldB H v = false := by unfold worldB; rw [hn]
    exact ⟨_, rfl, ifT (by rw [e1]; rfl) (q2 e2 H1 s1)⟩
  have eT : tupOf H 5 ansV (.ref a) = (decide (xs.length ≤ 5) && xs.all (ansV H)) := by unfold tupOf; rw [tupAt_tup ha]
  have eW : worldB H (.ref a) = ((decide (xs.length ≤ 5) && xs.all (ansV H)) && riseS (xs.map fun x => strV (fstV H x))) := by unfold worldB; rw [tupAt_tup ha]
  cases hT : (decide (xs.length ≤ 5) && xs.all (ansV H)) with
  | false =>
    rw [hT] at eT eW
    exact ⟨_, rfl, ifT (by rw [eT]; rfl) (q2 eW H1 s1)⟩
  | true =>
    rw [hT] at eT eW
    rw [Bool.true_and] at eW
    have hAll : xs.all (ansV H) = true := by rw [Bool.and_eq_true] at hT; exact hT.2
    have h5 : xs.length ≤ 5 := by rw [Bool.and_eq_true] at hT; exact of_decide_eq_true hT.1
    refine ⟨_, rfl, ifF (by rw [eT]; rfl) ?_⟩
    refine ⟨_, rfl, a, xs, rfl, s1 _ _ ha, hl, fun x hm => ?_, fun d H2 hd s2 hd2 => ?_⟩
    · obtain ⟨b, y, z, e, hb, _⟩ := ans_parts (List.all_eq_true.mp hAll x hm)
      exact ⟨b, .str y, [z], e, s1 _ _ hb⟩
    have eF : xs.map (fstV H1) = (xs.map fun x => strV (fstV H x)).map V.str := by
      rw [← fst_str hAll]
      exact List.map_congr_left fun x hm => by unfold fstV; rw [tupAt_same s1 (hx x hm)]
    rw [eF] at hd2
    have few : (foldT (xs.map fun x => strV (fstV H x))).length < 64 := by
      obtain ⟨nd, mem⟩ := foldT_facts (xs.map fun x => strV (fstV H x))
      have := nd.length_le_of_subset (fun y hy => (mem y).mp hy)
      rw [List.length_map] at this
      omega
    refine ⟨_, rfl, _, rfl, d, _, rfl, SqL.of hd2, few, fun st hst => ?_⟩
    refine ⟨st, _, rfl, upd_same, few, fun ms ss hms pm so => ?_⟩
    have s3 : Same H2 (upd (upd H2 st (.ext fun h => SetS P w h st (foldT (xs.map fun x => strV (fstV H x))))) ms (.lst (ss.map V.str))) := (same_of_new hst _).trans (same_of_new hms _)
    refine ⟨d, ms, xs.map (fun x => strV (fstV H x)), ss, rfl, rfl, SqL.of (s3 _ _ hd2), SqL.of upd_same, ?_⟩
    rw [rise_iff pm so]
    have s03 := s1.trans (s2.trans s3)
    cases hR : riseS (xs.map fun x => strV (fstV H x)) with
    | true =>
      rw [hR] at eW
      exact ⟨_, rfl, ifF rfl ⟨_, rfl, q1 eW _ s03⟩⟩
    | false =>
      rw [hR] at eW
      exact ⟨_, rfl, ifT rfl (q2 eW _ s03)⟩
end
end K03

set_option Elab.async false
set_option linter.all false
set_option maxRecDepth 100000
set_option maxHeartbeats 4000000
namespace K03
open PySem L2
seal L2.PE L2.PS L2.PSs L2.PT L2.PW L2.PA L2.PG L2.PGs L2.PI L2.PO L2.PIfs L2.PC L2.OpR L2.CallR L2.IxR L2.SlR L2.PSet L2.UnR

/-! ### rising, place by place -/
theorem rise_at : ∀ {l : List Str}, riseS l = true ↔ ∀ i x y, l[i]? = some x → l[i + 1]? = some y → x.cps.toList < y.cps.toList
  | [] => ⟨fun _ i x y h => by simp at h, fun _ => rfl⟩
  | [a] => ⟨fun _ i x y _ h => by simp at h, fun _ => rfl⟩
  | a :: b :: r => by
    unfold riseS
    rw [Bool.and_eq_true, rise_at (l := b :: r)]
    constructor
    · rintro ⟨h1, h2⟩ i x y hx hy
      cases i with
      | zero =>
        simp at hx hy
        subst hx; subst hy
        exact of_decide_eq_true h1
      | succ i => exact h2 i x y (by simpa using hx) (by simpa using hy)
    · intro h
      exact ⟨decide_eq_true (h 0 a b rfl rfl), fun i x y hx hy => h (i + 1) x y (by simpa using hx) (by simpa using hy)⟩
/-- the places that the law looks at -/
def placesV (n : Nat) : List V := (List.range (n - 1)).map fun (k : Nat) => V.int (1 + (k : Int))
def badAt (ns : List Str) : V → Bool
  | .int k => match ns[(k - 1).toNat]?, ns[k.toNat]? with
    | some x, some y => !decide (x.cps.toList < y.cps.toList)
    | _, _ => false
  | _ => false
theorem places_at {n i : Nat} {x : V} (h : (placesV n)[i]? = some x) : i + 1 < n ∧ x = .int (1 + (i : Int)) := by
  unfold placesV at h
  rw [List.getElem?_map] at h
  by_cases hi : i < n - 1
  · rw [List.getElem?_range hi] at h
    exact ⟨by omega, (Option.some.inj h).symm⟩
  · rw [List.getElem?_eq_none (by simpa using hi)] at h
    cases h
theorem places_len (n : Nat) : (placesV n).length = n - 1 := by unfold placesV; simp
theorem bad_none (ns : List Str) : ((placesV ns.length).filter (badAt ns)).isEmpty = riseS ns := by
  rw [Bool.eq_iff_iff, List.isEmpty_iff, List.filter_eq_nil_iff, rise_at]
  constructor
  · intro h i x y hx hy
    have hi : i + 1 < ns.length := (List.getElem?_eq_some_iff.mp hy).1
    have hm : V.int (1 + (i : Int)) ∈ placesV ns.length := by
      unfold placesV
      exact List.mem_map.mpr ⟨i, List.mem_range.mpr (by omega), rfl⟩
    have z := h _ hm
    unfold badAt at z
    dsimp only at z
    rw [show ((1 + (i : Int)) - 1).toNat = i by omega, show (1 + (i : Int)).toNat = i + 1 by omega, hx, hy] at z
    simpa using z
  · intro h v hv z
    unfold placesV at hv
    obtain ⟨i, hi, rfl⟩ := List.mem_map.mp hv
    have hi := List.mem_range.mp hi
    unfold badAt at z
    dsimp only at z
    rw [show ((1 + (i : Int)) - 1).toNat = i by omega, show (1 + (i : Int)).toNat = i + 1 by omega, List.getElem?_eq_getElem (show i < ns.length by omega), List.getElem?_eq_getElem (show i + 1 < ns.length by omega)] at z
    have := h i _ _ (List.getElem?_eq_getElem (show i < ns.length by omega)) (List.getElem?_eq_getElem (show i + 1 < ns.length by omega))
    simp [this] at z

section
variable {P : Program} {w : World} {K : PySem.W.Frag} {mg : Str → Option Value} {base : Heap}
theorem sc_is_world : FnScope ["_law_thing", "_law_doors", "_law_pair"] ["_law_thing"] (defScope (top 37)) := ⟨rfl, rfl, rfl, by decide +kernel, rfl, by decide +kernel, by decide +kernel⟩
theorem d_is_world (T : Txt w K mg) (D_is_name : Def P w K mg base 1 "_law_is_name" ["_law_thing"] spIsName) (D_is_number : Def P w K mg base 1 "_law_is_number" ["_law_thing"] spIsNum)
    (S : Src K mg "_law_is_world" (top 37) ["_law_thing"]) : Def P w K mg base 2 "_law_is_world" ["_law_thing"] (spPred worldB) := by
  refine S.ok sc_is_world (fun vs H Q E h => ?_) (fun f0 cdv A outer s H vs Q E hr h => ?_)
  · obtain ⟨v, p, n, rfl, _⟩ := h; rfl
  obtain ⟨v, p, n, rfl, hv, q⟩ := h
  refine ⟨_, (pss_cons (ps_if (pt_cut (PW.pt (pw_or (pt_not (pt_val (pe_cB call_isi rfl T.z_isinstance bt_isinstance (pac (pv 0) (pac (pe_ty T.z_tuple bt_tuple rfl) pa_nil))))) (pw_or1 (pt_cmpR op_gt (pe_cB call_len_seq rfl T.z_len bt_len (pac (pv 0) pa_nil)) pe_int (nomark _))))))
      (pss_one (ps_ret pe_bl)) pss_nil)
      (pss_cons (ps_set (i := 1) sc_is_world.nd rfl (Or.inr rfl) (pe_lst pa_nil))
      (pss_cons (ps_for PassesOwn.never rfl (pi_tup (pv 0)) (pg_name (i := 2) sc_is_world.nd rfl (Or.inl rfl))
      (pss_cons (ps_if (pt_cut (PW.pt (pw_or (pt_not (pt_val (pe_cB call_isi rfl T.z_isinstance bt_isinstance (pac (pv 2) (pac (pe_ty T.z_tuple bt_tuple rfl) pa_nil))))) (pw_or (pt_cmpR op_ne (pe_cB call_len_seq rfl T.z_len bt_len (pac (pv 2) pa_nil)) pe_int (nomark _)) (pw_or (pt_not (pt_val (pe_def (D_is_name) hr rfl (pac (pe_ix ix_tup (pv 2) pe_int (fun _ _ => rfl)) pa_nil)))) (pw_or1 (pt_not (pt_val (pe_cB call_isi rfl T.z_isinstance bt_isinstance (pac (pe_ix ix_tup (pv 2) pe_int (fun _ _ => rfl)) (pac (pe_ty T.z_tuple bt_tuple rfl) pa_nil)))))))))))
      (pss_one (ps_ret pe_bl)) pss_nil)
      (pss_cons (ps_if (pt_cut (PW.pt (pw_or (pt_cmpR op_gt (pe_cB call_len_seq rfl T.z_len bt_len (pac (pe_ix ix_tup (pv 2) pe_int (fun _ _ => rfl)) pa_nil)) pe_int (nomark _)) (pw_or1 (pt_cmpR (op_neL0 hr.units0) (pe_comp (N' := ["_law_one"]) (comp_scope (defScope (top 37)) (by rfl) (by decide +kernel) (by decide +kernel) (by decide +kernel) (by decide +kernel) (by decide +kernel) (by decide +kernel)) rfl (capt 1 [] (by rfl) (by rfl) (by decide +kernel)) (pi_tup (pe_ix ix_tup (pv 2) pe_int (fun _ _ => rfl))) (fun _ _ _ => pg_name (i := 0) (show (["_law_one"] : List Str).Nodup by decide +kernel) rfl (Or.inl rfl) (Or.inr rfl)) (fun _ _ _ => pifs_one (pt_not (pt_val (pe_def (D_is_number) hr rfl (pac (pv 0) pa_nil))))) (fun _ _ _ => (pv 0))) (pe_lst pa_nil) (nomark _))))))
      (pss_one (ps_ret pe_bl)) pss_nil)
      (pss_one (ps_expr (pe_bm PySem.F.plainAttrs_list PySem.F.slot_list_append PySem.F.type_list_append mt_append (pv 1) (pac (pe_ix ix_tup (pv 2) pe_int (fun _ _ => rfl)) pa_nil)))))))
      (pss_one (ps_ret (pe_cmpR (op_eqL0 hr.units0) (pe_comp (N' := ["_law_k", "_law_doors"]) (comp_scope (defScope (top 37)) (by rfl) (by decide +kernel) (by decide +kernel) (by decide +kernel) (by decide +kernel) (by decide +kernel) (by decide +kernel)) rfl (capt 1 [1] (by rfl) (by rfl) (by decide +kernel)) (pi_range2 rfl T.z_range (pac pe_int (pac (pe_cB call_len_seq rfl T.z_len bt_len (pac (pv 1) pa_nil)) pa_nil))) (fun _ _ _ => pg_name (i := 0) (show (["_law_k", "_law_doors"] : List Str).Nodup by decide +kernel) rfl (Or.inl rfl) (Or.inr rfl)) (fun _ _ _ => pifs_one (pt_cmpR op_ge_str (pe_ix (show IxR _ (rIxL K) from ix_list) (pv 1) (pe_op op_sub (pv 0) pe_int) (fun _ _ => rfl)) (pe_ix (show IxR _ (rIxL K) from ix_list) (pv 1) (pv 0) (fun _ _ => rfl)) (nomark _))) (fun _ _ _ => (pv 0))) (pe_lst pa_nil) (nomark _))))))), ?_⟩
  obtain ⟨t, ty, ⟨j, a, xs, rfl, rfl, rfl, ha, hl, hx⟩ | ⟨hf, hn⟩⟩ := hv.tupOr
  case inr =>
    refine ⟨fun t H' => H = H' ∧ t = true, ⟨_, rfl, _, "tuple", _, rfl, ty, by simp, _, rfl, ifT (by rw [hf]; rfl) ⟨rfl, rfl⟩⟩, ?_⟩
    rintro t H' ⟨rfl, rfl⟩
    have e2 : worldB H v = false := by unfold worldB; rw [hn]
    have z := q H (Same.refl H)
    rw [e2] at z
    exact ifT rfl z
  have eW : worldB H (.ref a) = ((decide (xs.length ≤ 5) && xs.all (ansV H)) && riseS (xs.map fun x => strV (fstV H x))) := by unfold worldB; rw [tupAt_tup ha]
  refine ⟨fun t H' => H = H' ∧ t = decide ((5 : Int) < (xs.length : Int)), ⟨_, rfl, _, "tuple", _, rfl, ty, by simp, _, rfl, ifF (by decide) ⟨_, rfl, a, _, rfl, .inr (SqT.of ha), _, _, rfl, rfl, _, rfl, rfl, rfl⟩⟩, ?_⟩
  rintro t H' ⟨rfl, rfl⟩
  by_cases h5 : xs.length ≤ 5
  case neg =>
    rw [decide_eq_false h5, Bool.false_and, Bool.false_and] at eW
    have z := q H (Same.refl H)
    rw [eW] at z
    exact ifT (decide_eq_true (by omega)) z
  rw [decide_eq_true h5, Bool.true_and] at eW
  refine ifF (decide_eq_false (by omega)) ?_
  refine ⟨(by show 0 ≤ sizeLine; decide), fun d hd => ?_⟩
  have bad : ∀ {x : V} {H2 : Hp}, x ∈ xs → ansV H x = false → Same H H2 → Q (.bl false) H2 := fun {x H2} hm hb s2 => by
    have : xs.all (ansV H) = false := by
      rw [Bool.eq_false_iff]
      intro z
      rw [List.all_eq_true] at z
      rw [z x hm] at hb
      cases hb
    rw [this, Bool.false_and] at eW
    have z := q H2 s2
    rw [eW] at z
    exact z
  have l3 : (100 : Nat) < sizeLine := by decide
  refine ⟨_, rfl, a, rfl, ⟨xs, SqT.of (by rw [upd_ne (ne_of_none ha hd)]; exact ha)⟩, for_tup (xs := xs) (fun i σ H2 => ∃ x0, σ = [some (.ref a), some (.ref d), x0] ∧ Same H H2 ∧ H2 d = some (.lst ((xs.take i).map (fstV H))) ∧ (xs.take i).all (ansV H) = true)
    ⟨_, rfl, same_of_new hd _, upd_same, rfl⟩ (fun i σ H2 _ h => by obtain ⟨_, _, s2, _⟩ := h; exact SqT.of (s2 _ _ ha)) ?_ ?_⟩
  · rintro i x σ H2 hxi ⟨x0, rfl, s2, hd2, hall⟩
    have hm : x ∈ xs := List.mem_of_getElem? hxi
    have hxD := (hx x hm).same s2
    refine ⟨fun t H3 => Same H2 H3 ∧ (t = true → ansV H x = false) ∧ (t = false → ∃ b y z c zs, x = .ref b ∧ H b = some (.tup [.str y, z]) ∧ nmS y = true ∧ z = .ref c ∧ H c = some (.tup zs) ∧ zs.length ≤ 120 ∧ ∃ k, ∀ u ∈ zs, Dt p H k u), ?_, ?_⟩
    · obtain ⟨t, ty, ⟨k, b, ys, rfl, rfl, rfl, hb2, hly, hy⟩ | ⟨hf, hn⟩⟩ := hxD.tupOr
      case inr =>
        refine ⟨_, rfl, _, "tuple", _, rfl, ty, by simp, _, rfl, ifT (by rw [hf]; rfl) ⟨Same.refl _, fun _ => ?_, fun z => by cases z⟩⟩
        have : tupAt H x = none := by rw [← tupAt_same s2 (hx x hm)]; exact hn
        unfold ansV
        rw [this]
      have tb : tupAt H (.ref b) = some ys := by rw [← tupAt_same s2 (hx _ hm)]; exact tupAt_tup hb2
      have hb : H b = some (.tup ys) := by
        unfold tupAt at tb
        dsimp only at tb
        split at tb
        · rename_i z; cases tb; exact z
        · cases tb
      refine ⟨_, rfl, _, "tuple", _, rfl, ty, by simp, _, rfl, ifF (by decide) ?_⟩
      refine ⟨_, rfl, b, _, rfl, .inr (SqT.of hb2), rfl, _, rfl, ?_⟩
      by_cases h2 : ys.length = 2
      case neg =>
        refine ifT ?_ ⟨Same.refl _, fun _ => ?_, fun z => by cases z⟩
        · rw [decide_eq_false (by intro z; injection z with z; omega)]; rfl
        · unfold ansV
          rw [tb]
          match ys, h2 with
          | [], _ => rfl
          | [_], _ => rfl
          | [_, _], h => exact absurd rfl h
          | _ :: _ :: _ :: _, _ => rfl
      match ys, h2, hb, hb2, tb, hy with
      | [y, z], _, hb, hb2, tb, hy =>
      have eA : ansV H (.ref b) = (nmV y && tupOf H 40 (fun _ x => numV x) z) := by unfold ansV; rw [tb]
      refine ifF (by rw [decide_eq_true (by rfl)]; rfl) ?_
      refine ⟨_, rfl, b, _, 0, _, rfl, rfl, SqT.of hb2, atI_nat (j := 0) rfl, y, p, k, rfl, hy y (by simp), fun H3 s3 => ?_⟩
      cases hny : nmV y with
      | false =>
        refine ⟨_, rfl, ifT rfl ⟨s3, fun _ => ?_, fun z => by cases z⟩⟩
        rw [eA, hny, Bool.false_and]
      | true =>
        refine ⟨_, rfl, ifF rfl ?_⟩
        have hzD : Dt p H3 k z := (hy z (by simp)).same s3
        obtain ⟨tz, tyz, ⟨kz, c, zs, rfl, rfl, rfl, hc3, hlz, hzz⟩ | ⟨hfz, hnz⟩⟩ := hzD.tupOr
        case inr =>
          refine ⟨_, rfl, b, _, 1, _, rfl, rfl, SqT.of (s3 _ _ hb2), atI_nat (j := 1) rfl, _, "tuple", _, rfl, tyz, by simp, _, rfl, s3, fun _ => ?_, fun e => ?_⟩
          · have z1 : tupAt H2 z = none := by rw [← tupAt_same s3 (hy z (by simp))]; exact hnz
            have hzH : ∃ n', Dt p H n' z := by
              obtain ⟨t', ty', ⟨k', b', ys', rfl', e', _, hb', _, hy'⟩ | ⟨_, hn'⟩⟩ := (hx _ hm).tupOr
              · cases e'
                rw [hb] at hb'
                cases hb'
                exact ⟨k', hy' z (by simp)⟩
              · rw [tb] at hn'; cases hn'
            obtain ⟨n', hzH⟩ := hzH
            have z2 : tupAt H z = none := by rw [← tupAt_same s2 hzH]; exact z1
            rw [eA]
            unfold tupOf
            rw [z2, Bool.and_false]
          · rw [hfz] at e
            cases e
        · refine ⟨_, rfl, b, _, 1, _, rfl, rfl, SqT.of (s3 _ _ hb2), atI_nat (j := 1) rfl, _, "tuple", _, rfl, tyz, by simp, _, rfl, s3, fun e => ?_, fun _ => ?_⟩
          · cases e
          · cases y with
            | str y0 =>
              obtain ⟨t', ty', ⟨k', b', ys', rfl', e', _, hb', _, hy'⟩ | ⟨_, hn'⟩⟩ := (hx _ hm).tupOr
              · cases e'
                rw [hb] at hb'
                cases hb'
                have hzH : Dt p H k' (.ref c) := hy' (.ref c) (by simp)
                obtain ⟨t', ty', ⟨k2, c', zs', rfl', e', _, hc', hl', hz'⟩ | ⟨_, hn'⟩⟩ := hzH.tupOr
                · cases e'
                  have e1 := s3 _ _ (s2 _ _ hc')
                  rw [hc3] at e1
                  cases e1
                  exact ⟨b, y0, .ref c, c, zs, rfl, hb, hny, rfl, hc', hl', k2, hz'⟩
                · have e1 : tupAt H3 (.ref c) = tupAt H (.ref c) := tupAt_same (s2.trans s3) hzH
                  rw [hn', tupAt_tup hc3] at e1
                  cases e1
              · rw [tb] at hn'; cases hn'
            | _ => cases hny
    rintro t H3 ⟨s3, h1, h0⟩
    have s03 := s2.trans s3
    cases t with
    | true => exact ifT rfl (bad hm (h1 rfl) s03)
    | false =>
    obtain ⟨b, y, z, c, zs, rfl, hb, hny, rfl, hc, hlz, k, hzs⟩ := h0 rfl
    have eA : ansV H (.ref b) = (decide (zs.length ≤ 40) && zs.all numV) := by
      unfold ansV
      rw [tupAt_tup hb]
      dsimp only
      unfold tupOf
      rw [tupAt_tup hc]
      show (nmS y && _) = _
      rw [hny, Bool.true_and]
    refine ifF rfl ?_
    refine ⟨fun t H4 => Same H3 H4 ∧ t = !ansV H (.ref b), ?_, ?_⟩
    · refine ⟨_, rfl, b, _, 1, _, rfl, rfl, SqT.of (s03 _ _ hb), atI_nat (j := 1) rfl, c, _, rfl, .inr (SqT.of (s03 _ _ hc)), _, _, rfl, rfl, _, rfl, ?_⟩
      by_cases h40 : zs.length ≤ 40
      case neg =>
        refine ifT (decide_eq_true (by omega)) ⟨Same.refl _, ?_⟩
        rw [eA, decide_eq_false h40]; rfl
      refine ifF (decide_eq_false (by omega)) ?_
      rw [decide_eq_true h40, Bool.true_and] at eA
      refine ⟨_, rfl, b, _, 1, _, rfl, rfl, SqT.of (s03 _ _ hb), atI_nat (j := 1) rfl, c, rfl, ⟨zs, SqT.of (s03 _ _ hc)⟩, walk_if (cs := []) zs (fun u => !numV u) (fun u => u) (by omega)
        (fun i H4 s4 hi => ⟨zs, _, SqT.of (s4 _ _ (s03 _ _ hc)), List.getElem?_eq_getElem hi⟩) (fun H4 s4 => ⟨zs, SqT.of (s4 _ _ (s03 _ _ hc)), Nat.le_refl _⟩)
        (fun i H4 x H5 s4 _ y => ⟨y.1, y.2 zs (SqT.of (s4 _ _ (s03 _ _ hc)))⟩) (by rfl) (fun i u H4 k4 hu s4 hk => ?_) (fun u H4 k4 hu s4 hk => ⟨_, rfl, hk H4 (Same.refl _)⟩) (fun acc H4 hna s4 hl4 => ?_)⟩
      · exact ⟨_, rfl, u, p, k, rfl, (hzs u (List.mem_of_getElem? hu)).same (s03.trans s4), _, rfl, hk H4 (Same.refl _)⟩
      · refine ⟨(by show 0 ≤ sizeLine; decide), fun e he => ?_⟩
        refine ⟨acc, e, _, rfl, rfl, SqL.of (by rw [upd_ne (ne_of_none hl4 he)]; exact hl4), SqL.of upd_same, _, rfl, s4.trans (same_of_new he _), ?_⟩
        rw [eA, List.map_id']
        refine congrArg not ?_
        rw [Bool.eq_iff_iff, List.isEmpty_iff, List.filter_eq_nil_iff, List.all_eq_true]
        constructor
        · intro h u hu
          have := h u hu
          simpa using this
        · intro h u hu
          simp [h u hu]
    rintro t H4 ⟨s4, rfl⟩
    have s04 := s03.trans s4
    cases hA : ansV H (.ref b) with
    | false => exact ifT rfl (bad hm hA s04)
    | true =>
    refine ifF rfl ?_
    have hd4 := s4 _ _ (s3 _ _ hd2)
    refine ⟨_, rfl, .inl ⟨rfl, _, SqL.of hd4⟩, _, rfl, b, _, 0, _, rfl, rfl, SqT.of (s04 _ _ hb), atI_nat (j := 0) rfl, d, _, _, rfl, rfl, hd4, (by rw [List.length_map, List.length_take]; omega), ?_⟩
    have et : xs.take (i + 1) = xs.take i ++ [.ref b] := by rw [List.take_add_one, hxi]; rfl
    refine ⟨_, rfl, fun b' o hb' => ?_, ?_, ?_⟩
    · rw [upd_ne (ne_of_none hb' hd)]; exact s04 _ _ hb'
    · rw [upd_same, et, List.map_append]
      show some (HO.lst (_ ++ [V.str y])) = some (HO.lst (_ ++ [fstV H (.ref b)]))
      have : fstV H (.ref b) = .str y := by unfold fstV; rw [tupAt_tup hb]
      rw [this]
    · rw [et, List.all_append, hall, List.all_cons, hA]; rfl
  · rintro σ H2 ⟨x0, rfl, s2, hd2, hall⟩
    rw [List.take_length] at hd2 hall
    rw [hall, Bool.true_and] at eW
    rw [fst_str hall] at hd2
    generalize hns : (xs.map fun x => strV (fstV H x)) = ns at hd2 eW
    have hnl : ns.length = xs.length := by rw [← hns, List.length_map]
    refine ⟨_, rfl, d, _, rfl, .inl (SqL.of hd2), 1, (ns.length : Int), (by rw [List.length_map]), (by omega), walk_if (cs := [some (.ref d)]) (placesV ns.length) (badAt ns) (fun u => u) (by rw [places_len]; omega)
      (fun i H4 s4 hi => (by rw [places_len] at hi; show i < _; omega)) (fun H4 s4 => (by show _ ≤ _; rw [places_len]; omega))
      (fun i H4 x H5 s4 hi y => ⟨y.1, ?_⟩) (by rfl) (fun i u H4 k4 hu s4 hk => ?_) (fun u H4 k4 hu s4 hk => ⟨_, rfl, hk H4 (Same.refl _)⟩) (fun acc H4 hna s4 hl4 => ?_)⟩
    · rw [y.2]
      unfold placesV
      rw [places_len] at hi
      rw [List.getElem?_map, List.getElem?_range (by omega)]
      rfl
    · obtain ⟨hi, rfl⟩ := places_at hu
      have hd4 := s4 _ _ hd2
      have g1 : (ns.map V.str)[i]? = some (.str ns[i]) := by rw [List.getElem?_map, List.getElem?_eq_getElem (show i < ns.length by omega)]; rfl
      have g2 : (ns.map V.str)[i + 1]? = some (.str ns[i + 1]) := by rw [List.getElem?_map, List.getElem?_eq_getElem hi]; rfl
      have a1 : atI (ns.map V.str) (1 + (i : Int) - 1) = some (.str ns[i]) := by
        have z := atI_nat (xs := ns.map V.str) (j := i) g1
        rw [show (1 + (i : Int) - 1) = (i : Int) by omega]
        exact z
      have a2 : atI (ns.map V.str) (1 + (i : Int)) = some (.str ns[i + 1]) := by
        have z := atI_nat (xs := ns.map V.str) (j := i + 1) g2
        rw [show (1 + (i : Int)) = ((i + 1 : Nat) : Int) by omega]
        exact z
      refine ⟨_, rfl, _, rfl, _, _, rfl, rfl, d, _, _, _, rfl, rfl, SqL.of hd4, a1, _, rfl, _, rfl, d, _, _, _, rfl, rfl, SqL.of hd4, a2, _, _, rfl, rfl, _, rfl, ?_⟩
      have e : badAt ns (.int (1 + (i : Int))) = !decide (ns[i].cps.toList < ns[i + 1].cps.toList) := by
        unfold badAt
        dsimp only
        rw [show ((1 + (i : Int)) - 1).toNat = i by omega, show (1 + (i : Int)).toNat = i + 1 by omega, List.getElem?_eq_getElem (show i < ns.length by omega), List.getElem?_eq_getElem hi]
      rw [← e]
      exact hk H4 (Same.refl _)
    · refine ⟨(by show 0 ≤ sizeLine; decide), fun e he => ?_⟩
      refine ⟨acc, e, _, rfl, rfl, SqL.of (by rw [upd_ne (ne_of_none hl4 he)]; exact hl4), SqL.of upd_same, ?_⟩
      rw [List.map_id', bad_none, ← eW]
      exact q _ (s2.trans (s4.trans (same_of_new he _)))
end
end K03

set_option Elab.async false
set_option linter.all false
set_option maxRecDepth 100000
set_option maxHeartbeats 4000000
namespace K03
open PySem L2
seal L2.PE L2.PS L2.PSs L2.PT L2.PW L2.PA L2.PG L2.PGs L2.PI L2.PO L2.PIfs L2.PC L2.OpR L2.CallR L2.IxR L2.SlR L2.PSet L2.UnR
section
variable {P : Program} {w : World} {K : PySem.W.Frag} {mg : Str → Option Value} {base : Heap}
theorem six {r : Int} (h0 : 0 ≤ r) (h1 : r < 4) {k : Int} (k0 : 0 ≤ k) (k1 : k < 6) : ∃ i : Int, atI [V.int r, V.int 40, V.int 41, V.int 12, V.int 0, V.int 1] k = some (.int i) ∧ 0 ≤ i ∧ i ≤ 41 := by
  obtain ⟨v, a, m⟩ := at_mem (xs := [V.int r, V.int 40, V.int 41, V.int 12, V.int 0, V.int 1]) k0 (by simpa using k1)
  simp only [List.mem_cons, List.not_mem_nil, or_false] at m
  rcases m with rfl | rfl | rfl | rfl | rfl | rfl <;> exact ⟨_, a, by omega, by omega⟩
theorem two {k : Int} (k0 : 0 ≤ k) (k1 : k < 2) : ∃ i : Int, atI [V.int 10, V.int 1000000] k = some (.int i) ∧ 0 < i ∧ i ≤ 1000000 := by
  obtain ⟨v, a, m⟩ := at_mem (xs := [V.int 10, V.int 1000000]) k0 (by simpa using k1)
  simp only [List.mem_cons, List.not_mem_nil, or_false] at m
  rcases m with rfl | rfl <;> exact ⟨_, a, by omega, by omega⟩
theorem nm_len {x : Str} (h : nmS x = true) : x.length ≤ 6 := by
  unfold nmS at h
  rw [Bool.and_eq_true] at h
  exact (of_decide_eq_true h.1).2
theorem sc_world : FnScope ["_law_state_here", "_law_found", "_law_door", "_law_amount"] ["_law_state_here"] (defScope (top 38)) := ⟨rfl, rfl, rfl, by decide +kernel, rfl, by decide +kernel, by decide +kernel⟩
def spWorld : Sp := fun vs H Q _ => ∃ (p : Addr), vs = [.ref p] ∧ Gen p H ∧ ∀ (t : Addr) (ys : List V) (H' : Hp), Ext p H H' → H' t = some (.tup ys) → ys.length ≤ 6 → (∀ y ∈ ys, Pl H' 3 y) → Q (.ref t) H'
theorem d_world (T : Txt w K mg) (D_next : Def P w K mg base 1 "_law_next" ["_law_state_here", "_law_size"] spNext) (D_names : Def P w K mg base 2 "_law_names" ["_law_state_here", "_law_amount"] spNames)
    (S : Src K mg "_law_world" (top 38) ["_law_state_here"]) : Def P w K mg base 3 "_law_world" ["_law_state_here"] spWorld := by
  refine S.ok sc_world (fun vs H Q E h => ?_) (fun f0 cdv A outer s H vs Q E hr h => ?_)
  · obtain ⟨p, rfl, _⟩ := h; rfl
  obtain ⟨p, rfl, g, q⟩ := h
  refine ⟨_, (pss_cons (ps_set (i := 1) sc_world.nd rfl (Or.inl rfl) (pe_lst pa_nil))
      (pss_cons (ps_for PassesOwn.never rfl (pi_list (pe_cB call_sorted_list rfl T.z_sorted bt_sorted (pac (pe_def (D_names) hr rfl (pac (pv 0) (pac (pe_def (D_next.mono (by decide)) hr rfl (pac (pv 0) (pac pe_int pa_nil))) pa_nil))) pa_nil))) (pg_name (i := 2) sc_world.nd rfl (Or.inl rfl))
      (pss_cons (ps_set (i := 3) sc_world.nd rfl (Or.inl rfl) (pe_ix ix_list (pe_lst (pac (pe_def (D_next.mono (by decide)) hr rfl (pac (pv 0) (pac pe_int pa_nil))) (pac pe_int (pac pe_int (pac pe_int (pac pe_int (pac pe_int pa_nil))))))) (pe_def (D_next.mono (by decide)) hr rfl (pac (pv 0) (pac pe_int pa_nil))) (fun _ _ => rfl)))
      (pss_cut (ps_if (pt_cut (PW.pt (pw_and (pt_cmpR op_eq (pv 3) pe_int (nomark _)) (pw_and1 (pt_cmpR op_gt (pe_def (D_next.mono (by decide)) hr rfl (pac (pv 0) (pac pe_int pa_nil))) pe_int (nomark _))))))
      (pss_one (ps_set (i := 3) sc_world.nd rfl (Or.inl rfl) pe_int)) pss_nil)
      (pss_one (ps_expr (pe_bm PySem.F.plainAttrs_list PySem.F.slot_list_append PySem.F.type_list_append mt_append (pv 1) (pac (pe_tup (pac (pv 2) (pac (pe_cT call_tuple_of rfl T.z_tuple bt_tuple (pac (pe_comp (N' := ["_law_k", "_law_state_here"]) (comp_scope (defScope (top 38)) (by rfl) (by decide +kernel) (by decide +kernel) (by decide +kernel) (by decide +kernel) (by decide +kernel) (by decide +kernel)) rfl (capt 1 [0] (by rfl) (by rfl) (by decide +kernel)) (pi_range1 rfl T.z_range (pac (pv 3) pa_nil)) (fun _ _ _ => pg_name (i := 0) (show (["_law_k", "_law_state_here"] : List Str).Nodup by decide +kernel) rfl (Or.inl rfl) (Or.inr rfl)) (fun _ _ _ => pifs_nil) (fun _ _ _ => (pe_def (D_next.mono (by decide)) hr rfl (pac (pv 1) (pac (pe_ix (show IxR _ (rIxL K) from ix_list) (pe_lst (pa_const [.int 10, .int 1000000] (by rfl))) (pe_op op_mod (pv 0) pe_int) (fun _ _ => rfl)) pa_nil))))) pa_nil)) pa_nil))) pa_nil)))))))
      (pss_one (ps_ret (pe_cT call_tuple_of rfl T.z_tuple bt_tuple (pac (pv 1) pa_nil)))))), ?_⟩
  refine ⟨(by show 0 ≤ sizeLine; decide), fun fd hfd => ?_⟩
  have fdp : fd ≠ p := g.ne hfd
  have e0 : Ext p H (upd H fd (.lst [])) := Ext.new g hfd _
  have hf0 : (upd H fd (.lst [])) fd = some (.lst []) := upd_same
  generalize upd H fd (.lst []) = H0 at e0 hf0 ⊢
  refine ⟨_, rfl, _, rfl, p, 7, rfl, e0.gen, by decide, fun m H1 m0 m1 e1 => ?_⟩
  refine ⟨p, m, rfl, e1.gen, m0, (by omega), fun na ns H2 e2 hna hn2 hnl hnm => ?_⟩
  refine ⟨na, ns, rfl, SqL.of hn2, (by omega), fun D ss hD pm so => ?_⟩
  have e02 := e0.trans (e1.trans e2)
  have hf2 : H2 fd = some (.lst []) := e2.but fd _ fdp (e1.but fd _ fdp hf0)
  have Dp : D ≠ p := e02.gen.ne hD
  have fdD : fd ≠ D := ne_of_none hf2 hD
  have e03 : Ext p H (upd H2 D (.lst (ss.map V.str))) := e02.trans (Ext.new e02.gen hD _)
  have ssl : ss.length ≤ 6 := by have := pm.length_eq; omega
  have ssn : ∀ x ∈ ss, nmS x = true := fun x hx => hnm x (pm.mem_iff.mp hx)
  have l3 : (100 : Nat) < sizeLine := by decide
  refine ⟨D, rfl, ⟨_, SqL.of upd_same⟩, for_list (xs := ss.map V.str) (fun i σ H' => ∃ x2 x3 ys, σ = [some (.ref p), some (.ref fd), x2, x3] ∧ Ext p H H' ∧ H' fd = some (.lst ys) ∧ ys.length = i ∧ (∀ y ∈ ys, Pl H' 3 y) ∧ H' D = some (.lst (ss.map V.str)))
    ⟨_, _, _, rfl, e03, (by rw [upd_ne fdD]; exact hf2), rfl, (by simp), upd_same⟩ (fun i σ H' _ h => by obtain ⟨_, _, _, _, _, _, _, _, h⟩ := h; exact SqL.of h) ?_ ?_⟩
  · rintro i x σ H4 hxi ⟨x2, x3, ys, rfl, e4, hf4, hlen, hall, hD4⟩
    have hi : i < ss.length := by
      have := (List.getElem?_eq_some_iff.mp hxi).1
      rw [List.length_map] at this
      exact this
    obtain ⟨dr, hdr, rfl⟩ := List.mem_map.mp (List.mem_of_getElem? hxi)
    have hnd := ssn dr hdr
    refine ⟨_, rfl, p, 4, rfl, e4.gen, by decide, fun r H5 r0 r1 e5 => ?_⟩
    refine ⟨(by show 6 ≤ sizeLine; decide), fun L hL => ?_⟩
    have e6 : Ext p H5 (upd H5 L (.lst [.int r, .int 40, .int 41, .int 12, .int 0, .int 1])) := Ext.new e5.gen hL _
    have Lp : L ≠ p := e5.gen.ne hL
    have hL6 : (upd H5 L (.lst [V.int r, .int 40, .int 41, .int 12, .int 0, .int 1])) L = some (.lst [V.int r, .int 40, .int 41, .int 12, .int 0, .int 1]) := upd_same
    generalize upd H5 L (.lst [V.int r, .int 40, .int 41, .int 12, .int 0, .int 1]) = H6 at e6 hL6 ⊢
    refine ⟨_, rfl, p, 6, rfl, e6.gen, by decide, fun k H7 k0 k1 e7 => ?_⟩
    obtain ⟨am, hat, am0, am1⟩ := six r0 r1 k0 k1
    refine ⟨L, _, k, _, rfl, rfl, SqL.of (e7.but L _ Lp hL6), hat, ?_⟩
    have e47 := e5.trans (e6.trans e7)
    refine ⟨fun σ8 H8 => ∃ n : Int, σ8 = [some (.ref p), some (.ref fd), some (.str dr), some (.int n)] ∧ 0 ≤ n ∧ n ≤ 41 ∧ Ext p H7 H8, ?_, ?_⟩
    · refine ⟨fun t H8 => Ext p H7 H8, ⟨_, rfl, rfl, _, rfl, ite2 (fun _ => ⟨_, rfl, p, 3, rfl, e7.gen, by decide, fun r' H8 r0' r1' e8 => ⟨_, _, rfl, rfl, _, rfl, e8⟩⟩) (fun _ => Ext.refl e7.gen)⟩, fun t H8 e8 => ?_⟩
      exact ite2 (fun _ => ⟨39, rfl, by decide, by decide, e8⟩) (fun _ => ⟨am, rfl, am0, am1, e8⟩)
    rintro σ8 H8 ⟨n, rfl, n0, n1, e8⟩
    have e48 := e47.trans e8
    have hf8 : H8 fd = some (.lst ys) := e48.but fd _ fdp hf4
    have hD8 := e48.but D _ Dp hD4
    have g8 := e48.gen
    refine ⟨_, rfl, .inl ⟨rfl, _, SqL.of hf8⟩, _, rfl, _, rfl, n, rfl, (by omega), (by omega), walk_by (te := tDef spNext (tCons (tVar 1) (tCons (tOp (rIxL K) (tLst (fun _ H Q => Q [.int 10, .int 1000000] H)) (tOp (rI (fun _ j => 0 < j) fun i j => .int (i % j)) (tVar 0) (tC (.int 2)))) tNil))) (cs := [some (.ref p)]) (Rel.ext g8) ((List.range n.toNat).map fun (k : Nat) => V.int (0 + (k : Int))) (fun _ y => ∃ i : Int, y = .int i ∧ 0 ≤ i ∧ i < 1000000) (by simp; omega)
      (fun i H9 _ hi => (by rw [List.length_map, List.length_range] at hi; exact hi)) (fun H9 _ => (by show _ ≤ _; rw [List.length_map, List.length_range]; exact Nat.le_refl _)) (fun i H9 x H10 _ hi y => ⟨y.1, ?_⟩) (by rfl) (fun x acc zs H9 kk hx hna hacc e9 hk => ?_) (fun acc zs H9 hna e9 hacc hp => ?_)⟩
    · rw [y.2, List.getElem?_map, List.getElem?_range (by simpa using hi)]
      rfl
    · obtain ⟨j, _, rfl⟩ := List.mem_map.mp hx
      have accp : acc ≠ p := g8.ne hna
      refine ⟨_, rfl, (by show 2 ≤ sizeLine; decide), fun L2 hL2 => ?_⟩
      have e10 : Ext p H9 (upd H9 L2 (.lst [.int 10, .int 1000000])) := Ext.new e9.gen hL2 _
      obtain ⟨md, hmd, md0, md1⟩ := two (k := (0 + (j : Int)) % 2) (by omega) (by omega)
      refine ⟨_, rfl, _, _, rfl, rfl, (by show (0 : Int) < 2; decide), L2, _, _, _, rfl, rfl, SqL.of upd_same, hmd, p, md, rfl, e10.gen, md0, fun r' H11 r0' r1' e11 => ?_⟩
      have e911 := e10.trans e11
      exact hk _ _ ⟨r', rfl, r0', by omega⟩ (e9.trans e911) (e911.but acc _ accp hacc)
    · refine ⟨acc, zs, rfl, .inl ⟨SqL.of hacc, fun tp htp => ?_⟩⟩
      have zl : zs.length ≤ 41 := by
        have := Paired.length hp
        simp at this
        omega
      have zint : ∀ z ∈ zs, ∃ i : Int, z = .int i ∧ 0 ≤ i ∧ i < 1000000 := fun z hz => by
        obtain ⟨kz, hkz⟩ := List.mem_iff_getElem?.mp hz
        obtain ⟨x, hx⟩ : ∃ x, ((List.range n.toNat).map fun (k : Nat) => V.int (0 + (k : Int)))[kz]? = some x := ⟨_, List.getElem?_eq_getElem (by rw [Paired.length hp]; exact (List.getElem?_eq_some_iff.mp hkz).1)⟩
        exact paired_at hp hx hkz
      have e10 : Ext p H9 (upd H9 tp (.tup zs)) := Ext.new e9.gen htp _
      refine ⟨(by show 2 ≤ sizeLine; decide), fun pr hpr => ?_⟩
      have e11 : Ext p (upd H9 tp (.tup zs)) (upd (upd H9 tp (.tup zs)) pr (.tup [.str dr, .ref tp])) := Ext.new e10.gen hpr _
      have ht11 : (upd (upd H9 tp (.tup zs)) pr (.tup [.str dr, .ref tp])) tp = some (.tup zs) := e11.tup e10.gen upd_same
      have hp11 : (upd (upd H9 tp (.tup zs)) pr (.tup [V.str dr, .ref tp])) pr = some (.tup [V.str dr, .ref tp]) := upd_same
      generalize upd (upd H9 tp (.tup zs)) pr (.tup [V.str dr, .ref tp]) = H11 at e11 ht11 hp11 ⊢
      have e811 : Ext p H8 H11 := e9.trans (e10.trans e11)
      have hf11 : H11 fd = some (.lst ys) := e811.but fd _ fdp hf8
      refine ⟨fd, _, _, rfl, rfl, hf11, (by omega), ?_⟩
      have e411 := e48.trans e811
      have nfd : ∀ {b : Addr} {o : HO}, b ≠ fd → H11 b = some o → upd H11 fd (.lst (ys ++ [.ref pr])) b = some o := fun hb h => by rw [upd_ne hb]; exact h
      have keepT : ∀ {b : Addr} {xs : List V}, H11 b = some (.tup xs) → upd H11 fd (.lst (ys ++ [.ref pr])) b = some (.tup xs) := fun {b xs} h => nfd (ne_of h hf11 (by intro z; cases z)) h
      have plT : ∀ {n : Nat} {v : V}, Pl H11 n v → Pl (upd H11 fd (.lst (ys ++ [.ref pr]))) n v := by
        intro n
        induction n with
        | zero => intro v h; exact h
        | succ n ih =>
          intro v h
          cases v with
          | ref a =>
            obtain ⟨xs, h1, h2, h3⟩ := h
            exact ⟨xs, keepT h1, h2, fun x hx => ih (h3 x hx)⟩
          | _ => exact h
      have pl4 : ∀ y ∈ ys ++ [V.ref pr], Pl H11 3 y := fun y hy => by
        rcases List.mem_append.mp hy with z | z
        · exact (hall y z).ext e4.gen e411
        · rw [List.mem_singleton.mp z]
          refine ⟨_, hp11, (by show 2 ≤ 50; decide), fun u hu => ?_⟩
          rcases List.mem_cons.mp hu with rfl | hu
          · show dr.length ≤ 10
            have := nm_len hnd
            omega
          · rw [List.mem_singleton.mp hu]
            refine ⟨zs, ht11, (by omega), fun z hz => ?_⟩
            obtain ⟨i, rfl, i0, i1⟩ := zint z hz
            exact ⟨i0, i1⟩
      refine ⟨_, _, _, rfl, ⟨fun b o hb h => ?_, ?_⟩, upd_same, (by rw [List.length_append, hlen]; rfl), fun y hy => plT (pl4 y hy), nfd (Ne.symm fdD) (e811.but D _ Dp hD8)⟩
      · rw [upd_ne (ne_of_none h hfd)]
        exact (e4.trans e411).but b o hb h
      · obtain ⟨n', hg, r'⟩ := e811.gen
        exact ⟨n', by rw [upd_ne (Ne.symm fdp)]; exact hg, r'⟩
  · rintro σ H4 ⟨x2, x3, ys, rfl, e4, hf4, hlen, hall, hD4⟩
    rw [List.length_map] at hlen
    refine ⟨_, rfl, fd, ys, rfl, .inl ⟨SqL.of hf4, fun t ht => ?_⟩⟩
    have e5 := Ext.new e4.gen ht (.tup ys)
    exact q t ys _ (e4.trans e5) upd_same (by omega) fun y hy => (hall y hy).ext e4.gen e5
end
end K03

set_option Elab.async false
set_option linter.all false
set_option maxRecDepth 100000
set_option maxHeartbeats 4000000
/-! The try statement; defs called by a handler. -/
namespace L2
open PySem PySem.Spec PyProof.Rows

/-- what a handler's suite wants: the name behind it goes -/
def goneEnds (i : Nat) (D : Ends) : Ends := { nx := fun σ H => D.nx (σ.set i none) H, rt := D.rt, bk := fun σ H => D.bk (σ.set i none) H, ct := fun σ H => D.ct (σ.set i none) H }
def tTry (K : PySem.W.Frag) (R : Addr) (L i : Nat) (tb : XK → TS) (ts : Addr → Addr → TS) : TS := fun D σ H => ∃ E1 : XK, tb E1 D σ H ∧
  ∀ (C : Addr) (od : Option Addr) (H' : Hp) (a : Addr) (σ' : St), E1 (.ref C) od H' → σ'.length = L → PySem.W.subIn K (.ref C) (.ref R) = some true ∧ ts a C (goneEnds i D) (σ'.set i (some (.ref a))) H'

section
variable {X : Cx} {pins : List (Addr × Obj)} {D : Ends} {f : Flow} {s : Shared}
theorem SP.ofPn {E : Value → Shared → Prop} (ok : X.Ok) (h : SP { X with pn := X.pn ++ pins, xe := E } [] D f s) : SP X pins D f s := by
  cases f with
  | next => obtain ⟨σ', H', I, q⟩ := h; exact ⟨σ', H', I.ofPn ok, q⟩
  | brk => obtain ⟨σ', H', I, q⟩ := h; exact ⟨σ', H', I.ofPn ok, q⟩
  | cont => obtain ⟨σ', H', I, q⟩ := h; exact ⟨σ', H', I.ofPn ok, q⟩
  | ret u => obtain ⟨v, σ', H', I, r, q⟩ := h; exact ⟨v, σ', H', I.ofPn ok, r, q⟩
end

theorem ps_try {X : Cx} {x n : Str} {R : Addr} {i : Nat} {body suite : List Stmt} {b0 : Stmt} {np hpos pos : Pos} {tb : XK → TS} {ts : Addr → Addr → TS} (fr : Frm X) (hN : X.N.Nodup) (hi : X.N[i]? = some n) (hl : X.env.scope.names.lookup n = some .local) (hf : X.fn n = true)
    (hg : Gl X x) (hm : X.mg x = some (.ref R)) (hR : HitK X.K R) (hb : ∀ pn E1, PSs (X.tr pn E1) body (tb E1)) (hs : ∀ pn a C, Hd (X.hn pn a) a C → PSs (X.hn pn a) (b0 :: suite) (ts a C))
    (hd : (x == ("__debug__" : Str)) = false := by decide) : PS X (.Try body [.ExceptHandler (some (.Name x np)) (some n) (b0 :: suite) hpos] [] [] pos) (tTry X.K R X.N.length i tb ts) := by
  intro pins s σ H D I h
  obtain ⟨E1, hb1, hh⟩ := h
  have ok := I.ok
  refine wpAny_Try_except (wpAny_mono (hb (X.pn ++ pins) E1 [] s σ H D (I.toPn _) hb1) (fun f s1 q => ?_) fun e s1 q => ?_)
  · have q' := SP.ofPn ok q
    cases f with
    | next => exact wpAny_execs_nil q'
    | brk => exact q'
    | cont => exact q'
    | ret u => exact q'
  obtain ⟨σ', H0, s0, J, a, C, H', rfl, fly, hE⟩ := q
  obtain ⟨hsub, hsu⟩ := hh C none H' a σ' hE J.len
  have nloc : ∀ {b : Addr}, s0.heap.get? b = none → b ≠ X.env.locals := fun z e => by
    obtain ⟨m, ⟨o, _, _, ho, _⟩, _⟩ := J.loc
    rw [e] at z
    rw [z] at ho; cases ho
  have nfs : ∀ {b : Addr}, s0.heap.get? b = none → b ∉ X.fs := fun z e => by
    obtain ⟨_, o, ho, _⟩ := J.funs.mem e
    rw [z] at ho; cases ho
  have hand : ∀ {fl : Value} {s2 : Shared} (f2 : Fl X.prog X.w X.stack H0 s0 H' a C fl s2), ∃ t T, s2.heap.get? a = some (exo C t (.ref T)) ∧ Inv (X.hn ((a, exo C t (.ref T)) :: (X.pn ++ pins)) a) [] σ' H' s2 := fun {fl s2} f2 => by
    obtain ⟨T, ⟨⟨t, ha⟩, _⟩, _⟩ := f2.ex
    exact ⟨t, T, ha, (f2.inv (X := { X with pn := X.pn ++ pins }) J).toHn ha f2.na (nloc f2.new) (nfs f2.new) (by intro v z; cases z)⟩
  refine fly.note (X := { X with pn := X.pn ++ pins }) J fr.st fr.fr ok.frames fun s2 f2 => ?_
  refine f2.land (X := { X with pn := X.pn ++ pins }) (f2.frF (X := { X with pn := X.pn ++ pins }) J) fun s3 f3 => ?_
  obtain ⟨t3, T3, ha3, I3⟩ := hand f3
  refine wpAny_handleBy_cons (codeAny_handlers_test ?_) (by intro z; cases z)
  refine ld_glob (X := X.hn ((a, exo C t3 (.ref T3)) :: (X.pn ++ pins)) a) I3 hg hm ?_ hd
  refine exc_hit I3.kIn hR ha3 rfl hsub ?_
  refine codeAny_handlers_suite_as ?_
  refine f3.land (X := { X with pn := X.pn ++ pins }) (f3.frF (X := { X with pn := X.pn ++ pins }) J) fun s4 f4 => ?_
  obtain ⟨t4, T4, ha4, I4⟩ := hand f4
  refine store_ok (X := X.hn ((a, exo C t4 (.ref T4)) :: (X.pn ++ pins)) a) (v := .ref a) I4 hN hi (.inl hl) rfl (fun s5 I5 => ?_) (.inl hf)
  refine wpAny_mono (hs _ a C ⟨rfl, t4, .ref T4, List.mem_cons_self⟩ [] s5 _ H' (goneEnds i D) I5 hsu) (fun fl s6 q6 => ?_) fun _ _ z => z.elim
  have okP : Cx.Ok { X with pn := X.pn ++ pins } := ok.pnx _ _
  have go : ∀ {σ6 : St} {H6 : Hp} {Q : Unit → Shared → Prop}, Inv (X.hn ((a, exo C t4 (.ref T4)) :: (X.pn ++ pins)) a) [] σ6 H6 s6 → (∀ s7, Inv X pins (σ6.set i none) H6 s7 → Q () s7) →
      wpAny (model X.prog X.w) X.A (do bindName X.env n .none; unbindBehindTheSuite X.env n hpos) Q X.xe s6 := fun {σ6 H6 Q} I6 k => by
    have J6 : Inv X pins σ6 H6 s6 := Inv.ofPn (E := X.xe) ok (I6.ofHn okP)
    obtain ⟨m, hn, _⟩ := id J6.loc
    refine wpAny_nameGoes_keeps hl hn (by rw [ok.kind]; rfl) fun h' v hn' hs' => ?_
    exact k _ (J6.goes hN hi hl hn hn' hs')
  cases fl with
  | next => obtain ⟨σ6, H6, I6, q⟩ := q6; exact go I6 fun s7 I7 => ⟨_, _, I7, q⟩
  | brk => obtain ⟨σ6, H6, I6, q⟩ := q6; exact go I6 fun s7 I7 => ⟨_, _, I7, q⟩
  | cont => obtain ⟨σ6, H6, I6, q⟩ := q6; exact go I6 fun s7 I7 => ⟨_, _, I7, q⟩
  | ret u => obtain ⟨v, σ6, H6, I6, r, q⟩ := q6; exact go I6 fun s7 I7 => ⟨v, _, _, I7, r, q⟩

/-! ### a def called while an exception is handled -/
structure RoomH (k : Nat) (A : Around) (a : Addr) : Prop where
  hd : A.handled = some (.ref a)
  dp : A.depth + 3 * k + 5 < recursionLimit
  un : A.units + 16 * k + 200 < cLine
theorem Room.hand {k : Nat} {A : Around} (r : Room k A) (a : Addr) : RoomH k (A.mark (some (.ref a))) a := ⟨rfl, r.dp, r.un⟩
theorem RoomH.deeper {k : Nat} {A : Around} {a : Addr} (r : RoomH (k + 1) A a) (env : Env) : RoomH k (A.deeper env) a :=
  ⟨r.hd, by have := r.dp; show A.depth + 1 + 3 * k + 5 < _; omega, by have := r.un; show A.units + 3 + 16 * k + 200 < _; omega⟩
/-- a def's body that runs while the exception at a is handled -/
abbrev cxH (P : Program) (w : World) (K : PySem.W.Frag) (mg : Str → Option Value) (base : Heap) (N : List Str) (qual : Str) (scope : Scope) (f : Addr) (cd : Value) (A : Around) (outer : List Env) (s : Shared) (H : Hp) (a : Addr) (oe : Obj) : Cx :=
  { (cxOf CX0 P w K mg base N qual scope f cd A outer s H E0).nox with calm := false, pn := [(a, oe)] }
structure DefH (P : Program) (w : World) (K : PySem.W.Frag) (mg : Str → Option Value) (base : Heap) (k : Nat) (x : Str) (ps : List Str) (sp : Addr → Addr → Sp) : Prop where
  ex : ∃ (f : Addr) (fd : FuncData), (∀ (A : Around) (outer : List Env) (s : Shared) (H : Hp) (args : Args) (us : List Value) (vs : List V) (Q : VK) (a C t : Addr) (tb : Value), RoomH k A a → Env0 P w K mg base A outer s H → s.heap.get? a = some (exo C t tb) → H a = none →
      a ∉ frs outer → BindsTo s fd args (ps.zip us) → Vals vs us → sp a C vs H Q E0 → codeAny (model P w) A (.call (.ref f) args) (CR CX0 outer P w H s Q E0) s) ∧
    (∀ a C vs H Q E, sp a C vs H Q E → vs.length = ps.length) ∧ mg x = some (.ref f) ∧ PySem.W.keepIn K (.ref f) = true ∧ Binds K fd ps []
section
variable {P : Program} {w : World} {K : PySem.W.Frag} {mg : Str → Option Value} {base : Heap} {x : Str} {st : Stmt} {ps N : List Str} {k : Nat} {sp : Addr → Addr → Sp}
theorem Src.okH (S : Src K mg x st ps) (F : FnScope N ps (defScope st)) (len : ∀ a C vs H Q E, sp a C vs H Q E → vs.length = ps.length)
    (hbody : ∀ (f : Addr) (cdv : Value) (A : Around) (outer : List Env) (s : Shared) (H : Hp) (vs : List V) (Q : VK) (a C t : Addr) (tb : Value), RoomH k (A.deeper (envOfC x (defScope st) s.heap.objs.size f cdv)) a → sp a C vs H Q E0 →
      Hd (cxH P w K mg base N x (defScope st) f cdv A outer s H a (exo C t tb)) a C →
      ∃ tt, PSs (cxH P w K mg base N x (defScope st) f cdv A outer s H a (exo C t tb)) (defBody st) tt ∧ tt { nx := fun _ H' => Q .non H', rt := Q } (start N vs) H) : DefH P w K mg base (k + 1) x ps sp := by
  obtain ⟨f, fd, F0, hm, hb⟩ := S.ex
  obtain ⟨oc, od, kV, doc, pm, an, cdv, ct, osl, rfl, lk, hcd⟩ := F0.ex
  refine ⟨f, _, fun A outer s H args us vs Q a C t tb hr e0 hea hna hfa hbt r hsp => ?_, len, hm, F0.kp, hb⟩
  have hl := len _ _ _ _ _ _ hsp
  have KX : K.In s.heap := e0.mod.kin.keeps fun b o e => (e0.bs b o e).1
  have lim : s.heap.NoLimit := e0.mod.nolimit.keeps fun b o e => (e0.bs b o e).1
  have hkind : ∀ y ∈ ps.zip us, (defScope st).names.lookup y.1 = some .local ∨ ((defScope st).names.lookup y.1 = some .cell ∧ ((cellsFrom (s.heap.objs.size + 1) (defScope st).names []).lookup y.1).isSome = true) := fun ⟨n, v⟩ hy => by
    rcases F.par n (List.of_mem_zip hy).1 with q | q
    · exact .inl q
    · exact .inr ⟨q, PySem.W.cellsFrom_some _ _ _ (.inl q)⟩
  refine codeAny_call_function (by have := hr.dp; omega) (KX _ _ lk) rfl F.co F.gen rfl (PySem.W.codeRec_of KX hcd) (hbt _ _ _ _ ?_)
  refine wpAny_newFunctionEnv_cells F.kind hkind fun env he s1 y => ?_
  subst he
  refine ⟨lim.keeps y.toInCall.keep, codeAny_func ?_⟩
  have J0 : Inv (cxOf CX0 P w K mg base N x (defScope st) f cdv { A with handled := none } outer s H E0) [] (start N vs) H s1 := inv_start F rfl ⟨e0.frames, e0.mod, e0.bs, e0.bsz, e0.funs, e0.frf, e0.hok, e0.bare⟩ hl r y
  have hlt : a < s.heap.objs.size := Heap.lt_size hea
  have I : Inv (cxH P w K mg base N x (defScope st) f cdv A outer s H a (exo C t tb)) [] (start N vs) H s1 := by
    refine ⟨⟨J0.ok.mod, J0.ok.kind, J0.ok.glob, J0.ok.blt, J0.ok.above, J0.ok.inj, J0.ok.has, J0.ok.cab, fun z => (Bool.false_ne_true z).elim, J0.ok.frames, J0.ok.stk, J0.ok.exf, J0.ok.bs, J0.ok.bsz, J0.ok.noex, J0.ok.exfs, J0.ok.funs, J0.ok.frf⟩, J0.os, J0.bare, J0.base, J0.loc, J0.cell, J0.free, J0.freeC, fun p hp => ?_, J0.hok, J0.len⟩
    have e : p = (a, exo C t tb) := by simpa using hp
    subst e
    exact ⟨y.toInCall.keep _ _ hea, hna, Nat.ne_of_lt (Nat.lt_of_lt_of_le hlt J0.ok.above), hfa, by intro v z; cases z⟩
  obtain ⟨tt, ht, hq⟩ := hbody f cdv A outer s H vs Q a C t tb (hr.deeper _) hsp ⟨hr.hd, t, tb, by simp⟩
  refine wpAny_mono (ht [] s1 (start N vs) H _ I hq) (fun fl s' hs => ?_) fun e s' hs => hs.elim
  cases fl with
  | ret u =>
    obtain ⟨v, σ', H', J, rv, q⟩ := hs
    exact ⟨v, H', J.os, J.bare, J.base, J.hok, rv, q⟩
  | next =>
    obtain ⟨σ', H', J, q⟩ := hs
    exact ⟨.non, H', J.os, J.bare, J.base, J.hok, rfl, q⟩
  | brk =>
    obtain ⟨_, _, _, q⟩ := hs
    exact False.elim q
  | cont =>
    obtain ⟨_, _, _, q⟩ := hs
    exact False.elim q
end
theorem DefH.mono {P : Program} {w : World} {K : PySem.W.Frag} {mg : Str → Option Value} {base : Heap} {x : Str} {ps : List Str} {j k : Nat} {sp : Addr → Addr → Sp} (D : DefH P w K mg base j x ps sp) (h : j ≤ k) : DefH P w K mg base k x ps sp := by
  obtain ⟨f, fd, run, r⟩ := D.ex
  exact ⟨f, fd, fun A outer s H args us vs Q a C t tb hr => run A outer s H args us vs Q a C t tb ⟨hr.hd, by have := hr.dp; omega, by have := hr.un; omega⟩, r⟩
theorem pe_defH {X : Cx} {k : Nat} {x : Str} {ps : List Str} {sp : Addr → Addr → Sp} {a C : Addr} {p pos : Pos} {e : Expr} {es : List Expr} {t : TA} (D : DefH X.prog X.w X.K X.mg X.base k x ps sp) (hh : Hd X a C) (hr : RoomH k X.A a) (hg : Gl X x) (ha : PA X (e :: es) t)
    (hdb : (x == ("__debug__" : Str)) = false := by decide) (hpl : (e :: es).all plainE = true := by rfl) : PE X (.Call (.Name x p) (e :: es) [] pos) (tDef (sp a C) t) := by
  obtain ⟨f, fd, run, len, hm, hk, hb⟩ := D.ex
  intro pins s σ H Q I h
  rw [List.all_cons, Bool.and_eq_true] at hpl
  refine wpAny_Call_Name_kw (ld_glob I hg hm ?_ hdb)
  refine PySem.W.callWith_K (h₀ := X.base) I.ok.mod.kin hk (thn (ha pos pins s σ H _ I h) fun us s1 ⟨vs, H1, I1, r, q⟩ => ⟨I1.kIn, ?_⟩) (star_cons hpl.1) (star_all hpl.2)
  obtain ⟨t0, tb, hpn⟩ := hh.pn
  obtain ⟨z1, z2, z3, z4, _⟩ := I1.pin (a, exo C t0 tb) (List.mem_append_left _ hpn)
  have hl : us.length = ps.length := by rw [← r.length]; exact len _ _ _ _ _ _ q
  have nf : a ∉ frs X.stack := fun z => by
    rcases List.mem_cons.mp (I1.stkSub a z) with e | e
    · exact z3 e
    · exact z4 e
  refine wpAny_call (codeAny_mono (run X.A X.stack s1 H1 ⟨us, []⟩ us vs Q a C t0 tb hr I1.env0 z1 z2 nf (by have w := hb s1 us I1.kIn (by simpa using hl); simpa using w) r q) fun res s' hq => ?_)
  cases res with
  | error e => exact hq.elim
  | ok fl =>
    cases fl with
    | ret u => exact I1.after hq
    | next => exact False.elim hq
    | brk => exact False.elim hq
    | cont => exact False.elim hq

/-! ### for over a tuple while an exception is handled -/
theorem ps_forH {X : Cx} {tg l : Expr} {body : List Stmt} {tl : TE} {g : TG} {tb : TS} {pos : Pos} {a0 C : Addr} (hh : Hd X a0 C) (hp : PassesOwn (model X.prog X.w) X.A X.env X.xe) (hl : PE X l tl) (hg : PG X tg g) (hb : PSs X body tb)
    (hs : ∀ x, foldedSetIterable l X.env x = pure x := by intro _; rfl) : PS X (.For tg l body [] pos) (tFor (iTup X.K tl) g tb) := by
  intro pins s σ H D I h
  refine wpAny_For (thn (hl pins s σ H _ I h) fun v s1 ⟨x, H1, I1, r1, a, e, ⟨xs, hq⟩, q⟩ => ?_) hs
  subst e
  cases r1
  obtain ⟨its, rv, p, hz⟩ := I1.tuple hq
  refine wpAny_pyIter_tuple (show s1.heap.IsTuple a its.toArray from p) ?_
  obtain ⟨W, ⟨m0, w0⟩, turn⟩ := q
  have fp : FpOk X pins H1 s1.heap.objs.size := I1.fpOk (Nat.le_refl _) (I1.hok.fresh (Nat.le_refl _))
  generalize hit : s1.heap.objs.size = it at fp ⊢
  refine codeAny_forLoop_any (fun n s' => ∃ i σ' H', Inv X pins σ' H' s' ∧ s'.heap.IsTupleIter it a i ∧ H' it = none ∧ W i n σ' H') ?_ m0 ⟨0, σ, H1, I1.kept (t' := s1.toks) (fun b o e => Heap.get?_push_of_some _ e), ⟨_, by rw [← hit]; exact Heap.get?_push_size _ rfl, rfl, rfl⟩, fp.1, w0⟩
  rintro n s3 ⟨i, σ3, H3, I3, st3, fr3, w3⟩
  have f3 : FpOk X pins H3 it := ⟨fr3, fp.2⟩
  obtain ⟨f0, f1, f2, f4, f5, f6⟩ := id f3
  rcases turn i n σ3 H3 w3 with ⟨stop, qn⟩ | ⟨go, N, hN, step⟩
  · obtain ⟨xs3, hq3, hx3⟩ := stop
    obtain ⟨its3, rv3, p3, _⟩ := I3.tuple hq3
    have hl3 := rv3.length
    obtain ⟨t0, tb0, hpn⟩ := hh.pn
    have hpn' : (a0, exo C t0 tb0) ∈ X.pn ++ pins := List.mem_append_left _ hpn
    obtain ⟨z1, _⟩ := I3.pin (a0, exo C t0 tb0) hpn'
    refine wpAny_passesOwn hp (tuple_endH hh.hd z1 (f6 _ hpn') st3 (show s3.heap.IsTuple a its3.toArray from p3) (by simp; omega) fun h' eb => ?_)
    exact wpAny_execs_nil ⟨σ3, H3, I3.turned (t' := s3.toks) (fun b o hb e => eb b o hb e) f0 f1 f4 f5 f6, qn⟩
  · obtain ⟨xs3, x3, hq3, hx3⟩ := go
    obtain ⟨its3, rv3, p3, _⟩ := I3.tuple hq3
    obtain ⟨u, hu, ru⟩ := rv3.get hx3
    refine wpAny_passesOwn hp (wpAny_pyNext_tuple_item st3 (show s3.heap.IsTuple a its3.toArray from p3) (x := u) (by simpa using hu) fun h' st' sb => ?_)
    have I4 : Inv X pins σ3 H3 { s3 with heap := h' } := I3.turned (t' := s3.toks) (fun b o hb e => (sb.2 b hb).trans e) f0 f1 f4 f5 f6
    obtain ⟨ot, et, ct, dt⟩ := id st'
    refine wpAny_passesOwn hp (go_of (s := { s3 with heap := h' }) et ct dt (by decide) ?_)
    have I5 := I4.pinned (fp := [it]) (fun b hb => by rw [List.mem_singleton.mp hb]; exact f3) (fun b hb => by rw [List.mem_singleton.mp hb]; exact ⟨ot, et, fun v z => by rw [dt] at z; cases z⟩)
    refine wpAny_passesOwn hp (thn (hg _ { s3 with heap := h' } σ3 H3 x3 u _ I5 ru (step x3 H3 ⟨rfl, fun ys hy => by rw [I3.tuple_inj hy hq3]; exact hx3⟩)) fun _ s6 ⟨σ6, H6, I6, q6⟩ => ?_)
    refine wpAny_passesOwn hp (thn (hb _ s6 σ6 H6 _ I6 q6) fun f s7 q7 => ?_)
    have again : ∀ {σ7 : St} {H7 : Hp}, Inv X (pins ++ pinsAt [it] h') σ7 H7 s7 → N σ7 H7 → ∃ m, m < n ∧ ∃ i σ' H', Inv X pins σ' H' s7 ∧ s7.heap.IsTupleIter it a i ∧ H' it = none ∧ W i m σ' H' := fun {σ7 H7} I7 n7 => by
      obtain ⟨m', hm', w7⟩ := hN σ7 H7 n7
      have pm : (it, ot) ∈ X.pn ++ (pins ++ pinsAt [it] h') := List.mem_append_right _ (List.mem_append_right _ (mem_pinsAt (List.mem_singleton.mpr rfl) et))
      exact ⟨m', hm', i + 1, σ7, H7, I7.unpinned, st'.at fun o e => by rw [et] at e; cases e; exact (I7.pin _ pm).1, (I7.pin _ pm).2.1, w7⟩
    cases f with
    | next => obtain ⟨σ7, H7, I7, n7⟩ := q7; exact again I7 n7
    | cont => obtain ⟨σ7, H7, I7, n7⟩ := q7; exact again I7 n7
    | brk => obtain ⟨σ7, H7, I7, q7⟩ := q7; exact ⟨σ7, H7, I7.unpinned, q7⟩
    | ret v => obtain ⟨x7, σ7, H7, I7, r7, q7⟩ := q7; exact ⟨x7, σ7, H7, I7.unpinned, r7, q7⟩
end L2

set_option Elab.async false
set_option linter.all false
set_option maxRecDepth 100000
set_option maxHeartbeats 4000000
/-! The class of an exception, asked as an attribute. -/
namespace L2
open PySem PySem.Spec PyProof.Rows PySem.W

structure ExcAt (K : Frag) (C : Addr) : Prop where
  ga : findIn K (.ref C) "__getattribute__" = some (some (.builtin "BaseException.__getattribute__"))
  gr : findIn K (.ref C) "__getattr__" = some none
  fo : findObj K C none "__class__" = some (.bind (.builtin "getset_descriptor.__get__") (.builtin "object.__class__"))
  mo : mroIn K C (.type "object") = some true
  ba : subIn K (.ref C) (.type "BaseException") = some true
theorem exc_class {prog : Program} {w : World} {A : Around} {E : Value → Shared → Prop} {s : Shared} {K : Frag} {a C : Addr} {ox : Obj} {Q : Option Value → Shared → Prop} (X : K.In s.heap) (I : InstAt s.heap a ox C none) (F : ExcAt K C)
    (h : Q (some (.ref C)) { s with toks := s.toks + 1 }) : wpAny (model prog w) A (getAttr? (.ref a) "__class__") Q E s := by
  obtain ⟨hh, g, d, t, os⟩ := s
  have L0 := I.type (M := model prog w)
  have L1 := looks_findIn (M := model prog w) X F.ga
  have L2 := looks_findIn (M := model prog w) X F.gr
  have L3 := looks_find (M := model prog w) X I F.fo
  unfold getAttr? getAttrBy? getAttrBy
  refine wpAny_bind (wpAny_mkText (wpAny_bind (wpAny_attempt (wpAny_holding (wpAny_bind (L0.at (wpAny_bind (L1.at ?_))))))))
  show wpAny _ _ (getAttrByItsOwn _ _ _ _ _ _) _ _ _
  unfold getAttrByItsOwn hookBefore
  refine wpAny_bind ?_
  show wpAny _ _ (typeLookup (.ref C) "__getattr__") _ _ _
  refine L2.at ?_
  refine wpAny_bind (wpAny_attempt (wpAny_holding ?_))
  show wpAny _ _ (boundAndCalled (.builtin "BaseException.__getattribute__") (.ref a) _) _ _ _
  unfold boundAndCalled
  rw [PySem.F.attr_ValueError.ga.bind (.ref a)]
  refine wpAny_bind (wpAny_pure ?_)
  show wpAny _ _ (call (.builtin "BaseException.__getattribute__") [.ref a, .str "__class__" t]) _ _ _
  refine wpAny_call (codeAny_call_builtin PySem.F.attr_ValueError.ga.plain PySem.F.entry_bexc_ga ?_)
  have hk : builtinKind "BaseException.__getattribute__" = some .slot := by decide +kernel
  have hsplit : splitId "BaseException.__getattribute__" = some ("BaseException", "__getattribute__") := by decide +kernel
  have hargs := PySem.F.args_bexc_ga (.ref a) (.str "__class__" t)
  have LI : Looks (model prog w) hh (isInstance (.ref a) (.type "BaseException")) true := L0.andThen (looks_subIn X F.ba)
  simp only [checkBuiltinCall, hk, hsplit]
  refine wpAny_bind (LI.at ?_)
  rw [if_neg (by decide)]
  refine wpAny_of_eq (a := ()) hargs ?_
  unfold Builtin.«object.__getattribute__»
  refine wpAny_bind (wpAny_pure ?_)
  dsimp only
  refine wpAny_bind (wpAny_pure ?_)
  refine wpAny_bind (L0.at (wpAny_bind (L3.at ?_)))
  dsimp only
  show wpAny _ _ ((do let v ← holding [Value.builtin "object.__class__"] (call (.builtin "getset_descriptor.__get__") [.builtin "object.__class__", .ref a, .ref C]); ret v) : Sem Fin) _ _ _
  refine wpAny_bind (wpAny_holding (wpAny_call (class_get (ox := ox) (od := none) X I F.mo (wpAny_pure ?_))))
  show wpAny _ _ (handedOut (.ref C)) _ _ _
  exact wpAny_pure (wpAny_pure h)
end L2

set_option Elab.async false
set_option linter.all false
set_option maxRecDepth 100000
set_option maxHeartbeats 4000000
/-! isinstance of the exception that is handled; count and index of truths. -/
namespace L2
open PySem PySem.Spec PyProof.Rows PySem.SeqAt

theorem kitx_exc {K : PySem.W.Frag} {a C : Addr} {ox : Obj} (F : ExcAt K C) (hc : (PySem.W.clsIn K C).isSome = true) : PySem.W.KitX K (.ref a) (.ref C) (fun h => PySem.W.InstAt h a ox C none) where
  ty := fun _ _ _ I => I.type
  it := fun _ _ X _ => isType_in X hc
  ne := fun h tp dd its n sl X htp => by
    refine Bool.eq_false_iff.mpr fun q => ?_
    have e : C = tp := Value.ref.inj (beq_iff_eq.mp q)
    subst e
    unfold PySem.W.clsIn at hc
    split at hc
    · rename_i c' d' cd' sl' ho
      have z := (X _ _ ho).symm.trans htp
      cases z
    · cases hc
  ca := fun X I k => exc_class X I F k
/-- isinstance(e, D) of the handled exception -/
theorem call_isiX {X : Cx} {a C : Addr} (hh : Hd X a C) (F : ExcAt X.K C) (hc : (PySem.W.clsIn X.K C).isSome = true) :
    CallR X (.builtin "isinstance") (fun xs H Q => ∃ (c : V) (cv : Value) (b : Bool), xs = [.ref a, c] ∧ ((∃ D, c = .ref D ∧ cv = .ref D) ∨ ∃ n, c = .ty n ∧ cv = .type n) ∧ PySem.W.kitOne X.K (.ref C) cv = some b ∧ Q (.bl b) H) := by
  intro pins s σ H xs us Q I r h
  obtain ⟨c, cv, b, rfl, hcv, hk, q⟩ := h
  obtain ⟨u, v, rfl, ru, rv⟩ := r.two
  cases ru
  have ev : v = cv := by
    rcases hcv with ⟨D, rfl, rfl⟩ | ⟨n, rfl, rfl⟩
    · exact rv
    · exact rv
  subst ev
  obtain ⟨t0, tb, hpn⟩ := hh.pn
  obtain ⟨z1, _⟩ := I.pin (a, exo C t0 tb) (List.mem_append_left _ hpn)
  have J : PySem.W.InstAt s.heap a (exo C t0 tb) C none := ⟨z1, rfl, rfl, trivial⟩
  exact PySem.W.kia_one (kitx_exc F hc) I.kIn J hk (fun z => nomatch z) fun tk => ⟨.bl b, H, I.tok tk, rfl, q⟩

theorem bools_of {bs : List Bool} {us : List Value} (r : Vals (bs.map V.bl) us) : us = bs.map Value.bool := by
  induction bs generalizing us with
  | nil => cases r; rfl
  | cons b t ih =>
    cases r with
    | cons r1 r2 => rw [ih r2, (show _ = Value.bool b from r1)]; rfl
def isT : Value → Bool
  | .bool b => b
  | _ => false
theorem eq_isT {A : Around} {s : Shared} (b : Bool) : EqAt A s (.bool b) (.bool true) b := by
  have r1 : RelV (.bl b) (.bool b) := rfl
  have r2 : RelV (.bl true) (.bool true) := rfl
  have q := eqAt_V (A := A) (s := s) r1 r2 rfl rfl
  have e : eqV (.bl b) (.bl true) = b := by cases b <;> rfl
  rw [e] at q
  exact q
theorem countP_isT : ∀ (bs : List Bool), (bs.map Value.bool).countP isT = bs.count true
  | [] => rfl
  | b :: t => by
    rw [List.map_cons, List.countP_cons, countP_isT t, List.count_cons]
    cases b <;> rfl
theorem mt_countB {X : Cx} : MtR X "list.count" (fun x xs H Q => ∃ (l : Addr) (bs : List Bool), x = .ref l ∧ xs = [.bl true] ∧ H l = some (.lst (bs.map V.bl)) ∧ Q (.int (bs.count true : Nat)) H) := by
  intro pins s σ H x xs v us Q I rx r h
  obtain ⟨l, bs, rfl, rfl, hl, q⟩ := h
  cases rx
  obtain ⟨u, rfl, ru⟩ := r.one
  obtain rfl : u = Value.bool true := ru
  obtain ⟨_, its, n, rv, ho⟩ := I.hok l _ hl
  obtain rfl := bools_of rv
  refine call_meets PySem.F.slot_list_count ⟨_, ho, rfl⟩ PySem.F.entry_list_count (PySem.F.args_list_count_2 _ _) (list_countAt l (bs.map Value.bool).toArray n none #[] (.bool true) isT) ⟨ho, fun y hy => ?_, ⟨.int _, H, I.tok _, ⟨_, rfl⟩, ?_⟩⟩
  · have hy' : y ∈ bs.map Value.bool := by simpa using hy
    obtain ⟨b, _, rfl⟩ := List.mem_map.mp hy'
    exact eq_isT b
  · rw [show (bs.map Value.bool).toArray.toList = bs.map Value.bool from rfl, countP_isT]
    exact q
theorem mt_indexB {X : Cx} : MtR X "list.index" (fun x xs H Q => ∃ (l : Addr) (bs : List Bool) (j : Nat), x = .ref l ∧ xs = [.bl true] ∧ H l = some (.lst (bs.map V.bl)) ∧ j < 1000 ∧ bs[j]? = some true ∧ (∀ m, m < j → bs[m]? = some false) ∧ Q (.int (j : Nat)) H) := by
  intro pins s σ H x xs v us Q I rx r h
  obtain ⟨l, bs, j, rfl, rfl, hl, h1000, hj, hno, q⟩ := h
  cases rx
  obtain ⟨u, rfl, ru⟩ := r.one
  obtain rfl : u = Value.bool true := ru
  obtain ⟨_, its, n, rv, ho⟩ := I.hok l _ hl
  obtain rfl := bools_of rv
  obtain ⟨hjl, hjt⟩ := List.getElem?_eq_some_iff.mp hj
  refine call_meets PySem.F.slot_list_index ⟨_, ho, rfl⟩ PySem.F.entry_list_index (PySem.F.args_list_index_2 _ _) (PySem.MeetsSeq.list_index l (bs.map Value.bool).toArray n (.bool true) isT (fun y hy => ?_) j (by simpa using hjl) (by omega) ?_ (fun m hm hmj => ?_)) ⟨ho, ⟨.int _, H, I.tok _, ⟨_, rfl⟩, q⟩⟩
  · have hy' : y ∈ bs.map Value.bool := by simpa using hy
    obtain ⟨b, _, rfl⟩ := List.mem_map.mp hy'
    intro prog w A E s' Q' hq
    exact eq_isT (A := A) (s := s') b prog w E Q' hq
  · simp [hjt, isT]
  · have hml : m < bs.length := by simpa using hm
    have z := hno m hmj
    rw [List.getElem?_eq_getElem hml] at z
    simp [Option.some.inj z, isT]
end L2

set_option Elab.async false
set_option linter.all false
set_option maxRecDepth 100000
set_option maxHeartbeats 4000000
namespace K03
open PySem L2
seal L2.PE L2.PS L2.PSs L2.PT L2.PW L2.PA L2.PG L2.PGs L2.PI L2.PO L2.PIfs L2.PC L2.OpR L2.CallR L2.IxR L2.SlR L2.PSet L2.UnR
/-- the text's own classes of exceptions -/
structure Cls (K : PySem.W.Frag) (mg : Str → Option Value) (R C1 C2 C3 C4 C5 C6 C7 C8 C9 : Addr) : Prop where
  m0 : mg "RunError" = some (.ref R)
  m1 : mg "NoProgram" = some (.ref C1)
  m2 : mg "NoRow" = some (.ref C2)
  m3 : mg "TooLong" = some (.ref C3)
  m4 : mg "NoWorld" = some (.ref C4)
  m5 : mg "NoText" = some (.ref C5)
  m6 : mg "NoStep" = some (.ref C6)
  m7 : mg "NoCell" = some (.ref C7)
  m8 : mg "NoDoor" = some (.ref C8)
  m9 : mg "NoWord" = some (.ref C9)
  exc : ExcK K C4
  at_ : ExcAt K C4
  cl : (PySem.W.clsIn K C4).isSome = true
  hit : HitK K R
  sub : PySem.W.subIn K (.ref C4) (.ref R) = some true
  k1 : PySem.W.kitOne K (.ref C4) (.ref C1) = some false
  k2 : PySem.W.kitOne K (.ref C4) (.ref C2) = some false
  k3 : PySem.W.kitOne K (.ref C4) (.ref C3) = some false
  k4 : PySem.W.kitOne K (.ref C4) (.ref C4) = some true
  k5 : PySem.W.kitOne K (.ref C4) (.ref C5) = some false
  k6 : PySem.W.kitOne K (.ref C4) (.ref C6) = some false
  k7 : PySem.W.kitOne K (.ref C4) (.ref C7) = some false
  k8 : PySem.W.kitOne K (.ref C4) (.ref C8) = some false
  k9 : PySem.W.kitOne K (.ref C4) (.ref C9) = some false
  kv : PySem.W.kitOne K (.ref C4) (.type "ValueError") = some true
theorem bt_ValueError : bootBuiltins "ValueError" = some (.type "ValueError") := by decide +kernel

section
variable {P : Program} {w : World} {K : PySem.W.Frag} {mg : Str → Option Value} {base : Heap} {R c_NoProgram c_NoRow c_TooLong c_NoWorld c_NoText c_NoStep c_NoCell c_NoDoor c_NoWord : Addr}
theorem sc_class : FnScope ["_law_e", "_law_found", "_law_kind"] ["_law_e"] (defScope (top 36)) := ⟨rfl, rfl, rfl, by decide +kernel, rfl, by decide +kernel, by decide +kernel⟩
def spClass (C4 : Addr) : Addr → Addr → Sp := fun a C vs H Q _ => vs = [.ref a] ∧ C4 = C ∧ ∀ H', Same H H' → Q (.str "world") H'
theorem loop_ok {a fd t : Addr} {H H0 : Hp} {bs cs : List Bool} (hfd : H fd = none) (s0 : Same H H0) (hf : H0 fd = some (.lst (cs.map V.bl))) (ht : H0 t = some (.tup (bs.map V.bl))) (htn : t ≠ fd) (hl : bs.length + cs.length ≤ 100) {D : Ends} {x0 : Option V}
    (h : ∀ (x2 : Option V) (H' : Hp), Same H H' → H' fd = some (.lst ((cs ++ bs).map V.bl)) → D.nx [some (.ref a), some (.ref fd), x2] H') :
    ∃ W : Nat → Nat → St → Hp → Prop, (∃ m, W 0 m [some (.ref a), some (.ref fd), x0] H0) ∧ ∀ i m σ H, W i m σ H →
      ((Itt K t).stop i H ∧ D.nx σ H) ∨ ((Itt K t).go i H ∧ ∃ N : St → Hp → Prop, (∀ σ' H', N σ' H' → ∃ m', m' < m ∧ W (i + 1) m' σ' H') ∧ ∀ x H', (Itt K t).yld i H x H' → gName 2 x σ H' fun σ2 H2 =>
        tDrop (tBM K "list" rAppend (tVar 1) (tCons (tVar 2) tNil)) { D with nx := N, ct := N, bk := D.nx } σ2 H2) := by
  refine for_tup (xs := bs.map V.bl) (fun i σ H' => ∃ x2, σ = [some (.ref a), some (.ref fd), x2] ∧ Same H H' ∧ H' fd = some (.lst ((cs ++ bs.take i).map V.bl)) ∧ H' t = some (.tup (bs.map V.bl))) ⟨x0, rfl, s0, by rw [List.take_zero, List.append_nil]; exact hf, ht⟩
    (fun i σ H' _ q => by obtain ⟨_, _, _, _, q⟩ := q; exact SqT.of q) ?_ ?_
  · rintro i x σ H' hx ⟨x2, rfl, s1, hf1, ht1⟩
    rw [List.getElem?_map] at hx
    cases hb : bs[i]? with
    | none => rw [hb] at hx; cases hx
    | some b =>
      rw [hb] at hx
      cases hx
      have hi := (List.getElem?_eq_some_iff.mp hb).1
      refine ⟨_, rfl, .inl ⟨rfl, _, SqL.of hf1⟩, _, rfl, fd, _, _, rfl, rfl, hf1, ?_, ?_⟩
      · rw [List.length_map, List.length_append, List.length_take]
        exact Nat.lt_of_le_of_lt (show _ ≤ 100 by omega) (by decide)
      · refine ⟨_, rfl, fun b' o hb' => ?_, ?_, ?_⟩
        · rw [upd_ne (ne_of_none hb' hfd)]; exact s1 _ _ hb'
        · rw [upd_same, List.take_add_one, hb, ← List.append_assoc]
          show some (HO.lst ((cs ++ bs.take i).map V.bl ++ [V.bl b])) = some (HO.lst ((cs ++ bs.take i ++ [b]).map V.bl))
          rw [List.map_append (l₁ := cs ++ bs.take i)]
          rfl
        · rw [upd_ne htn]; exact ht1
  · rintro σ H' ⟨x2, rfl, s1, hf1, _⟩
    rw [List.length_map, List.take_length] at hf1
    exact h x2 H' s1 hf1
theorem d_class (T : Txt w K mg) (Z : Cls K mg R c_NoProgram c_NoRow c_TooLong c_NoWorld c_NoText c_NoStep c_NoCell c_NoDoor c_NoWord) (S : Src K mg "_law_class" (top 36) ["_law_e"]) : DefH P w K mg base 1 "_law_class" ["_law_e"] (spClass c_NoWorld) := by
  have m_NoProgram := Z.m1
  have m_NoRow := Z.m2
  have m_TooLong := Z.m3
  have m_NoWorld := Z.m4
  have m_NoText := Z.m5
  have m_NoStep := Z.m6
  have m_NoCell := Z.m7
  have m_NoDoor := Z.m8
  have m_NoWord := Z.m9
  have F := Z.at_
  have hc := Z.cl
  refine S.okH sc_class (fun a C vs H Q E h => ?_) (fun f0 cdv A outer s H vs Q a C t0 tb0 hr h hh => ?_)
  · obtain ⟨rfl, _⟩ := h; rfl
  obtain ⟨rfl, rfl, q⟩ := h
  refine ⟨_, (pss_cons (ps_set (i := 1) sc_class.nd rfl (Or.inl rfl) (pe_lst pa_nil))
      (pss_cons (ps_forH hh PassesOwn.never (pe_tup (pac (pe_cB (call_isiX hh F hc) rfl T.z_isinstance bt_isinstance (pac (pv 0) (pac (pe_glob (v := .ref c_NoProgram) rfl m_NoProgram rfl) pa_nil))) (pac (pe_cB (call_isiX hh F hc) rfl T.z_isinstance bt_isinstance (pac (pv 0) (pac (pe_glob (v := .ref c_NoRow) rfl m_NoRow rfl) pa_nil))) (pac (pe_cB (call_isiX hh F hc) rfl T.z_isinstance bt_isinstance (pac (pv 0) (pac (pe_glob (v := .ref c_TooLong) rfl m_TooLong rfl) pa_nil))) (pac (pe_cB (call_isiX hh F hc) rfl T.z_isinstance bt_isinstance (pac (pv 0) (pac (pe_glob (v := .ref c_NoWorld) rfl m_NoWorld rfl) pa_nil))) pa_nil))))) (pg_name (i := 2) sc_class.nd rfl (Or.inl rfl))
      (pss_one (ps_expr (pe_bm PySem.F.plainAttrs_list PySem.F.slot_list_append PySem.F.type_list_append mt_append (pv 1) (pac (pv 2) pa_nil)))))
      (pss_cons (ps_forH hh PassesOwn.never (pe_tup (pac (pe_cB (call_isiX hh F hc) rfl T.z_isinstance bt_isinstance (pac (pv 0) (pac (pe_glob (v := .ref c_NoText) rfl m_NoText rfl) pa_nil))) (pac (pe_cB (call_isiX hh F hc) rfl T.z_isinstance bt_isinstance (pac (pv 0) (pac (pe_glob (v := .ref c_NoStep) rfl m_NoStep rfl) pa_nil))) (pac (pe_cB (call_isiX hh F hc) rfl T.z_isinstance bt_isinstance (pac (pv 0) (pac (pe_glob (v := .ref c_NoCell) rfl m_NoCell rfl) pa_nil))) (pac (pe_cB (call_isiX hh F hc) rfl T.z_isinstance bt_isinstance (pac (pv 0) (pac (pe_glob (v := .ref c_NoDoor) rfl m_NoDoor rfl) pa_nil))) pa_nil))))) (pg_name (i := 2) sc_class.nd rfl (Or.inl rfl))
      (pss_one (ps_expr (pe_bm PySem.F.plainAttrs_list PySem.F.slot_list_append PySem.F.type_list_append mt_append (pv 1) (pac (pv 2) pa_nil)))))
      (pss_cons (ps_expr (pe_bm PySem.F.plainAttrs_list PySem.F.slot_list_append PySem.F.type_list_append mt_append (pv 1) (pac (pe_cB (call_isiX hh F hc) rfl T.z_isinstance bt_isinstance (pac (pv 0) (pac (pe_glob (v := .ref c_NoWord) rfl m_NoWord rfl) pa_nil))) pa_nil)))
      (pss_cons (ps_if (pt_cut (PW.pt (pw_or (pt_not (pt_val (pe_cB (call_isiX hh F hc) rfl T.z_isinstance bt_isinstance (pac (pv 0) (pac (pe_ty T.z_ValueError bt_ValueError rfl) pa_nil))))) (pw_or1 (pt_cmpR op_ne (pe_bm PySem.F.plainAttrs_list PySem.F.slot_list_count PySem.F.type_list_count mt_countB (pv 1) (pa_const [.bl true] (by rfl))) pe_int (nomark _))))))
      (pss_one (ps_ret pe_str)) pss_nil)
      (pss_one (ps_ret (pe_ix ix_list (pe_lst (pa_const [.str "program", .str "row", .str "long", .str "world", .str "text", .str "step", .str "cell", .str "door", .str "word"] (by rfl))) (pe_bm PySem.F.plainAttrs_list PySem.F.slot_list_index PySem.F.type_list_index mt_indexB (pv 1) (pa_const [.bl true] (by rfl))) (fun _ _ => rfl))))))))), ?_⟩
  refine ⟨(by show 0 ≤ sizeLine; decide), fun fd hfd => ?_⟩
  have s0 := same_of_new hfd (.lst [])
  refine ⟨_, rfl, _, _, _, rfl, .inl ⟨_, rfl, rfl⟩, Z.k1, _, rfl, _, _, _, rfl, .inl ⟨_, rfl, rfl⟩, Z.k2, _, rfl, _, _, _, rfl, .inl ⟨_, rfl, rfl⟩, Z.k3, _, rfl, _, _, _, rfl, .inl ⟨_, rfl, rfl⟩, Z.k4, (by show 4 ≤ sizeLine; decide), fun t ht => ?_⟩
  have ne1 : t ≠ fd := fun z => by rw [z, upd_same] at ht; cases ht
  refine ⟨t, rfl, ⟨_, SqT.of upd_same⟩, loop_ok (bs := [false, false, false, true]) (cs := []) hfd (s0.trans (same_of_new ht _)) (by rw [upd_ne (Ne.symm ne1)]; exact upd_same) upd_same ne1 (by decide) (fun x2 H1 s1 hf1 => ?_)⟩
  refine ⟨_, rfl, _, _, _, rfl, .inl ⟨_, rfl, rfl⟩, Z.k5, _, rfl, _, _, _, rfl, .inl ⟨_, rfl, rfl⟩, Z.k6, _, rfl, _, _, _, rfl, .inl ⟨_, rfl, rfl⟩, Z.k7, _, rfl, _, _, _, rfl, .inl ⟨_, rfl, rfl⟩, Z.k8, (by show 4 ≤ sizeLine; decide), fun t' ht' => ?_⟩
  have ne2 : t' ≠ fd := fun z => by rw [z, hf1] at ht'; cases ht'
  refine ⟨t', rfl, ⟨_, SqT.of upd_same⟩, loop_ok (bs := [false, false, false, false]) (cs := [false, false, false, true]) hfd (s1.trans (same_of_new ht' _)) (by rw [upd_ne (Ne.symm ne2)]; exact hf1) upd_same ne2 (by decide) (fun x3 H2 s2 hf2 => ?_)⟩
  refine ⟨_, rfl, .inl ⟨rfl, _, SqL.of hf2⟩, _, rfl, _, _, _, rfl, .inl ⟨_, rfl, rfl⟩, Z.k9, fd, _, _, rfl, rfl, hf2, (by show 8 < sizeLine; decide), ?_⟩
  have s3 : Same H (upd H2 fd (.lst (([false, false, false, true] ++ [false, false, false, false]).map V.bl ++ [V.bl false]))) := fun b o hb => by rw [upd_ne (ne_of_none hb hfd)]; exact s2 _ _ hb
  have hf3 : (upd H2 fd (.lst (([false, false, false, true] ++ [false, false, false, false]).map V.bl ++ [V.bl false]))) fd = some (.lst ([false, false, false, true, false, false, false, false, false].map V.bl)) := upd_same
  generalize upd H2 fd (.lst (([false, false, false, true] ++ [false, false, false, false]).map V.bl ++ [V.bl false])) = H3 at s3 hf3 ⊢
  refine ⟨fun t H' => H3 = H' ∧ t = false, ⟨_, rfl, _, _, _, rfl, .inr ⟨_, rfl, rfl⟩, Z.kv, _, rfl, ifF rfl ⟨_, rfl, .inl ⟨rfl, _, SqL.of hf3⟩, fd, _, rfl, rfl, hf3, rfl, _, rfl, rfl, by decide⟩⟩, ?_⟩
  rintro t H' ⟨rfl, rfl⟩
  refine ifF rfl ?_
  refine ⟨(by show 9 ≤ sizeLine; decide), fun L hL => ?_⟩
  have s4 := s3.trans (same_of_new hL (.lst [V.str "program", .str "row", .str "long", .str "world", .str "text", .str "step", .str "cell", .str "door", .str "word"]))
  have hf4 : (upd H3 L (.lst [V.str "program", .str "row", .str "long", .str "world", .str "text", .str "step", .str "cell", .str "door", .str "word"])) fd = some (.lst ([false, false, false, true, false, false, false, false, false].map V.bl)) := by rw [upd_ne (ne_of_none hf3 hL)]; exact hf3
  refine ⟨_, rfl, .inl ⟨rfl, _, SqL.of hf4⟩, fd, _, 3, rfl, rfl, hf4, by decide, rfl, (fun m hm => ?_), L, _, 3, _, rfl, rfl, SqL.of upd_same, atI_nat (j := 3) rfl, q _ s4⟩
  match m, hm with
  | 0, _ => rfl
  | 1, _ => rfl
  | 2, _ => rfl

/-! ### _law_told -/
theorem sc_told : FnScope ["_law_thing", "_law_e"] ["_law_thing"] (defScope (top 39)) := ⟨rfl, rfl, rfl, by decide +kernel, rfl, by decide +kernel, by decide +kernel⟩
def spTold : Sp := fun vs H Q _ => ∃ (v : V) (p : Addr) (n : Nat), vs = [v] ∧ Dt p H n v ∧ (worldB H v = true → ∀ b H', Same H H' → H' b = some (.lst [v]) → Q (.ref b) H') ∧ (worldB H v = false → ∀ H', Same H H' → Q (.str "world") H')
theorem d_told (T : Txt w K mg) (Z : Cls K mg R c_NoProgram c_NoRow c_TooLong c_NoWorld c_NoText c_NoStep c_NoCell c_NoDoor c_NoWord) (D_world_of : DefX P w K mg base 6 "world_of" ["pairs"] (spWorldOf c_NoWorld))
    (D_class : DefH P w K mg base 6 "_law_class" ["_law_e"] (spClass c_NoWorld)) (S : Src K mg "_law_told" (top 39) ["_law_thing"]) : Def P w K mg base 7 "_law_told" ["_law_thing"] spTold := by
  refine S.ok sc_told (fun vs H Q E h => ?_) (fun f0 cdv A outer s H vs Q E hr h => ?_)
  · obtain ⟨v, p, n, rfl, _⟩ := h; rfl
  obtain ⟨v, p, n, rfl, hv, q1, q2⟩ := h
  refine ⟨_, (pss_one (ps_try (i := 1) (R := R) ⟨rfl, rfl, rfl⟩ sc_told.nd rfl rfl rfl rfl Z.m0 Z.hit
    (fun pn E1 => pss_one (ps_ret (pe_lst (pac (pe_defX D_world_of hr tr_pass rfl (pac (pv 0) pa_nil)) pa_nil))))
    (fun pn a C hh => pss_one (ps_ret (pe_defH D_class hh (hr.hand a) rfl (pac (pv 1) pa_nil)))))), ?_⟩
  refine ⟨fun cls _ H' => cls = .ref c_NoWorld ∧ Same H H' ∧ worldB H v = false, ?_, ?_⟩
  · refine ⟨_, rfl, v, p, n, rfl, hv, fun hw H' s' => ?_, fun hw H' s' => ⟨rfl, s', hw⟩⟩
    exact ⟨(by show 1 ≤ sizeLine; decide), fun b hb => q1 hw b _ (s'.trans (same_of_new hb _)) upd_same⟩
  · rintro C od H' a σ' ⟨e, s', hw⟩ hlen
    cases e
    refine ⟨Z.sub, .ref a, ?_, rfl, rfl, fun H2 s2 => q2 hw H2 (s'.trans s2)⟩
    have : 1 < σ'.length := by rw [hlen]; exact Nat.lt_succ_self 1
    rw [List.getElem?_set_self this]
end
end K03

set_option Elab.async false
set_option linter.all false
set_option maxRecDepth 100000
set_option maxHeartbeats 4000000
namespace K03
open PySem L2
seal L2.PE L2.PS L2.PSs L2.PT L2.PW L2.PA L2.PG L2.PGs L2.PI L2.PO L2.PIfs L2.PC L2.OpR L2.CallR L2.IxR L2.SlR L2.PSet L2.UnR
theorem sameOf {p : Addr} {H0 H H' : Hp} (hp : H0 p = none) (s : Same H0 H) (e : Ext p H H') : Same H0 H' := fun b o h => e.but b o (ne_of_none h hp) (s b o h)
theorem Pl.same {H H' : Hp} (s : Same H H') : ∀ {n : Nat} {v : V}, Pl H n v → Pl H' n v
  | 0, _, h => h
  | n + 1, v, h => by
    cases v with
    | ref a =>
      obtain ⟨xs, h1, h2, h3⟩ := h
      exact ⟨xs, s _ _ h1, h2, fun x hx => Pl.same s (h3 x hx)⟩
    | _ => exact h
section
variable {P : Program} {w : World} {K : PySem.W.Frag} {mg : Str → Option Value} {base : Heap}
theorem sc_law : FnScope ["_law_script", "_law_thing", "_law_state_here", "_law_kind", "_law_due"] ["_law_script"] (defScope (top 40)) := ⟨rfl, rfl, rfl, by decide +kernel, rfl, by decide +kernel, by decide +kernel⟩
def spLaw (K : PySem.W.Frag) : Sp := fun vs H Q _ => ∃ (a : Addr) (ns : List Int), vs = [.ref a] ∧ SqL K H a (ns.map V.int) ∧ ∀ H', Q (.bl true) H'
theorem d_law (T : Txt w K mg) (D_next : Def P w K mg base 1 "_law_next" ["_law_state_here", "_law_size"] spNext) (D_cell_at : Def P w K mg base 1 "_law_cell_at" ["_law_script", "_law_k"] (spCell K)) (D_state : Def P w K mg base 1 "_law_state" ["_law_cell", "_law_k"] spState)
    (D_world : Def P w K mg base 3 "_law_world" ["_law_state_here"] spWorld) (D_spoilt : ∀ n : Nat, Def P w K mg base (n + 3) "_law_spoilt" ["_law_thing", "_law_state_here"] (spSpoilt n)) (D_is_world : Def P w K mg base 2 "_law_is_world" ["_law_thing"] (spPred worldB))
    (D_told : Def P w K mg base 8 "_law_told" ["_law_thing"] spTold) {f : Addr} {fd : FuncData} (F : Fun K "law" "law" (top 40) f fd) : FnOk P w K mg base CX0 9 f fd ["_law_script"] (spLaw K) := by
  refine F.ok sc_law (fun vs H Q E h => ?_) (fun cdv A outer s H vs Q E hr h => ?_)
  · obtain ⟨a, ns, rfl, _⟩ := h; rfl
  obtain ⟨a, ns, rfl, hS, q⟩ := h
  refine ⟨_, (pss_cons (ps_set (i := 1) sc_law.nd rfl (Or.inl rfl) (pe_def (D_world.mono (by decide)) hr rfl (pac (pe_def (D_state.mono (by decide)) hr rfl (pac (pe_def (D_cell_at.mono (by decide)) hr rfl (pac (pv 0) (pac pe_int pa_nil))) (pac pe_int pa_nil))) pa_nil)))
      (pss_cons (ps_set (i := 2) sc_law.nd rfl (Or.inl rfl) (pe_def (D_state.mono (by decide)) hr rfl (pac (pe_def (D_cell_at.mono (by decide)) hr rfl (pac (pv 0) (pac pe_int pa_nil))) (pac pe_int pa_nil))))
      (pss_cons (ps_set (i := 3) sc_law.nd rfl (Or.inl rfl) (pe_def (D_next.mono (by decide)) hr rfl (pac (pv 2) (pac pe_int pa_nil))))
      (pss_cut (ps_if (pt_cmpR op_lt (pv 3) pe_int (nomark _))
      (pss_one (ps_set (i := 1) sc_law.nd rfl (Or.inl rfl) (pe_def ((D_spoilt 4).mono (by decide)) hr rfl (pac (pv 1) (pac (pv 2) pa_nil)))))
      (pss_one (ps_if (pt_cmpR op_eq (pv 3) pe_int (nomark _))
      (pss_one (ps_set (i := 1) sc_law.nd rfl (Or.inl rfl) (pe_ix ix_list (pe_lst (pac (pe_op op_catTw (pv 1) (pe_slice sl_tupW (pv 1) (po_some (pe_un un_neg pe_int)) po_none)) (pac (pe_rev (pv 1) (pe_un un_neg pe_int)) (pac (pe_op op_catTw (pe_slice sl_tupW (pv 1) (po_some pe_int) po_none) (pe_slice sl_tupW (pv 1) po_none (po_some pe_int))) (pac (pe_cT call_list_of rfl T.z_list bt_list (pac (pv 1) pa_nil)) pa_nil))))) (pe_def (D_next.mono (by decide)) hr rfl (pac (pv 2) (pac pe_int pa_nil))) (fun _ _ => rfl)))) pss_nil)))
      (pss_cons (ps_set (i := 4) sc_law.nd rfl (Or.inl rfl) pe_str)
      (pss_cons (ps_if (pt_val (pe_def (D_is_world.mono (by decide)) hr rfl (pac (pv 1) pa_nil)))
      (pss_one (ps_set (i := 4) sc_law.nd rfl (Or.inl rfl) (pe_lst (pac (pv 1) pa_nil)))) pss_nil)
      (pss_one (ps_ret (pe_and (pe_cmpR ((op_eqA hr.units).or op_eq) (pe_def (D_told) hr rfl (pac (pv 1) pa_nil)) (pv 4) (nomark _)) (pe_and (pe_cmpR (op_eqA hr.units) (pe_def (D_told) hr rfl (pac (pe_tup pa_nil) pa_nil)) (pe_lst (pac (pe_tup pa_nil) pa_nil)) (nomark _)) (pe_one (pe_cmpR ((op_eqA hr.units).or op_eq) (pe_def (D_told) hr rfl (pac (pv 1) pa_nil)) (pv 4) (nomark _))))))))))))), ?_⟩
  have l3 : (100 : Nat) < sizeLine := by decide
  refine ⟨_, rfl, a, ns, 0, rfl, hS, by decide, fun i0 => ⟨i0, 1, rfl, by decide, by decide, fun p n hp n0 n1 => ?_⟩⟩
  have s1 := same_of_new hp (.lst [.int n])
  refine ⟨p, rfl, ⟨n, upd_same, n0, n1⟩, fun t ys H2 e2 ht hyl hy => ?_⟩
  have s2 := sameOf hp s1 e2
  refine ⟨_, rfl, a, ns, 1, rfl, Same.seq s2 hS, by decide, fun i1 => ⟨i1, 2, rfl, by decide, by decide, fun p2 n2 hp2 n20 n21 => ?_⟩⟩
  have s3 := same_of_new hp2 (.lst [.int n2])
  have g3 : Gen p2 (upd H2 p2 (.lst [.int n2])) := ⟨n2, upd_same, n20, n21⟩
  have ht3 := s3 _ _ ht
  have hy3 : ∀ y ∈ ys, Pl (upd H2 p2 (.lst [.int n2])) 3 y := fun y h => (hy y h).same s3
  have hp2H : H p2 = none := by
    cases z : H p2 with
    | none => rfl
    | some o => rw [s2 _ _ z] at hp2; cases hp2
  have s03 := s2.trans s3
  generalize upd H2 p2 (.lst [.int n2]) = H3 at s3 g3 ht3 hy3 s03 ⊢
  refine ⟨_, rfl, p2, 6, rfl, g3, by decide, fun kd H4 k0 k1 e4 => ?_⟩
  have s04 := sameOf hp2H s03 e4
  have ht4 : H4 t = some (.tup ys) := e4.tup g3 ht3
  have hy4 : ∀ y ∈ ys, Pl H4 3 y := fun y h => (hy3 y h).ext g3 e4
  have g4 := e4.gen
  refine ⟨fun σ H' => ∃ v, σ = [some (.ref a), some v, some (.ref p2), some (.int kd), none] ∧ Dt p2 H' 6 v ∧ Gen p2 H', ?_, ?_⟩
  · refine ⟨_, rfl, _, _, rfl, rfl, _, rfl, ite2 (fun _ => ?_) (fun _ => ?_)⟩
    · refine ⟨_, rfl, _, rfl, .ref t, p2, 4, rfl, g4, ⟨ys, ht4, (by omega), hy4⟩, by decide, fun r H5 e5 hd => ⟨r, rfl, hd, e5.gen⟩⟩
    · refine ⟨_, rfl, rfl, _, rfl, ite2 (fun _ => ?_) (fun _ => ⟨_, rfl, ((show Pl H4 4 (.ref t) from ⟨ys, ht4, (by omega), hy4⟩).dt).up (by decide), g4⟩)⟩
      have sub : ∀ (H5 : Hp) (b : Addr) (zs : List V), H5 b = some (.tup zs) → zs.length ≤ 120 → (∀ z ∈ zs, z ∈ ys) → Same H4 H5 → Dt p2 H5 6 (.ref b) := fun H5 b zs hb hl hz s5 => (Dt.tup (n := 3) hb hl fun z h => ((hy4 z (hz z h)).same s5).dt).up (by decide)
      have c1 := cutV_length ys (some (-1)) none
      have c2 := cutV_length ys (some 1) none
      have c3 := cutV_length ys none (some 1)
      -- thing + thing[-1:]
      refine ⟨_, rfl, _, rfl, 1, rfl, -1, rfl, t, ys, rfl, ht4, fun b1 H5 e5 hb1 => ?_⟩
      refine ⟨t, b1, ys, _, rfl, rfl, e5 _ _ ht4, hb1, (by omega), fun b2 H6 e6 hb2 => ?_⟩
      have s46 := e5.trans e6
      -- thing[::-1]
      refine ⟨_, rfl, 1, rfl, rfl, t, ys, rfl, s46 _ _ ht4, fun b3 hb3 => ?_⟩
      have e7 := same_of_new hb3 (.tup ys.reverse)
      have hb37 : (upd H6 b3 (.tup ys.reverse)) b3 = some (.tup ys.reverse) := upd_same
      generalize upd H6 b3 (.tup ys.reverse) = H7 at e7 hb37 ⊢
      have s47 := s46.trans e7
      -- thing[1:] + thing[:1]
      refine ⟨_, rfl, 1, rfl, t, ys, rfl, s47 _ _ ht4, fun b4 H8 e8 hb4 => ?_⟩
      have s48 := s47.trans e8
      refine ⟨_, rfl, 1, rfl, t, ys, rfl, s48 _ _ ht4, fun b5 H9 e9 hb5 => ?_⟩
      have s49 := s48.trans e9
      refine ⟨b4, b5, _, _, rfl, rfl, e9 _ _ hb4, hb5, (by omega), fun b6 H10 e10 hb6 => ?_⟩
      have s410 := s49.trans e10
      -- list(thing)
      refine ⟨_, rfl, t, ys, rfl, .inr (SqT.of (s410 _ _ ht4)), fun b7 hb7 => ?_⟩
      have e11 := same_of_new hb7 (.lst ys)
      have hb711 : (upd H10 b7 (.lst ys)) b7 = some (.lst ys) := upd_same
      have b7p : b7 ≠ p2 := (g4.same s410).ne hb7
      generalize upd H10 b7 (.lst ys) = H11 at e11 hb711 ⊢
      have s411 := s410.trans e11
      refine ⟨(by show 4 ≤ sizeLine; decide), fun L hL => ?_⟩
      have e12 := same_of_new hL (.lst [V.ref b2, .ref b3, .ref b6, .ref b7])
      have hL12 : (upd H11 L (.lst [V.ref b2, .ref b3, .ref b6, .ref b7])) L = some (.lst [V.ref b2, .ref b3, .ref b6, .ref b7]) := upd_same
      have Lp : L ≠ p2 := (g4.same s411).ne hL
      generalize upd H11 L (.lst [V.ref b2, .ref b3, .ref b6, .ref b7]) = H12 at e12 hL12 ⊢
      have s412 := s411.trans e12
      refine ⟨_, rfl, p2, 4, rfl, g4.same s412, by decide, fun k H13 k0' k1' e13 => ?_⟩
      obtain ⟨v, hat, hm⟩ := at_mem (xs := [V.ref b2, .ref b3, .ref b6, .ref b7]) k0' (by simpa using k1')
      refine ⟨L, _, k, v, rfl, rfl, SqL.of (e13.but L _ Lp hL12), hat, v, rfl, ?_, e13.gen⟩
      have g12 := g4.same s412
      simp only [List.mem_cons, List.not_mem_nil, or_false] at hm
      rcases hm with rfl | rfl | rfl | rfl
      · have z := sub H12 b2 _ (e12 _ _ (e11 _ _ (e10 _ _ (e9 _ _ (e8 _ _ (e7 _ _ hb2)))))) (by rw [List.length_append]; omega) (fun z h => (List.mem_append.mp h).elim id mem_cut) s412
        exact z.ext g12 e13
      · have z := sub H12 b3 _ (e12 _ _ (e11 _ _ (e10 _ _ (e9 _ _ (e8 _ _ hb37))))) (by rw [List.length_reverse]; omega) (fun z h => List.mem_reverse.mp h) s412
        exact z.ext g12 e13
      · have z := sub H12 b6 _ (e12 _ _ (e11 _ _ hb6)) (by rw [List.length_append]; omega) (fun z h => (List.mem_append.mp h).elim mem_cut mem_cut) s412
        exact z.ext g12 e13
      · have z : Dt p2 H12 4 (.ref b7) := Dt.lst (n := 3) (e12 _ _ hb711) b7p (by omega) fun z h => ((hy4 z h).same s412).dt
        exact (z.up (by decide)).ext g12 e13
  rintro σ H5 ⟨v, rfl, hv, g5⟩
  refine ⟨_, rfl, v, p2, 6, rfl, hv, fun H6 s6 => ?_⟩
  have hv6 := hv.same s6
  have wS : worldB H6 v = worldB H5 v := worldB_same s6 hv
  have empty : ∀ {H7 : Hp} {t0 : Addr}, H7 t0 = some (.tup []) → Dt p2 H7 1 (.ref t0) ∧ worldB H7 (.ref t0) = true := fun {H7 t0} h => ⟨Dt.tup (n := 0) h (by decide) (fun x hx => by cases hx), by unfold worldB; rw [tupAt_tup h]; rfl⟩
  cases hW : worldB H5 v with
  | true =>
    rw [hW] at wS
    obtain ⟨vb, rfl⟩ : ∃ b, v = .ref b := by
      cases v with
      | ref b => exact ⟨b, rfl⟩
      | _ => unfold worldB tupAt at hW; cases hW
    have al : ∀ {H' : Hp} {n : Nat}, Paired (Alike H' (n + 1)) [V.ref vb] [V.ref vb] := .cons (.inl ⟨rfl, .inr ⟨_, rfl⟩⟩) .nil
    refine ⟨_, rfl, ifT rfl ⟨_, rfl, (by show 1 ≤ sizeLine; decide), fun L hL => ?_⟩⟩
    have s7 := same_of_new hL (.lst [V.ref vb])
    have hL7 : (upd H6 L (.lst [V.ref vb])) L = some (.lst [V.ref vb]) := upd_same
    generalize upd H6 L (.lst [V.ref vb]) = H7 at s7 hL7 ⊢
    have hv7 := hv6.same s7
    have w7 : worldB H7 (.ref vb) = true := by rw [worldB_same s7 hv6]; exact wS
    refine ⟨_, rfl, .ref vb, p2, 6, rfl, hv7, (fun _ b H8 s8 hb => ?_), fun z => by rw [w7] at z; cases z⟩
    refine ⟨_, rfl, .inl ⟨b, L, _, _, 1, rfl, rfl, SqL.of hb, SqL.of (s8 _ _ hL7), by decide, al, _, rfl, ifT rfl ?_⟩⟩
    refine ⟨(by show 0 ≤ sizeLine; decide), fun t0 ht0 => ?_⟩
    have s9 := same_of_new ht0 (.tup [])
    have ht9 : (upd H8 t0 (.tup [])) t0 = some (.tup []) := upd_same
    generalize upd H8 t0 (.tup []) = H9 at s9 ht9 ⊢
    refine ⟨.ref t0, p2, 1, rfl, (empty ht9).1, (fun _ b2 H10 s10 hb2 => ?_), fun z => by rw [(empty ht9).2] at z; cases z⟩
    refine ⟨(by show 0 ≤ sizeLine; decide), fun t1 ht1 => ⟨(by show 1 ≤ sizeLine; decide), fun L2 hL2 => ?_⟩⟩
    have s11 := same_of_new ht1 (.tup [])
    have s12 := same_of_new hL2 (.lst [V.ref t1])
    have ht12 := s12 _ _ (upd_same (H := H10) (a := t1) (o := .tup []))
    have hL12 : (upd (upd H10 t1 (.tup [])) L2 (.lst [V.ref t1])) L2 = some (.lst [V.ref t1]) := upd_same
    have hb12 := s12 _ _ (s11 _ _ hb2)
    have ht0' := s12 _ _ (s11 _ _ (s10 _ _ ht9))
    have s812 := s9.trans (s10.trans (s11.trans s12))
    generalize upd (upd H10 t1 (.tup [])) L2 (.lst [V.ref t1]) = H12 at s12 ht12 hL12 hb12 ht0' s812 ⊢
    refine ⟨b2, L2, _, _, 2, rfl, rfl, SqL.of hb12, SqL.of hL12, by decide, .cons (.inr ⟨t0, t1, [], [], rfl, rfl, ht0', ht12, .nil⟩) .nil, _, rfl, ifT rfl ?_⟩
    have s712 := s8.trans s812
    have w12 : worldB H12 (.ref vb) = true := by rw [worldB_same s712 hv7]; exact w7
    refine ⟨_, rfl, .ref vb, p2, 6, rfl, hv7.same s712, (fun _ b3 H13 s13 hb3 => ?_), fun z => by rw [w12] at z; cases z⟩
    exact ⟨_, rfl, .inl ⟨b3, L, _, _, 1, rfl, rfl, SqL.of hb3, SqL.of (s13 _ _ (s712 _ _ hL7)), by decide, al, q _⟩⟩
  | false =>
    rw [hW] at wS
    refine ⟨_, rfl, ifF rfl ?_⟩
    refine ⟨_, rfl, v, p2, 6, rfl, hv6, (fun z => by rw [wS] at z; cases z), fun _ H8 s8 => ?_⟩
    refine ⟨_, rfl, .inr ⟨rfl, _, rfl, ifT (by decide) ?_⟩⟩
    refine ⟨(by show 0 ≤ sizeLine; decide), fun t0 ht0 => ?_⟩
    have s9 := same_of_new ht0 (.tup [])
    have ht9 : (upd H8 t0 (.tup [])) t0 = some (.tup []) := upd_same
    generalize upd H8 t0 (.tup []) = H9 at s9 ht9 ⊢
    refine ⟨.ref t0, p2, 1, rfl, (empty ht9).1, (fun _ b2 H10 s10 hb2 => ?_), fun z => by rw [(empty ht9).2] at z; cases z⟩
    refine ⟨(by show 0 ≤ sizeLine; decide), fun t1 ht1 => ⟨(by show 1 ≤ sizeLine; decide), fun L2 hL2 => ?_⟩⟩
    have s11 := same_of_new ht1 (.tup [])
    have s12 := same_of_new hL2 (.lst [V.ref t1])
    have ht12 := s12 _ _ (upd_same (H := H10) (a := t1) (o := .tup []))
    have hL12 : (upd (upd H10 t1 (.tup [])) L2 (.lst [V.ref t1])) L2 = some (.lst [V.ref t1]) := upd_same
    have hb12 := s12 _ _ (s11 _ _ hb2)
    have ht0' := s12 _ _ (s11 _ _ (s10 _ _ ht9))
    have s812 := s9.trans (s10.trans (s11.trans s12))
    generalize upd (upd H10 t1 (.tup [])) L2 (.lst [V.ref t1]) = H12 at s12 ht12 hL12 hb12 ht0' s812 ⊢
    refine ⟨b2, L2, _, _, 2, rfl, rfl, SqL.of hb12, SqL.of hL12, by decide, .cons (.inr ⟨t0, t1, [], [], rfl, rfl, ht0', ht12, .nil⟩) .nil, _, rfl, ifT rfl ?_⟩
    have s612 := s8.trans s812
    have w12 : worldB H12 v = false := by rw [worldB_same s612 hv6]; exact wS
    refine ⟨_, rfl, v, p2, 6, rfl, hv6.same s612, (fun z => by rw [w12] at z; cases z), fun _ H13 s13 => ?_⟩
    exact ⟨_, rfl, .inr ⟨rfl, q _⟩⟩
end
end K03

set_option Elab.async false
set_option linter.all false
set_option maxRecDepth 100000
set_option maxHeartbeats 4000000
namespace K03
open PySem L2
section
variable {w : World} {K : PySem.W.Frag} {mg : Str → Option Value} {h : Heap}
/-! ### the text's top -/
theorem src_mk {x : Str} {st : Stmt} {ps : List Str} {f : Addr} {oc : Value} {od an : Option Addr} {osl : Array (Option Value)} {kV doc pm cdv ct : Value} (X : K.In h) (G : h.Ns mainGlobals mg)
    (hb : ∀ (kV doc pm : Value) (an : Option Addr) (cdv ct : Value) (us : List Value), us.length = ps.length → bindArgs (PySem.W.fnOf x x (defArgs st) (defBody st) (defScope st) .none kV doc pm an cdv ct) ⟨us, []⟩ = pure (ps.zip us))
    (a : PySem.W.nsIn K mainGlobals x = some (some (.ref f))) (l : K.lookup f = some ⟨oc, od, .func (PySem.W.fnOf x x (defArgs st) (defBody st) (defScope st) .none kV doc pm an cdv ct), osl⟩)
    (c : PySem.W.codeIn K cdv x = true) (k : PySem.W.keepIn K (.ref f) = true) : Src K mg x st ps :=
  have F := fun_mk (st := st) l c k
  ⟨f, _, F, PySem.W.mg_of X G a, F.binds hb⟩
theorem bi14 (kV doc pm : Value) (an : Option Addr) (cdv ct : Value) (us : List Value) (hl : us.length = (["thing"] : List Str).length) : bindArgs (PySem.W.fnOf "is_name" "is_name" (defArgs (top 14)) (defBody (top 14)) (defScope (top 14)) .none kV doc pm an cdv ct) ⟨us, []⟩ = pure ((["thing"] : List Str).zip us) :=
  match us, hl with | [_], _ => rfl
theorem bi15 (kV doc pm : Value) (an : Option Addr) (cdv ct : Value) (us : List Value) (hl : us.length = (["thing", "least", "most"] : List Str).length) : bindArgs (PySem.W.fnOf "is_whole" "is_whole" (defArgs (top 15)) (defBody (top 15)) (defScope (top 15)) .none kV doc pm an cdv ct) ⟨us, []⟩ = pure ((["thing", "least", "most"] : List Str).zip us) :=
  match us, hl with | [_, _, _], _ => rfl
theorem bi16 (kV doc pm : Value) (an : Option Addr) (cdv ct : Value) (us : List Value) (hl : us.length = (["thing"] : List Str).length) : bindArgs (PySem.W.fnOf "is_number" "is_number" (defArgs (top 16)) (defBody (top 16)) (defScope (top 16)) .none kV doc pm an cdv ct) ⟨us, []⟩ = pure ((["thing"] : List Str).zip us) :=
  match us, hl with | [_], _ => rfl
theorem bi20 (kV doc pm : Value) (an : Option Addr) (cdv ct : Value) (us : List Value) (hl : us.length = (["pairs"] : List Str).length) : bindArgs (PySem.W.fnOf "world_of" "world_of" (defArgs (top 20)) (defBody (top 20)) (defScope (top 20)) .none kV doc pm an cdv ct) ⟨us, []⟩ = pure ((["pairs"] : List Str).zip us) :=
  match us, hl with | [_], _ => rfl
theorem bi21 (kV doc pm : Value) (an : Option Addr) (cdv ct : Value) (us : List Value) (hl : us.length = (["thing", "most", "is_one"] : List Str).length) : bindArgs (PySem.W.fnOf "is_tuple_of" "is_tuple_of" (defArgs (top 21)) (defBody (top 21)) (defScope (top 21)) .none kV doc pm an cdv ct) ⟨us, []⟩ = pure ((["thing", "most", "is_one"] : List Str).zip us) :=
  match us, hl with | [_, _, _], _ => rfl
theorem bi22 (kV doc pm : Value) (an : Option Addr) (cdv ct : Value) (us : List Value) (hl : us.length = (["thing"] : List Str).length) : bindArgs (PySem.W.fnOf "is_pair" "is_pair" (defArgs (top 22)) (defBody (top 22)) (defScope (top 22)) .none kV doc pm an cdv ct) ⟨us, []⟩ = pure ((["thing"] : List Str).zip us) :=
  match us, hl with | [_], _ => rfl
theorem bi23 (kV doc pm : Value) (an : Option Addr) (cdv ct : Value) (us : List Value) (hl : us.length = (["thing"] : List Str).length) : bindArgs (PySem.W.fnOf "is_answer" "is_answer" (defArgs (top 23)) (defBody (top 23)) (defScope (top 23)) .none kV doc pm an cdv ct) ⟨us, []⟩ = pure ((["thing"] : List Str).zip us) :=
  match us, hl with | [_], _ => rfl
theorem bi24 (kV doc pm : Value) (an : Option Addr) (cdv ct : Value) (us : List Value) (hl : us.length = (["things"] : List Str).length) : bindArgs (PySem.W.fnOf "names_of" "names_of" (defArgs (top 24)) (defBody (top 24)) (defScope (top 24)) .none kV doc pm an cdv ct) ⟨us, []⟩ = pure ((["things"] : List Str).zip us) :=
  match us, hl with | [_], _ => rfl
theorem bi26 (kV doc pm : Value) (an : Option Addr) (cdv ct : Value) (us : List Value) (hl : us.length = (["_law_script", "_law_k"] : List Str).length) : bindArgs (PySem.W.fnOf "_law_cell_at" "_law_cell_at" (defArgs (top 26)) (defBody (top 26)) (defScope (top 26)) .none kV doc pm an cdv ct) ⟨us, []⟩ = pure ((["_law_script", "_law_k"] : List Str).zip us) :=
  match us, hl with | [_, _], _ => rfl
theorem bi27 (kV doc pm : Value) (an : Option Addr) (cdv ct : Value) (us : List Value) (hl : us.length = (["_law_cell", "_law_k"] : List Str).length) : bindArgs (PySem.W.fnOf "_law_state" "_law_state" (defArgs (top 27)) (defBody (top 27)) (defScope (top 27)) .none kV doc pm an cdv ct) ⟨us, []⟩ = pure ((["_law_cell", "_law_k"] : List Str).zip us) :=
  match us, hl with | [_, _], _ => rfl
theorem bi28 (kV doc pm : Value) (an : Option Addr) (cdv ct : Value) (us : List Value) (hl : us.length = (["_law_state_here", "_law_size"] : List Str).length) : bindArgs (PySem.W.fnOf "_law_next" "_law_next" (defArgs (top 28)) (defBody (top 28)) (defScope (top 28)) .none kV doc pm an cdv ct) ⟨us, []⟩ = pure ((["_law_state_here", "_law_size"] : List Str).zip us) :=
  match us, hl with | [_, _], _ => rfl
theorem bi29 (kV doc pm : Value) (an : Option Addr) (cdv ct : Value) (us : List Value) (hl : us.length = (["_law_state_here", "_law_amount"] : List Str).length) : bindArgs (PySem.W.fnOf "_law_names" "_law_names" (defArgs (top 29)) (defBody (top 29)) (defScope (top 29)) .none kV doc pm an cdv ct) ⟨us, []⟩ = pure ((["_law_state_here", "_law_amount"] : List Str).zip us) :=
  match us, hl with | [_, _], _ => rfl
theorem bi30 (kV doc pm : Value) (an : Option Addr) (cdv ct : Value) (us : List Value) (hl : us.length = (["_law_thing"] : List Str).length) : bindArgs (PySem.W.fnOf "_law_is_name" "_law_is_name" (defArgs (top 30)) (defBody (top 30)) (defScope (top 30)) .none kV doc pm an cdv ct) ⟨us, []⟩ = pure ((["_law_thing"] : List Str).zip us) :=
  match us, hl with | [_], _ => rfl
theorem bi31 (kV doc pm : Value) (an : Option Addr) (cdv ct : Value) (us : List Value) (hl : us.length = (["_law_thing"] : List Str).length) : bindArgs (PySem.W.fnOf "_law_is_number" "_law_is_number" (defArgs (top 31)) (defBody (top 31)) (defScope (top 31)) .none kV doc pm an cdv ct) ⟨us, []⟩ = pure ((["_law_thing"] : List Str).zip us) :=
  match us, hl with | [_], _ => rfl
theorem bi34 (kV doc pm : Value) (an : Option Addr) (cdv ct : Value) (us : List Value) (hl : us.length = (["_law_thing", "_law_state_here"] : List Str).length) : bindArgs (PySem.W.fnOf "_law_odd" "_law_odd" (defArgs (top 34)) (defBody (top 34)) (defScope (top 34)) .none kV doc pm an cdv ct) ⟨us, []⟩ = pure ((["_law_thing", "_law_state_here"] : List Str).zip us) :=
  match us, hl with | [_, _], _ => rfl
theorem bi35 (kV doc pm : Value) (an : Option Addr) (cdv ct : Value) (us : List Value) (hl : us.length = (["_law_thing", "_law_state_here"] : List Str).length) : bindArgs (PySem.W.fnOf "_law_spoilt" "_law_spoilt" (defArgs (top 35)) (defBody (top 35)) (defScope (top 35)) .none kV doc pm an cdv ct) ⟨us, []⟩ = pure ((["_law_thing", "_law_state_here"] : List Str).zip us) :=
  match us, hl with | [_, _], _ => rfl
theorem bi36 (kV doc pm : Value) (an : Option Addr) (cdv ct : Value) (us : List Value) (hl : us.length = (["_law_e"] : List Str).length) : bindArgs (PySem.W.fnOf "_law_class" "_law_class" (defArgs (top 36)) (defBody (top 36)) (defScope (top 36)) .none kV doc pm an cdv ct) ⟨us, []⟩ = pure ((["_law_e"] : List Str).zip us) :=
  match us, hl with | [_], _ => rfl
theorem bi37 (kV doc pm : Value) (an : Option Addr) (cdv ct : Value) (us : List Value) (hl : us.length = (["_law_thing"] : List Str).length) : bindArgs (PySem.W.fnOf "_law_is_world" "_law_is_world" (defArgs (top 37)) (defBody (top 37)) (defScope (top 37)) .none kV doc pm an cdv ct) ⟨us, []⟩ = pure ((["_law_thing"] : List Str).zip us) :=
  match us, hl with | [_], _ => rfl
theorem bi38 (kV doc pm : Value) (an : Option Addr) (cdv ct : Value) (us : List Value) (hl : us.length = (["_law_state_here"] : List Str).length) : bindArgs (PySem.W.fnOf "_law_world" "_law_world" (defArgs (top 38)) (defBody (top 38)) (defScope (top 38)) .none kV doc pm an cdv ct) ⟨us, []⟩ = pure ((["_law_state_here"] : List Str).zip us) :=
  match us, hl with | [_], _ => rfl
theorem bi39 (kV doc pm : Value) (an : Option Addr) (cdv ct : Value) (us : List Value) (hl : us.length = (["_law_thing"] : List Str).length) : bindArgs (PySem.W.fnOf "_law_told" "_law_told" (defArgs (top 39)) (defBody (top 39)) (defScope (top 39)) .none kV doc pm an cdv ct) ⟨us, []⟩ = pure ((["_law_thing"] : List Str).zip us) :=
  match us, hl with | [_], _ => rfl
end
theorem all {P : Program} {w : World} {K : PySem.W.Frag} {mg : Str → Option Value} {base : Heap} {R C1 C2 C3 C4 C5 C6 C7 C8 C9 : Addr} (T : Txt w K mg) (Z : Cls K mg R C1 C2 C3 C4 C5 C6 C7 C8 C9)
    (S14 : Src K mg "is_name" (top 14) ["thing"])
    (S15 : Src K mg "is_whole" (top 15) ["thing", "least", "most"])
    (S16 : Src K mg "is_number" (top 16) ["thing"])
    (S20 : Src K mg "world_of" (top 20) ["pairs"])
    (S21 : Src K mg "is_tuple_of" (top 21) ["thing", "most", "is_one"])
    (S22 : Src K mg "is_pair" (top 22) ["thing"])
    (S23 : Src K mg "is_answer" (top 23) ["thing"])
    (S24 : Src K mg "names_of" (top 24) ["things"])
    (S26 : Src K mg "_law_cell_at" (top 26) ["_law_script", "_law_k"])
    (S27 : Src K mg "_law_state" (top 27) ["_law_cell", "_law_k"])
    (S28 : Src K mg "_law_next" (top 28) ["_law_state_here", "_law_size"])
    (S29 : Src K mg "_law_names" (top 29) ["_law_state_here", "_law_amount"])
    (S30 : Src K mg "_law_is_name" (top 30) ["_law_thing"])
    (S31 : Src K mg "_law_is_number" (top 31) ["_law_thing"])
    (S34 : Src K mg "_law_odd" (top 34) ["_law_thing", "_law_state_here"])
    (S35 : Src K mg "_law_spoilt" (top 35) ["_law_thing", "_law_state_here"])
    (S36 : Src K mg "_law_class" (top 36) ["_law_e"])
    (S37 : Src K mg "_law_is_world" (top 37) ["_law_thing"])
    (S38 : Src K mg "_law_world" (top 38) ["_law_state_here"])
    (S39 : Src K mg "_law_told" (top 39) ["_law_thing"])
    {f : Addr} {fd : FuncData} (F : Fun K "law" "law" (top 40) f fd) : FnOk P w K mg base CX0 9 f fd ["_law_script"] (spLaw K) :=
  have D_next := d_next S28
  have D_number := d_is_number T (d_is_whole T S15) S16
  have D_ans := d_answer T (d_is_name T S14) D_number (d_pair T S22) (d_tuple_of (k := 2) T S21) S23
  have D_wof := d_world_of T Z.m4 Z.exc D_ans (d_tuple_of (k := 4) T S21) (d_names_of T S24) S20
  have D_told := d_told T Z D_wof ((d_class T Z S36).mono (by decide)) S39
  d_law T D_next (d_cell_at T S26) (d_state S27) (d_world T D_next (d_names T D_next S29) S38) (d_spoilt T D_next (d_odd T D_next S34) S35)
    (d_is_world T (d_lname T S30) (d_lnumber T S31) S37) (D_told.mono (by decide)) F
theorem law_mk {l : PySem.W.OpenLaw} {w : World} {K : PySem.W.Frag} {h : Heap} {mg : Str → Option Value} {fa f3 : Addr} {R C1 C2 C3 C4 C5 C6 C7 C8 C9 : Addr} (X : K.In h) (G : h.Ns mainGlobals mg) (hfa : mg "law" = some (.ref fa)) (T : Txt w K mg) (Z : Cls K mg R C1 C2 C3 C4 C5 C6 C7 C8 C9)
    (S14 : Src K mg "is_name" (top 14) ["thing"])
    (S15 : Src K mg "is_whole" (top 15) ["thing", "least", "most"])
    (S16 : Src K mg "is_number" (top 16) ["thing"])
    (S20 : Src K mg "world_of" (top 20) ["pairs"])
    (S21 : Src K mg "is_tuple_of" (top 21) ["thing", "most", "is_one"])
    (S22 : Src K mg "is_pair" (top 22) ["thing"])
    (S23 : Src K mg "is_answer" (top 23) ["thing"])
    (S24 : Src K mg "names_of" (top 24) ["things"])
    (S26 : Src K mg "_law_cell_at" (top 26) ["_law_script", "_law_k"])
    (S27 : Src K mg "_law_state" (top 27) ["_law_cell", "_law_k"])
    (S28 : Src K mg "_law_next" (top 28) ["_law_state_here", "_law_size"])
    (S29 : Src K mg "_law_names" (top 29) ["_law_state_here", "_law_amount"])
    (S30 : Src K mg "_law_is_name" (top 30) ["_law_thing"])
    (S31 : Src K mg "_law_is_number" (top 31) ["_law_thing"])
    (S34 : Src K mg "_law_odd" (top 34) ["_law_thing", "_law_state_here"])
    (S35 : Src K mg "_law_spoilt" (top 35) ["_law_thing", "_law_state_here"])
    (S36 : Src K mg "_law_class" (top 36) ["_law_e"])
    (S37 : Src K mg "_law_is_world" (top 37) ["_law_thing"])
    (S38 : Src K mg "_law_world" (top 38) ["_law_state_here"])
    (S39 : Src K mg "_law_told" (top 39) ["_law_thing"])
    {od3 an3 : Option Addr} {sl3 : Array (Option Value)} {oc3 kV3 dc3 pm3 cd3 ct3 : Value}
    (a3 : PySem.W.nsIn K mainGlobals "law" = some (some (.ref f3))) (l3 : K.lookup f3 = some ⟨oc3, od3, .func (PySem.W.fnOf "law" "law" (defArgs (top 40)) (defBody (top 40)) (defScope (top 40)) .none kV3 dc3 pm3 an3 cd3 ct3), sl3⟩) (c3 : PySem.W.codeIn K cd3 "law" = true) (k3 : PySem.W.keepIn K (.ref f3) = true) :
    ∃ fd : FuncData, (∀ (s : Shared) (v : Value), BindsTo s fd ⟨[v], []⟩ [("_law_script", v)]) ∧ ∀ base : Heap, K.In base → base.Ns mainGlobals mg → FnOk l.prog w K mg base CX0 9 fa fd ["_law_script"] (spLaw K) := by
  have e := hfa.symm.trans (PySem.W.mg_of X G a3)
  cases e
  have F3 := fun_mk (st := top 40) l3 c3 k3
  refine ⟨PySem.W.fnOf "law" "law" (defArgs (top 40)) (defBody (top 40)) (defScope (top 40)) .none kV3 dc3 pm3 an3 cd3 ct3, fun s v => .of_eq rfl, fun base _ _ => ?_⟩
  exact all T Z S14 S15 S16 S20 S21 S22 S23 S24 S26 S27 S28 S29 S30 S31 S34 S35 S36 S37 S38 S39 F3
theorem txt_mk {w : World} {K : PySem.W.Frag} {h : Heap} {mg : Str → Option Value} (X : K.In h) (G : h.Ns mainGlobals mg) {t0 t1 t2 t3 : Tok}
    (z0 : PySem.W.nsIn K mainGlobals "len" = some none) (z1 : PySem.W.nsIn K mainGlobals "isinstance" = some none) (z2 : PySem.W.nsIn K mainGlobals "all" = some none) (z3 : PySem.W.nsIn K mainGlobals "range" = some none) (z4 : PySem.W.nsIn K mainGlobals "list" = some none) (z5 : PySem.W.nsIn K mainGlobals "tuple" = some none) (z6 : PySem.W.nsIn K mainGlobals "str" = some none) (z7 : PySem.W.nsIn K mainGlobals "int" = some none) (z8 : PySem.W.nsIn K mainGlobals "bool" = some none) (z9 : PySem.W.nsIn K mainGlobals "sorted" = some none) (z10 : PySem.W.nsIn K mainGlobals "set" = some none) (z11 : PySem.W.nsIn K mainGlobals "ValueError" = some none)
    (m0 : PySem.W.nsIn K mainGlobals "MOST_LETTERS" = some (some (.int 6 t0))) (m1 : PySem.W.nsIn K mainGlobals "GREATEST" = some (some (.int 999999 t1))) (m2 : PySem.W.nsIn K mainGlobals "MOST_DOORS" = some (some (.int 5 t2))) (m3 : PySem.W.nsIn K mainGlobals "MOST_ANSWERS" = some (some (.int 40 t3))) : Txt w K mg :=
  ⟨PySem.W.mg_none_of X G z0, PySem.W.mg_none_of X G z1, PySem.W.mg_none_of X G z2, PySem.W.mg_none_of X G z3, PySem.W.mg_none_of X G z4, PySem.W.mg_none_of X G z5, PySem.W.mg_none_of X G z6, PySem.W.mg_none_of X G z7, PySem.W.mg_none_of X G z8, PySem.W.mg_none_of X G z9, PySem.W.mg_none_of X G z10, PySem.W.mg_none_of X G z11, ⟨_, PySem.W.mg_of X G m0⟩, ⟨_, PySem.W.mg_of X G m1⟩, ⟨_, PySem.W.mg_of X G m2⟩, ⟨_, PySem.W.mg_of X G m3⟩⟩
theorem kit_self {K : PySem.W.Frag} {v : Value} : PySem.W.kitOne K v v = some true := by unfold PySem.W.kitOne; rw [if_pos (beq_self_eq_true _)]
theorem kit_ref {K : PySem.W.Frag} {C D : Addr} {cd : ClassData} {b : Bool} (c : PySem.W.clsIn K D = some cd) (t : PySem.W.typeIn K (.ref D) = some (.type "type")) (s : PySem.W.subIn K (.ref C) (.ref D) = some b) (d : (Value.ref C == Value.ref D) = false) : PySem.W.kitOne K (.ref C) (.ref D) = some b := by
  unfold PySem.W.kitOne PySem.W.kitCls
  rw [if_neg (by rw [d]; exact Bool.false_ne_true)]
  dsimp only
  rw [if_pos (by rw [c, t]; rfl)]
  exact s
theorem kit_ty {K : PySem.W.Frag} {C : Addr} (s : PySem.W.subIn K (.ref C) (.type "ValueError") = some true) : PySem.W.kitOne K (.ref C) (.type "ValueError") = some true := by
  unfold PySem.W.kitOne PySem.W.kitCls
  rw [if_neg (show ¬ ((Value.ref C == Value.type "ValueError") = true) from Bool.false_ne_true)]
  dsimp only
  rw [if_pos (by decide +kernel)]
  exact s
theorem find_none {K : PySem.W.Frag} {C : Addr} {cd : ClassData} {a g : Value} {name : Str} (hc : PySem.W.clsIn K C = some cd) (ha : PySem.W.findIn K (.ref C) name = some (some a)) (hg : PySem.W.specialIn K a "__get__" = some (some g)) (ht : PySem.W.takesIn K a = some true) : PySem.W.findObj K C none name = some (.bind g a) := by
  unfold PySem.W.findObj
  rw [hc, Option.bind_some, ha, Option.bind_some]
  simp [hg, ht]
theorem cls_mk {K : PySem.W.Frag} {h : Heap} {mg : Str → Option Value} {R C1 C2 C3 C4 C5 C6 C7 C8 C9 : Addr} {cdR cd1 cd2 cd3 cd4 cd5 cd6 cd7 cd8 cd9 : ClassData} (X : K.In h) (G : h.Ns mainGlobals mg)
    (n0 : PySem.W.nsIn K mainGlobals "RunError" = some (some (.ref R))) (n1 : PySem.W.nsIn K mainGlobals "NoProgram" = some (some (.ref C1))) (n2 : PySem.W.nsIn K mainGlobals "NoRow" = some (some (.ref C2))) (n3 : PySem.W.nsIn K mainGlobals "TooLong" = some (some (.ref C3))) (n4 : PySem.W.nsIn K mainGlobals "NoWorld" = some (some (.ref C4))) (n5 : PySem.W.nsIn K mainGlobals "NoText" = some (some (.ref C5))) (n6 : PySem.W.nsIn K mainGlobals "NoStep" = some (some (.ref C6))) (n7 : PySem.W.nsIn K mainGlobals "NoCell" = some (some (.ref C7))) (n8 : PySem.W.nsIn K mainGlobals "NoDoor" = some (some (.ref C8))) (n9 : PySem.W.nsIn K mainGlobals "NoWord" = some (some (.ref C9)))
    (e1 : PySem.W.excIn K C4 mroVE "ValueError.__new__" = true) (a1 : PySem.W.findIn K (.ref C4) "__getattribute__" = some (some (.builtin "BaseException.__getattribute__"))) (a2 : PySem.W.findIn K (.ref C4) "__getattr__" = some none) (b1 : PySem.W.findIn K (.ref C4) "__class__" = some (some (.builtin "object.__class__"))) (b2 : PySem.W.specialIn K (.builtin "object.__class__") "__get__" = some (some (.builtin "getset_descriptor.__get__"))) (b3 : PySem.W.takesIn K (.builtin "object.__class__") = some true) (a4 : PySem.W.mroIn K C4 (.type "object") = some true) (a5 : PySem.W.subIn K (.ref C4) (.type "BaseException") = some true) (h1 : PySem.W.typeIn K (.ref R) = some (.type "type")) (h2 : PySem.W.clsIn K R = some cdR) (h3 : PySem.W.subIn K (.ref R) (.type "BaseException") = some true) (su : PySem.W.subIn K (.ref C4) (.ref R) = some true) (c1 : PySem.W.clsIn K C1 = some cd1) (t1 : PySem.W.typeIn K (.ref C1) = some (.type "type")) (s1 : PySem.W.subIn K (.ref C4) (.ref C1) = some false) (d1 : (Value.ref C4 == Value.ref C1) = false) (c2 : PySem.W.clsIn K C2 = some cd2) (t2 : PySem.W.typeIn K (.ref C2) = some (.type "type")) (s2 : PySem.W.subIn K (.ref C4) (.ref C2) = some false) (d2 : (Value.ref C4 == Value.ref C2) = false) (c3 : PySem.W.clsIn K C3 = some cd3) (t3 : PySem.W.typeIn K (.ref C3) = some (.type "type")) (s3 : PySem.W.subIn K (.ref C4) (.ref C3) = some false) (d3 : (Value.ref C4 == Value.ref C3) = false) (c4 : PySem.W.clsIn K C4 = some cd4) (c5 : PySem.W.clsIn K C5 = some cd5) (t5 : PySem.W.typeIn K (.ref C5) = some (.type "type")) (s5 : PySem.W.subIn K (.ref C4) (.ref C5) = some false) (d5 : (Value.ref C4 == Value.ref C5) = false) (c6 : PySem.W.clsIn K C6 = some cd6) (t6 : PySem.W.typeIn K (.ref C6) = some (.type "type")) (s6 : PySem.W.subIn K (.ref C4) (.ref C6) = some false) (d6 : (Value.ref C4 == Value.ref C6) = false) (c7 : PySem.W.clsIn K C7 = some cd7) (t7 : PySem.W.typeIn K (.ref C7) = some (.type "type")) (s7 : PySem.W.subIn K (.ref C4) (.ref C7) = some false) (d7 : (Value.ref C4 == Value.ref C7) = false) (c8 : PySem.W.clsIn K C8 = some cd8) (t8 : PySem.W.typeIn K (.ref C8) = some (.type "type")) (s8 : PySem.W.subIn K (.ref C4) (.ref C8) = some false) (d8 : (Value.ref C4 == Value.ref C8) = false) (c9 : PySem.W.clsIn K C9 = some cd9) (t9 : PySem.W.typeIn K (.ref C9) = some (.type "type")) (s9 : PySem.W.subIn K (.ref C4) (.ref C9) = some false) (d9 : (Value.ref C4 == Value.ref C9) = false) (sv : PySem.W.subIn K (.ref C4) (.type "ValueError") = some true) : Cls K mg R C1 C2 C3 C4 C5 C6 C7 C8 C9 :=
  ⟨PySem.W.mg_of X G n0, PySem.W.mg_of X G n1, PySem.W.mg_of X G n2, PySem.W.mg_of X G n3, PySem.W.mg_of X G n4, PySem.W.mg_of X G n5, PySem.W.mg_of X G n6, PySem.W.mg_of X G n7, PySem.W.mg_of X G n8, PySem.W.mg_of X G n9, e1, ⟨a1, a2, find_none c4 b1 b2 b3, a4, a5⟩, by rw [c4]; rfl, ⟨h1, by rw [h2]; rfl, h3⟩, su, kit_ref c1 t1 s1 d1, kit_ref c2 t2 s2 d2, kit_ref c3 t3 s3 d3, kit_self, kit_ref c5 t5 s5 d5, kit_ref c6 t6 s6 d6, kit_ref c7 t7 s7 d7, kit_ref c8 t8 s8 d8, kit_ref c9 t9 s9 d9, kit_ty sv⟩
theorem walk {l : PySem.W.OpenLaw} {q : Program} {loose : List Str} {XP : (Str → Option Value) → Heap → Prop} {YP : World → Heap → Prop} {d : DefRec} {K : Params → PySem.W.Frag} (hn : l.most = some 63) (hdf : d.params.defaults = [])
    (hY : ∀ (w : World) (h : Heap), YP w h → (K w.params).In h)
    (F : ∀ (w : World) (mg : Str → Option Value) (fa : Addr) (h : Heap), (K w.params).In h → h.Ns mainGlobals mg → mg d.name = some (.ref fa) →
      ∃ fd : FuncData, (∀ (s : Shared) (u : Value), BindsTo s fd ⟨[u], []⟩ [("_law_script", u)]) ∧ ∀ base : Heap, (K w.params).In base → base.Ns mainGlobals mg → FnOk l.prog w (K w.params) mg base CX0 9 fa fd ["_law_script"] (spLaw (K w.params))) :
    PySem.W.WalkO q loose XP YP l.row.toRowW d [] (fun f vs => PySem.call f vs) :=
  L2.walk_of (n := 63) (k := 9) (x := "_law_script") (CX := fun _ => CX0) (sp := fun w => spLaw (K w.params)) hn (by decide) hdf ⟨rfl, by decide, by decide⟩ hY F (fun _ _ a ns hl _ hS => ⟨a, ns, rfl, hS, fun _ => rfl⟩) fun _ _ _ _ _ z => z
end K03

set_option Elab.async false
set_option linter.all false
open PySem PySem.W PyProof.Rows
theorem PySem.W.Fast.tw1475462191591068410 : True := True.intro
theorem PySem.W.Fast.tw6467549863436836077 : True := True.intro
theorem PySem.W.Fast.tw17422584856375584272 : True := True.intro
theorem PySem.W.Fast.tw8216912315797617806 : True := True.intro
theorem PySem.W.Fast.tw17790174159384272670 : True := True.intro
theorem PySem.W.Fast.tw529521609735806478 : True := True.intro
theorem PySem.W.Fast.tw12265165136401100439 : True := True.intro
theorem PySem.W.Fast.tw4019225975042373771 : True := True.intro
theorem PySem.W.Fast.tw11602617033341866555 : True := True.intro
set_option maxRecDepth 100000 in
set_option maxHeartbeats 0 in
theorem PySem.Challenge.cw_retrace_k03_worlds_holds : PySem.Challenge.rw_retrace_k03_worlds.Holds := by
  w_on; o_law; k_head; (case hw => w_witness2)
  k_fill
  refine K03.walk (l := PySem.Challenge.rw_retrace_k03_worlds) rfl rfl (fun w h Y => PySem.W.kIn_of Y) ?F
  case F =>
    intro w mg fa h KX G hmg
    refine' K03.law_mk KX G hmg ?T ?Z ?S14 ?S15 ?S16 ?S20 ?S21 ?S22 ?S23 ?S24 ?S26 ?S27 ?S28 ?S29 ?S30 ?S31 ?S34 ?S35 ?S36 ?S37 ?S38 ?S39 ?a3 ?l3 ?c3 ?k3
    (case a3 => k_is); (case l3 => k_is); (case c3 => k_is); (case k3 => k_is)
    (case S14 => refine' K03.src_mk KX G K03.bi14 ?a ?l ?c ?k; (case a => k_is); (case l => k_is); (case c => k_is); (case k => k_is))
    (case S15 => refine' K03.src_mk KX G K03.bi15 ?a ?l ?c ?k; (case a => k_is); (case l => k_is); (case c => k_is); (case k => k_is))
    (case S16 => refine' K03.src_mk KX G K03.bi16 ?a ?l ?c ?k; (case a => k_is); (case l => k_is); (case c => k_is); (case k => k_is))
    (case S20 => refine' K03.src_mk KX G K03.bi20 ?a ?l ?c ?k; (case a => k_is); (case l => k_is); (case c => k_is); (case k => k_is))
    (case S21 => refine' K03.src_mk KX G K03.bi21 ?a ?l ?c ?k; (case a => k_is); (case l => k_is); (case c => k_is); (case k => k_is))
    (case S22 => refine' K03.src_mk KX G K03.bi22 ?a ?l ?c ?k; (case a => k_is); (case l => k_is); (case c => k_is); (case k => k_is))
    (case S23 => refine' K03.src_mk KX G K03.bi23 ?a ?l ?c ?k; (case a => k_is); (case l => k_is); (case c => k_is); (case k => k_is))
    (case S24 => refine' K03.src_mk KX G K03.bi24 ?a ?l ?c ?k; (case a => k_is); (case l => k_is); (case c => k_is); (case k => k_is))
    (case S26 => refine' K03.src_mk KX G K03.bi26 ?a ?l ?c ?k; (case a => k_is); (case l => k_is); (case c => k_is); (case k => k_is))
    (case S27 => refine' K03.src_mk KX G K03.bi27 ?a ?l ?c ?k; (case a => k_is); (case l => k_is); (case c => k_is); (case k => k_is))
    (case S28 => refine' K03.src_mk KX G K03.bi28 ?a ?l ?c ?k; (case a => k_is); (case l => k_is); (case c => k_is); (case k => k_is))
    (case S29 => refine' K03.src_mk KX G K03.bi29 ?a ?l ?c ?k; (case a => k_is); (case l => k_is); (case c => k_is); (case k => k_is))
    (case S30 => refine' K03.src_mk KX G K03.bi30 ?a ?l ?c ?k; (case a => k_is); (case l => k_is); (case c => k_is); (case k => k_is))
    (case S31 => refine' K03.src_mk KX G K03.bi31 ?a ?l ?c ?k; (case a => k_is); (case l => k_is); (case c => k_is); (case k => k_is))
    (case S34 => refine' K03.src_mk KX G K03.bi34 ?a ?l ?c ?k; (case a => k_is); (case l => k_is); (case c => k_is); (case k => k_is))
    (case S35 => refine' K03.src_mk KX G K03.bi35 ?a ?l ?c ?k; (case a => k_is); (case l => k_is); (case c => k_is); (case k => k_is))
    (case S36 => refine' K03.src_mk KX G K03.bi36 ?a ?l ?c ?k; (case a => k_is); (case l => k_is); (case c => k_is); (case k => k_is))
    (case S37 => refine' K03.src_mk KX G K03.bi37 ?a ?l ?c ?k; (case a => k_is); (case l => k_is); (case c => k_is); (case k => k_is))
    (case S38 => refine' K03.src_mk KX G K03.bi38 ?a ?l ?c ?k; (case a => k_is); (case l => k_is); (case c => k_is); (case k => k_is))
    (case S39 => refine' K03.src_mk KX G K03.bi39 ?a ?l ?c ?k; (case a => k_is); (case l => k_is); (case c => k_is); (case k => k_is))
    (case T =>
      refine' K03.txt_mk KX G ?z0 ?z1 ?z2 ?z3 ?z4 ?z5 ?z6 ?z7 ?z8 ?z9 ?z10 ?z11 ?m0 ?m1 ?m2 ?m3
      (case z0 => k_is); (case z1 => k_is); (case z2 => k_is); (case z3 => k_is); (case z4 => k_is); (case z5 => k_is); (case z6 => k_is); (case z7 => k_is); (case z8 => k_is); (case z9 => k_is); (case z10 => k_is); (case z11 => k_is); (case m0 => k_is); (case m1 => k_is); (case m2 => k_is); (case m3 => k_is))
    (case Z =>
      refine' K03.cls_mk KX G ?n0 ?n1 ?n2 ?n3 ?n4 ?n5 ?n6 ?n7 ?n8 ?n9 ?e1 ?a1 ?a2 ?b1 ?b2 ?b3 ?a4 ?a5 ?h1 ?h2 ?h3 ?su ?c1 ?t1 ?s1 ?d1 ?c2 ?t2 ?s2 ?d2 ?c3 ?t3 ?s3 ?d3 ?c4 ?c5 ?t5 ?s5 ?d5 ?c6 ?t6 ?s6 ?d6 ?c7 ?t7 ?s7 ?d7 ?c8 ?t8 ?s8 ?d8 ?c9 ?t9 ?s9 ?d9 ?sv
      (case n0 => k_is); (case n1 => k_is); (case n2 => k_is); (case n3 => k_is); (case n4 => k_is); (case n5 => k_is); (case n6 => k_is); (case n7 => k_is); (case n8 => k_is); (case n9 => k_is); (case e1 => k_exc); (case a1 => k_is); (case a2 => k_is); (case b1 => k_is); (case b2 => k_is); (case b3 => k_is); (case a4 => k_is); (case a5 => k_is); (case h1 => k_is); (case h2 => k_is); (case h3 => k_is); (case su => k_is); (case c1 => k_is); (case t1 => k_is); (case s1 => k_is); (case d1 => decide); (case c2 => k_is); (case t2 => k_is); (case s2 => k_is); (case d2 => decide); (case c3 => k_is); (case t3 => k_is); (case s3 => k_is); (case d3 => decide); (case c4 => k_is); (case c5 => k_is); (case t5 => k_is); (case s5 => k_is); (case d5 => decide); (case c6 => k_is); (case t6 => k_is); (case s6 => k_is); (case d6 => decide); (case c7 => k_is); (case t7 => k_is); (case s7 => k_is); (case d7 => decide); (case c8 => k_is); (case t8 => k_is); (case s8 => k_is); (case d8 => decide); (case c9 => k_is); (case t9 => k_is); (case s9 => k_is); (case d9 => decide); (case sv => k_is))

