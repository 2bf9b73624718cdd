import PyProof.Rows.All
import Wide.All
import OpenK.AllK
import Wide.FinOn
import Lean
import PyProof.EqAt
import PyProof.EqKinds
import PyProof.TupleCall
import PySem.Challenge.RW_retrace_k10_written
set_option Elab.async false
set_option linter.all false
set_option maxRecDepth 100000
/-! THE HAND LAYER, for ints, bools, texts, own classes, LISTS and tuples (index, slices, in, append, pop ..), calls, loops. Paste it whole ahead of your own text; what your proof does not reach may be deleted. -/
namespace L2
open PySem PySem.Spec PyProof.Rows

/-- a key: an int or a str -/
abbrev Key := Sum Int Str
def keyIs : Key → Value → Bool
  | .inl k, v => Value.isInt k v
  | .inr x, v => Value.isStrOf x v
def keyH (w : World) : Key → Int
  | .inl k => hashInt k
  | .inr x => hashStr w x
theorem keyIs_shape : ∀ {k : Key} {v : Value}, keyIs k v = true → (∃ i t, k = Sum.inl i ∧ v = Value.int i t) ∨ (∃ x t, k = Sum.inr x ∧ v = Value.str x t)
  | .inl i, v, h => by
    obtain ⟨t, e⟩ := Value.isInt_shape (k := i) (v := v) h
    exact .inl ⟨i, t, rfl, e⟩
  | .inr x, v, h => by
    obtain ⟨t, e⟩ := Value.isStrOf_shape (x := x) (v := v) h
    exact .inr ⟨x, t, rfl, e⟩
theorem keyIs_str (x : Str) (t : Tok) : keyIs (.inr x) (.str x t) = true := by simp [keyIs, Value.isStrOf]
theorem key_ll (a b : Int) : decide ((Sum.inl a : Key) = Sum.inl b) = (a == b) := by
  by_cases e : a = b
  · subst e; simp
  · have h : ¬ (Sum.inl a : Key) = Sum.inl b := fun q => e (Sum.inl.inj q)
    rw [decide_eq_false h]
    exact (beq_eq_false_iff_ne.mpr e).symm
theorem key_rr (a b : Str) : decide ((Sum.inr a : Key) = Sum.inr b) = decide (a = b) := by
  by_cases e : a = b
  · subst e; simp
  · have h : ¬ (Sum.inr a : Key) = Sum.inr b := fun q => e (Sum.inr.inj q)
    rw [decide_eq_false h, decide_eq_false e]
theorem key_lr (a : Int) (b : Str) : decide ((Sum.inl a : Key) = Sum.inr b) = false := decide_eq_false (fun q => nomatch q)
theorem key_rl (a : Str) (b : Int) : decide ((Sum.inr a : Key) = Sum.inl b) = false := decide_eq_false (fun q => nomatch q)

def mixKind (prog : Program) (w : World) : PySem.KeyKind prog w Key where
  is := keyIs
  hash := keyH w
  inj := fun v a b ha hb => by
    rcases keyIs_shape ha with ⟨i, t, rfl, rfl⟩ | ⟨x, t, rfl, rfl⟩
    · rcases keyIs_shape hb with ⟨j, u, rfl, e⟩ | ⟨y, u, rfl, e⟩
      · injection e with e1 _; rw [e1]
      · exact nomatch e
    · rcases keyIs_shape hb with ⟨j, u, rfl, e⟩ | ⟨y, u, rfl, e⟩
      · exact nomatch e
      · injection e with e1 _; rw [e1]
  byValue := fun k v h => by
    rcases keyIs_shape h with ⟨i, t, rfl, rfl⟩ | ⟨x, t, rfl, rfl⟩ <;> rfl
  pyHash := fun hv h => by
    rcases keyIs_shape hv with ⟨i, t, rfl, rfl⟩ | ⟨x, t, rfl, rfl⟩
    · exact wpAny_pyHash_int h
    · exact wpAny_pyHash_str h
  eqBool := fun hu hv h => by
    rcases keyIs_shape hu with ⟨i, t, rfl, rfl⟩ | ⟨x, t, rfl, rfl⟩
    · rcases keyIs_shape hv with ⟨j, u, rfl, rfl⟩ | ⟨y, u, rfl, rfl⟩
      · rw [key_ll] at h; exact wpAny_eqBool_int h
      · rw [key_lr] at h; exact SeqAt.EqAt.int_str i t y u _ _ _ _ h
    · rcases keyIs_shape hv with ⟨j, u, rfl, rfl⟩ | ⟨y, u, rfl, rfl⟩
      · rw [key_rl] at h; exact SeqAt.EqAt.str_int x t j u _ _ _ _ h
      · rw [key_rr] at h; exact wpAny_eqBool_str h
  «strs» := fun k x t v h => by
    rcases keyIs_shape h with ⟨i, u, rfl, e⟩ | ⟨y, u, rfl, e⟩
    · exact nomatch e
    · injection e with e1 _
      subst e1
      cases v <;> rfl

theorem mixKind_str (prog : Program) (w : World) (x : Str) (t : Tok) : (mixKind prog w).is (.inr x) (.str x t) = true := keyIs_str x t
end L2

namespace L2
open PySem PySem.Spec PyProof.Rows

/-- a value, without the heap -/
inductive V where
  | non | bl (b : Bool) | int (i : Int) | str (x : Str) | byt (b : Array UInt8) | flt (b : UInt64) | ref (a : Addr) | ty (n : String)
  deriving DecidableEq

def RelV : V → Value → Prop
  | .non, u => u = Value.none
  | .bl b, u => u = Value.bool b
  | .int i, u => ∃ t, u = Value.int i t
  | .str x, u => ∃ t, u = Value.str x t
  | .byt b, u => ∃ t, u = Value.bytes b t
  | .flt b, u => ∃ t, u = Value.float b t
  | .ref a, u => u = Value.ref a
  | .ty n, u => u = Value.type n

abbrev Vals : List V → List Value → Prop := Paired RelV
theorem Vals.length {xs : List V} {us : List Value} (r : Vals xs us) : xs.length = us.length := Paired.length r
theorem Vals.get : ∀ {xs : List V} {us : List Value} {i : Nat} {x : V}, Vals xs us → xs[i]? = some x → ∃ u, us[i]? = some u ∧ RelV x u
  | _, _, _, _, .nil, e => by simp at e
  | _, _, 0, _, .cons r _, e => by simp at e; subst e; exact ⟨_, rfl, r⟩
  | _, _, i + 1, x, .cons _ t, e => by
    obtain ⟨u, h1, h2⟩ := Vals.get (i := i) (x := x) t (by simpa using e)
    exact ⟨u, by simpa using h1, h2⟩
theorem Vals.set {x : V} {u : Value} (r : RelV x u) : ∀ {xs : List V} {us : List Value} (i : Nat), Vals xs us → Vals (xs.set i x) (us.set i u)
  | _, _, _, .nil => .nil
  | _, _, 0, .cons _ t => .cons r t
  | _, _, i + 1, .cons q t => .cons q (Vals.set r i t)
theorem Vals.append : ∀ {xs ys : List V} {us ws : List Value}, Vals xs us → Vals ys ws → Vals (xs ++ ys) (us ++ ws)
  | _, _, _, _, .nil, s => s
  | _, _, _, _, .cons r t, s => .cons r (Vals.append t s)
theorem Vals.take : ∀ {xs : List V} {us : List Value} (n : Nat), Vals xs us → Vals (xs.take n) (us.take n)
  | _, _, 0, _ => .nil
  | _, _, _ + 1, .nil => .nil
  | _, _, n + 1, .cons r t => .cons r (Vals.take n t)
theorem Vals.drop : ∀ {xs : List V} {us : List Value} (n : Nat), Vals xs us → Vals (xs.drop n) (us.drop n)
  | _, _, 0, r => r
  | _, _, _ + 1, .nil => .nil
  | _, _, n + 1, .cons _ t => Vals.drop n t
def RelO : Option V → Option Value → Prop
  | some v, some u => RelV v u
  | none, none => True
  | _, _ => False
def KV {κ : Type} : List (κ × V) → List (κ × Value) → Prop := Paired fun (p : κ × V) (q : κ × Value) => p.1 = q.1 ∧ RelV p.2 q.2

/-- a key of a dict (00_mix): an int or a text -/
def kV : Key → V
  | .inl i => .int i
  | .inr x => .str x

/-- what stands at a tracked address -/
inductive HO where
  /-- a list -/
  | lst (xs : List V)
  /-- a tuple (never changes) -/
  | tup (xs : List V)
  /-- a dict whose keys are ints and texts; one whose keys are tuples of ints and texts (the empty one is both) -/
  | dK (kvs : List (Key × V)) | dT (kvs : List (List Key × V))
  /-- a set of ints: its members, its size -/
  | set (S : Int → Bool) (n : Nat)
  /-- an instance of the class at C, its dict at dx, its attributes -/
  | ins (C dx : Addr) (fs : List (Str × V))
  /-- the dict of the instance at x -/
  | own (x : Addr)
  /-- the dict of an exception -/
  | xd (fs : List (Str × V))
  /-- a bound method, f of x -/
  | met (f x : Addr)
  /-- a range object lo, lo + 1, .. below hi -/
  | rng (lo hi : Int)
  /-- a thing that is known to the object (the script; a dict while a loop walks it): read, never written while it is so -/
  | frz (o : Obj) (u : HO)
  /-- a code object's table -/
  | tbl (ps : Array Value)
  /-- any other thing, by what is true of its one object (a def of one's own: SetO a S n := HO.ext fun h => ..) -/
  | ext (φ : Heap → Prop)

abbrev Hp := Addr → Option HO
def upd (H : Hp) (a : Addr) (o : HO) : Hp := fun b => if b = a then some o else H b
theorem upd_same {H : Hp} {a : Addr} {o : HO} : upd H a o a = some o := by unfold upd; rw [if_pos rfl]
theorem upd_ne {H : Hp} {a b : Addr} {o : HO} (h : b ≠ a) : upd H a o b = H b := by unfold upd; rw [if_neg h]
/-- two objects of different content stand apart -/
theorem ne_of {H : Hp} {a b : Addr} {o u : HO} (h : H a = some o) (h' : H b = some u) (d : o ≠ u) : a ≠ b := by
  intro e; subst e; rw [h] at h'; exact d (Option.some.inj h')
theorem ne_of_none {H : Hp} {a b : Addr} {o : HO} (h : H a = some o) (h' : H b = none) : a ≠ b := by
  intro e; subst e; rw [h] at h'; cases h'

section
variable (P : Program) (w : World)
def ObjOk (H : Hp) (h : Heap) (a : Addr) : HO → Prop
  | .lst xs => xs.length ≤ sizeLine ∧ ∃ (its : List Value) (n : Nat), Vals xs its ∧ h.get? a = some { cls := .type "list", data := .seq its.toArray n }
  | .tup xs => xs.length ≤ sizeLine ∧ ∃ its : List Value, Vals xs its ∧ IsTup h a its.toArray
  | .dK kvs => kvs.length ≤ sizeLine ∧ (a == sysModules) = false ∧ ∃ vs, KV kvs vs ∧ h.DictOf (mixKind P w) a vs
  | .dT kvs => kvs.length ≤ sizeLine ∧ (a == sysModules) = false ∧ ∃ xs : List (List Key × Addr × Value),
      Paired (fun (p : List Key × V) (q : List Key × Addr × Value) => p.1 = q.1 ∧ H q.2.1 = some (.tup (p.1.map kV)) ∧ RelV p.2 q.2.2) kvs xs ∧
      ∃ o es ep, h.get? a = some o ∧ o.ExactDict ∧ o.data = .dict es ep ∧ es.toList = xs.map (entryOfKey (tupleKind (mixKind P w))) ∧ (xs.map (·.1)).Nodup
  | .set S n => h.SetOf (intKind P w) a S n
  | .ins C dx fs => H dx = some (.own a) ∧ fs.length ≤ 1000 ∧ dx ≠ a ∧ h.get? a = some (PySem.W.instObj C dx) ∧
      ∃ mA, h.Ns1 dx mA ∧ (∀ f, RelO (fs.lookup f) (mA f)) ∧ PySem.Within mA (fs.map (·.1))
  | .own _ => ∃ o, h.get? a = some o
  | .xd fs => ∃ mA, h.Ns1 a mA ∧ ∀ f, RelO (fs.lookup f) (mA f)
  | .rng lo hi => ∃ t u v, h.get? a = some { cls := .type "range", data := .fields #[.int lo t, .int hi u, .int 1 v] }
  | .frz o u => h.get? a = some o ∧ ObjOk H h a u
  | .tbl ps => h.get? a = some { cls := .none, data := .fields ps }
  | .met f x => h.get? a = some (PySem.W.methodObj (.ref f) (.ref x))
  | .ext φ => φ h ∧ (∃ o, h.get? a = some o) ∧ ∀ h1 h2 : Heap, φ h1 → (∀ o, h1.get? a = some o → h2.get? a = some o) → φ h2
/-- the abstract heap is held -/
def HOk (H : Hp) (h : Heap) : Prop := ∀ a o, H a = some o → ObjOk P w H h a o
end

section
variable {P : Program} {w : World} {H H' : Hp} {h h' : Heap} {a : Addr} {o : HO}
theorem ObjOk.lt (x : ObjOk P w H h a o) : a < h.objs.size := by
  cases o with
  | lst xs => obtain ⟨_, _, _, _, e⟩ := x; exact Heap.lt_size e
  | tup xs => obtain ⟨_, _, _, p⟩ := x; exact p.lt
  | dK kvs => obtain ⟨_, _, _, _, o, _, _, e, _⟩ := x; exact Heap.lt_size e
  | dT kvs => obtain ⟨_, _, _, _, o, _, _, e, _⟩ := x; exact Heap.lt_size e
  | set S n => obtain ⟨o, _, _, _, e, _⟩ := x; exact Heap.lt_size e
  | ins C dx fs => obtain ⟨_, _, _, e, _⟩ := x; exact Heap.lt_size e
  | own y => obtain ⟨_, e⟩ := x; exact Heap.lt_size e
  | xd fs => obtain ⟨_, ⟨_, _, _, e, _⟩, _⟩ := x; exact Heap.lt_size e
  | rng lo hi => obtain ⟨_, _, _, e⟩ := x; exact Heap.lt_size e
  | frz ob u => obtain ⟨e, _⟩ := x; exact Heap.lt_size e
  | tbl ps => exact Heap.lt_size (show h.get? a = some _ from x)
  | met f y => exact Heap.lt_size (show h.get? a = some _ from x)
  | ext φ => obtain ⟨_, ⟨_, e⟩, _⟩ := x; exact Heap.lt_size e
theorem Paired.mapP {α β : Type} {F G : α → β → Prop} : ∀ {l₁ : List α} {l₂ : List β}, Paired F l₁ l₂ → (∀ a b, F a b → G a b) → Paired G l₁ l₂
  | _, _, .nil, _ => .nil
  | _, _, .cons r t, f => .cons (f _ _ r) (Paired.mapP t f)
/-- what an object's description leans on: its own object, its own dict, the tuples -/
theorem ObjOk.stay (x : ObjOk P w H h a o) (k : ∀ b u, (b = a ∨ H b = some (.own a)) → h.get? b = some u → h'.get? b = some u)
    (ho : ∀ b, H b = some (.own a) → H' b = some (.own a)) (ht : ∀ b xs, H b = some (.tup xs) → H' b = some (.tup xs)) : ObjOk P w H' h' a o := by
  induction o with
  | lst xs => obtain ⟨z, its, n, r, e⟩ := x; exact ⟨z, its, n, r, k _ _ (.inl rfl) e⟩
  | tup xs => obtain ⟨z, its, r, ob, e, c⟩ := x; exact ⟨z, its, r, ob, k _ _ (.inl rfl) e, c⟩
  | dK kvs => obtain ⟨z, y, vs, r, ob, es, ep, e, c⟩ := x; exact ⟨z, y, vs, r, ob, es, ep, k _ _ (.inl rfl) e, c⟩
  | dT kvs =>
    obtain ⟨z, y, xs, r, ob, es, ep, e, c⟩ := x
    exact ⟨z, y, xs, Paired.mapP r fun p q z => ⟨z.1, ht _ _ z.2.1, z.2.2⟩, ob, es, ep, k _ _ (.inl rfl) e, c⟩
  | set S n => obtain ⟨ob, es, ep, t, e, c⟩ := x; exact ⟨ob, es, ep, t, k _ _ (.inl rfl) e, c⟩
  | ins C dx fs =>
    obtain ⟨d, z, ne, e, mA, ⟨od, es, ep, e2, c⟩, r⟩ := x
    exact ⟨ho _ d, z, ne, k _ _ (.inl rfl) e, mA, ⟨od, es, ep, k _ _ (.inr d) e2, c⟩, r⟩
  | own y => obtain ⟨ob, e⟩ := x; exact ⟨ob, k _ _ (.inl rfl) e⟩
  | xd fs => obtain ⟨mA, ⟨od, es, ep, e, c⟩, r⟩ := x; exact ⟨mA, ⟨od, es, ep, k _ _ (.inl rfl) e, c⟩, r⟩
  | rng lo hi => obtain ⟨t, u, v, e⟩ := x; exact ⟨t, u, v, k _ _ (.inl rfl) e⟩
  | frz ob u ih => obtain ⟨e, q⟩ := x; exact ⟨k _ _ (.inl rfl) e, ih q⟩
  | tbl ps =>
    have e : h.get? a = some { cls := .none, data := .fields ps } := x
    show h'.get? a = some { cls := .none, data := .fields ps }
    exact k a _ (.inl rfl) e
  | met f y =>
    have e : h.get? a = some (PySem.W.methodObj (.ref f) (.ref y)) := x
    show h'.get? a = some (PySem.W.methodObj (.ref f) (.ref y))
    exact k a _ (.inl rfl) e
  | ext φ => obtain ⟨p, ⟨o, e⟩, st⟩ := x; exact ⟨st _ _ p fun o q => k _ _ (.inl rfl) q, ⟨o, k _ _ (.inl rfl) e⟩, st⟩
theorem HOk.lt (x : HOk P w H h) (e : H a = some o) : a < h.objs.size := (x a o e).lt
theorem HOk.fresh (x : HOk P w H h) (e : h.objs.size ≤ a) : H a = none := by
  cases q : H a with
  | none => rfl
  | some u => exact absurd (Nat.lt_of_lt_of_le (x.lt q) e) (Nat.lt_irrefl _)
/-- every object of the heap is kept -/
theorem HOk.kept (x : HOk P w H h) (k : ∀ b u, h.get? b = some u → h'.get? b = some u) : HOk P w H h' := fun a o e =>
  (x a o e).stay (fun b u _ q => k b u q) (fun _ q => q) fun _ _ q => q
/-- a new object is laid and tracked -/
theorem HOk.laid (x : HOk P w H h) (k : ∀ b u, h.get? b = some u → h'.get? b = some u) (hp : h.objs.size ≤ a) (new : ObjOk P w (upd H a o) h' a o) : HOk P w (upd H a o) h' := fun b u e => by
  have hn := x.fresh hp
  by_cases hb : b = a
  · subst hb; rw [upd_same] at e; cases e; exact new
  · rw [upd_ne hb] at e
    exact (x b u e).stay (fun c v _ q => k c v q) (fun c q => by rw [upd_ne (ne_of_none q hn)]; exact q) fun c xs q => by rw [upd_ne (ne_of_none q hn)]; exact q
end

/-- what may be read as u: it is u, or a known u -/
def Rd (H : Hp) (a : Addr) (u : HO) : Prop := H a = some u ∨ ∃ o, H a = some (.frz o u)
theorem Rd.of {H : Hp} {a : Addr} {u : HO} (h : H a = some u) : Rd H a u := .inl h
theorem Rd.ok {P : Program} {w : World} {H : Hp} {h : Heap} {a : Addr} {u : HO} (r : Rd H a u) (x : HOk P w H h) : ObjOk P w H h a u := by
  rcases r with r | ⟨o, r⟩
  · exact x a u r
  · obtain ⟨_, q⟩ := x a _ r
    exact q
/-- what may be written -/
def Mut : Option HO → Prop
  | some (.lst _) => True
  | some (.dK _) => True
  | some (.dT _) => True
  | some (.set _ _) => True
  | some (.ins _ _ _) => True
  | some (.ext _) => True
  | _ => False
section
variable {P : Program} {w : World} {H : Hp} {h h' : Heap} {x e : Addr} {o' : HO}
/-- the object at e is changed: x itself, or the dict of the instance x -/
theorem HOk.write (ok : HOk P w H h) (mu : Mut (H x)) (he : e = x ∨ H e = some (.own x)) (k : ∀ b u, b ≠ e → h.get? b = some u → h'.get? b = some u) (heo : ∃ u, h'.get? e = some u)
    (new : ObjOk P w (upd H x o') h' x o') : HOk P w (upd H x o') h' := fun b u q => by
  have nown : ∀ c y, H c = some (.own y) → c ≠ x := fun c y r z => by subst z; rw [r] at mu; exact mu
  have ntup : ∀ c xs, H c = some (.tup xs) → c ≠ x := fun c xs r z => by subst z; rw [r] at mu; exact mu
  by_cases hb : b = x
  · subst hb; rw [upd_same] at q; cases q; exact new
  · rw [upd_ne hb] at q
    by_cases hbe : b = e
    · have q' : H b = some (.own x) := by
        rcases he with z | z
        · exact absurd (hbe.trans z) hb
        · rw [hbe]; exact z
      rw [q] at q'; cases q'
      obtain ⟨v, hv⟩ := heo
      exact ⟨v, by rw [hbe]; exact hv⟩
    · refine (ok b u q).stay (fun c v hc r => k c v ?_ r) (fun c r => by rw [upd_ne (nown c b r)]; exact r) fun c xs r => by rw [upd_ne (ntup c xs r)]; exact r
      rcases hc with rfl | hc
      · exact hbe
      · rintro rfl
        rcases he with z | z
        · exact nown c b hc z
        · rw [hc] at z; cases z; exact hb rfl
end

/-! ### kept unless tracked; of the frames at fs (the callers') the slots may change (an exception that passes writes there); of the records at ex (iterators) nothing is said -/
structure Un (fs ex : List Addr) (H H' : Hp) (h h' : Heap) : Prop where
  keep : ∀ b o, h.get? b = some o → H b = none → b ∉ fs → b ∉ ex → h'.get? b = some o
  slot : ∀ b o, h.get? b = some o → H b = none → b ∈ fs → b ∉ ex → ∃ sl, h'.get? b = some { o with slots := sl }
  free : ∀ b o, h.get? b = some o → H b = none → b ∉ ex → H' b = none
  there : ∀ b o, h.get? b = some o → b ∉ ex → ∃ o', h'.get? b = some o'
  tups : ∀ b xs, H b = some (.tup xs) → H' b = some (.tup xs)
  frzs : ∀ b o u, H b = some (.frz o u) → H' b = some (.frz o u)
  tbls : ∀ b ps, H b = some (.tbl ps) → ∃ more, H' b = some (.tbl (ps ++ more))
section
variable {fs fs' ex ex' : List Addr} {H H1 H2 : Hp} {h h1 h2 h' : Heap} {a x e : Addr} {o : HO}
theorem Un.any (u : Un fs ex H H1 h h1) {b : Addr} {ob : Obj} (q : h.get? b = some ob) (n : H b = none) (hx : b ∉ ex) : ∃ sl, h1.get? b = some { ob with slots := sl } := by
  by_cases hb : b ∈ fs
  · exact u.slot b ob q n hb hx
  · exact ⟨ob.slots, u.keep b ob q n hb hx⟩
theorem Un.trans (a : Un fs ex H H1 h h1) (b : Un fs ex H1 H2 h1 h2) : Un fs ex H H2 h h2 where
  keep := fun c ob q n hc hx => b.keep c ob (a.keep c ob q n hc hx) (a.free c ob q n hx) hc hx
  slot := fun c ob q n hc hx => by
    obtain ⟨sl, e1⟩ := a.slot c ob q n hc hx
    obtain ⟨sl', e2⟩ := b.slot c _ e1 (a.free c ob q n hx) hc hx
    exact ⟨sl', e2⟩
  free := fun c ob q n hx => by
    obtain ⟨o', e1⟩ := a.there c ob q hx
    exact b.free c o' e1 (a.free c ob q n hx) hx
  there := fun c ob q hx => by
    obtain ⟨o', e1⟩ := a.there c ob q hx
    exact b.there c o' e1 hx
  tups := fun c xs q => b.tups c xs (a.tups c xs q)
  frzs := fun c ob xs q => b.frzs c ob xs (a.frzs c ob xs q)
  tbls := fun c ps q => by
    obtain ⟨m1, e1⟩ := a.tbls c ps q
    obtain ⟨m2, e2⟩ := b.tbls c _ e1
    exact ⟨m1 ++ m2, by rw [e2, Array.append_assoc]⟩
theorem Un.kept (k : ∀ b u, h.get? b = some u → h'.get? b = some u) : Un fs ex H H h h' :=
  ⟨fun b ob q _ _ _ => k b ob q, fun b ob q _ _ _ => ⟨ob.slots, k b ob q⟩, fun _ _ _ n _ => n, fun b ob q _ => ⟨ob, k b ob q⟩, fun _ _ q => q, fun _ _ _ q => q, fun _ ps q => ⟨#[], by rw [q]; simp⟩⟩
theorem Un.refl : Un fs ex H H h h := Un.kept fun _ _ q => q
theorem Un.laid (k : ∀ b u, h.get? b = some u → h'.get? b = some u) (hp : h.objs.size ≤ a) (hn : H a = none) : Un fs ex H (upd H a o) h h' where
  keep := fun b u q _ _ _ => k b u q
  slot := fun b u q _ _ _ => ⟨u.slots, k b u q⟩
  free := fun b u q n _ => by rw [upd_ne (Nat.ne_of_lt (Nat.lt_of_lt_of_le (Heap.lt_size q) hp))]; exact n
  there := fun b u q _ => ⟨u, k b u q⟩
  tups := fun b xs q => by rw [upd_ne (ne_of_none q hn)]; exact q
  frzs := fun b u xs q => by rw [upd_ne (ne_of_none q hn)]; exact q
  tbls := fun b ps q => ⟨#[], by rw [upd_ne (ne_of_none q hn), q]; simp⟩
theorem Un.write (mu : Mut (H x)) (he : e = x ∨ H e = some (.own x)) (k : ∀ b u, b ≠ e → h.get? b = some u → h'.get? b = some u) (heo : ∃ u, h'.get? e = some u) : Un fs ex H (upd H x o) h h' := by
  have hx : ∀ b, H b = none → b ≠ x := fun b n z => by subst z; rw [n] at mu; exact mu
  have hb : ∀ b, H b = none → b ≠ e := fun b n z => by
    subst z
    rcases he with r | r
    · exact hx b n r
    · rw [n] at r; cases r
  have hm : ∀ b u, H b = some u → ¬ Mut (some u) → b ≠ x := fun b u q nm z => by subst z; rw [q] at mu; exact nm mu
  refine ⟨fun b u q n _ _ => k b u (hb b n) q, fun b u q n _ _ => ⟨u.slots, k b u (hb b n) q⟩, fun b u q n _ => by rw [upd_ne (hx b n)]; exact n, fun b u q _ => ?_,
    fun b xs q => by rw [upd_ne (hm b _ q fun z => z)]; exact q, fun b u xs q => by rw [upd_ne (hm b _ q fun z => z)]; exact q, fun b ps q => ⟨#[], by rw [upd_ne (hm b _ q fun z => z), q]; simp⟩⟩
  by_cases hbe : b = e
  · subst hbe; exact heo
  · exact ⟨u, k b u hbe q⟩
theorem Un.mono (u : Un fs ex H H1 h h1) (hs : ∀ b ∈ fs, b ∈ fs') (hx : ∀ b ∈ ex, b ∈ ex') : Un fs' ex' H H1 h h1 :=
  ⟨fun b ob q n hb he => u.keep b ob q n (fun z => hb (hs b z)) fun z => he (hx b z), fun _ _ q n _ he => u.any q n fun z => he (hx _ z), fun b ob q n he => u.free b ob q n fun z => he (hx b z), fun b ob q he => u.there b ob q fun z => he (hx b z), u.tups, u.frzs, u.tbls⟩
end

/-! ### the heap without what is tracked -/
def trk (h : Heap) (H : Hp) : List Addr := (List.range h.objs.size).filter fun a => (H a).isSome
def hidT (h : Heap) (H : Hp) : Heap := PySem.W.hideAll h (trk h H)
theorem hidT_size (h : Heap) (H : Hp) : (hidT h H).objs.size = h.objs.size := PySem.W.hideAll_size _ _
theorem hidT_get {h : Heap} {H : Hp} {b : Addr} {o : Obj} (e : h.get? b = some o) (n : H b = none) : (hidT h H).get? b = some o :=
  PySem.W.hideAll_get _ e fun hm => by
    have q : (H b).isSome = true := (List.mem_filter.mp hm).2
    rw [n] at q; simp at q
theorem of_hidT {h : Heap} {H : Hp} {b : Addr} {o : Obj} (e : (hidT h H).get? b = some o) : h.get? b = some o ∧ H b = none := by
  have e' : h.get? b = some o := PySem.W.of_hideAll (trk h H) e
  refine ⟨e', ?_⟩
  cases q : H b with
  | none => rfl
  | some x =>
    have hm : b ∈ trk h H := List.mem_filter.mpr ⟨List.mem_range.mpr (Heap.lt_size e'), by simp [q]⟩
    have z : (hidT h H).get? b = none := PySem.W.hideAll_none (trk h H) hm
    rw [z] at e; cases e

/-! ### OpenK's ledger, filled with every new object but one -/
def allNews (g h : Heap) (L : Addr) : List (Addr × Obj) := (List.range h.objs.size).filterMap fun a => if a = L ∨ (g.get? a).isSome = true then none else (h.get? a).map fun o => (a, o)
def rest (g h : Heap) (L d : Addr) : List (Addr × Obj) := (allNews g h L).filter fun p => decide (p.1 ≠ d)
end L2

namespace L2
open PySem PySem.Spec PyProof.Rows

/-- the module's facts, over the base: the heap at the law's entry without what is tracked there -/
structure Mod (K : PySem.W.Frag) (mg : Str → Option Value) (base : Heap) : Prop where
  kin : K.In base
  glob : base.Ns mainGlobals mg
  blt : ∃ mb, base.Ns builtinsNs mb ∧ ∀ x : Str, x ≠ "__name__" → mb x = bootBuiltins x
  nolimit : base.NoLimit

/-- the context: a def's body (or a comprehension's block) running. base: fixed through the whole law; s₀, H₀: the entry; outer: the frames whose slots others may change (a def's callers); stack: all frames that run;
   ex: iterators that were made ahead of the entry and are walked here (a comprehension's); fn: the names whose cells were made at the entry (a def: all; a comprehension's block: its own); calm: not within an except suite; pn: pins that every state bears; xe: what is wanted of an exception that leaves the code -/
structure Cx where
  prog : Program
  w : World
  K : PySem.W.Frag
  mg : Str → Option Value
  base : Heap
  A : Around
  N : List Str
  s₀ : Shared
  H₀ : Hp
  env : Env
  outer : List Env
  stack : List Env
  ex : List Addr
  fn : Str → Bool
  calm : Bool
  pn : List (Addr × Obj)
  xe : Value → Shared → Prop
/-- the callers' frames -/
def frs (l : List Env) : List Addr := l.filterMap (·.frame)
abbrev Cx.fs (X : Cx) : List Addr := frs X.outer

def Vis (sc : Scope) (x : Str) : Prop := sc.names.lookup x = some .local ∨ sc.names.lookup x = some .cell ∨ sc.names.lookup x = some .free
def Loc (sc : Scope) (x : Str) : Prop := sc.names.lookup x = some .local ∨ sc.names.lookup x = some .cell
def Look (env : Env) (h : Heap) (m : Str → Option Value) (x : Str) (u : Value) : Prop :=
  (env.kindOf x = some .local ∧ m x = some u) ∨ ((env.kindOf x = some .cell ∨ env.kindOf x = some .free) ∧ ∃ c, env.cells.lookup x = some c ∧ h.IsCell c (some u))

structure Cx.Ok (X : Cx) : Prop where
  mod : Mod X.K X.mg X.base
  kind : X.env.scope.kind = .function
  glob : X.env.globals = mainGlobals
  blt : X.env.builtins = builtinsNs
  above : X.s₀.heap.objs.size ≤ X.env.locals
  inj : ∀ x y c, X.env.cells.lookup x = some c → X.env.cells.lookup y = some c → x = y
  has : ∀ x, (X.env.kindOf x = some .cell ∨ X.env.kindOf x = some .free) → ∃ c, X.env.cells.lookup x = some c
  cab : ∀ x c, X.fn x = true → X.env.cells.lookup x = some c → X.s₀.heap.objs.size ≤ c
  hd : X.calm = true → X.A.handled = none
  frames : X.A.frames = some X.stack
  stk : X.stack = X.outer ∨ (X.stack = X.env :: X.outer ∧ X.env.frame = some X.env.locals)
  exf : ∀ b ∈ X.ex, b ≠ X.env.locals ∧ ∀ x c, X.env.cells.lookup x = some c → c ≠ b
  bs : ∀ b o, X.base.get? b = some o → X.s₀.heap.get? b = some o ∧ X.H₀ b = none
  bsz : X.base.objs.size ≤ X.s₀.heap.objs.size
  noex : ∀ b o, X.base.get? b = some o → b ∉ X.ex
  exfs : ∀ b ∈ X.ex, b ∉ X.fs
  funs : X.s₀.heap.FunFrames X.base X.outer
  frf : ∀ b ∈ X.fs, X.H₀ b = none

structure Inv (X : Cx) (pins : List (Addr × Obj)) (σ : List (Option V)) (H : Hp) (s : Shared) : Prop where
  ok : X.Ok
  os : s.os = X.s₀.os
  bare : AllBare s.gens
  base : Un X.fs X.ex X.H₀ H X.s₀.heap s.heap
  loc : ∃ m, s.heap.Ns X.env.locals m ∧ ∀ (i : Nat) (x : Str) (v : V), X.N[i]? = some x → σ[i]? = some (some v) → Vis X.env.scope x → ∃ u, RelV v u ∧ Look X.env s.heap m x u
  cell : ∀ x c, X.env.cells.lookup x = some c → ∃ v, s.heap.IsCell c v
  free : H X.env.locals = none
  freeC : ∀ x c, X.env.cells.lookup x = some c → H c = none
  pin : ∀ p ∈ X.pn ++ pins, s.heap.get? p.1 = some p.2 ∧ H p.1 = none ∧ p.1 ≠ X.env.locals ∧ p.1 ∉ X.fs ∧ ∀ v, p.2.data ≠ .cell v
  hok : HOk X.prog X.w H s.heap
  len : σ.length = X.N.length

section
variable {X : Cx} {pins : List (Addr × Obj)} {σ : List (Option V)} {H H' : Hp} {s : Shared} {h' : Heap}

theorem Cx.Ok.nofr (ok : X.Ok) {b : Addr} {o : Obj} (e : X.base.get? b = some o) : b ∉ X.fs := fun hb => by
  have := (ok.funs.mem hb).1
  rw [e] at this; cases this
theorem Inv.bs (I : Inv X pins σ H s) : ∀ b o, X.base.get? b = some o → s.heap.get? b = some o ∧ H b = none := fun b o e =>
  ⟨I.base.keep b o (I.ok.bs b o e).1 (I.ok.bs b o e).2 (I.ok.nofr e) (I.ok.noex b o e), I.base.free b o (I.ok.bs b o e).1 (I.ok.bs b o e).2 (I.ok.noex b o e)⟩
theorem Inv.bk (I : Inv X pins σ H s) : ∀ b o, X.base.get? b = some o → s.heap.get? b = some o := fun b o e => (I.bs b o e).1
theorem Inv.mod (I : Inv X pins σ H s) : Mod X.K X.mg X.base := I.ok.mod
theorem Inv.kIn (I : Inv X pins σ H s) : X.K.In s.heap := I.ok.mod.kin.keeps I.bk
theorem Inv.nolimit (I : Inv X pins σ H s) : s.heap.NoLimit := I.ok.mod.nolimit.keeps I.bk
theorem Inv.lt (I : Inv X pins σ H s) : X.env.locals < s.heap.objs.size := let ⟨_, hn, _⟩ := I.loc; hn.lt
theorem Inv.sz (I : Inv X pins σ H s) : X.s₀.heap.objs.size ≤ s.heap.objs.size := Nat.le_trans I.ok.above (Nat.le_of_lt I.lt)
theorem Inv.nofs (I : Inv X pins σ H s) {a : Addr} (h : s.heap.objs.size ≤ a) : a ∉ X.fs := fun hb => by
  obtain ⟨_, o, ho, _⟩ := I.ok.funs.mem hb
  exact absurd (Nat.lt_of_lt_of_le (Heap.lt_size ho) (Nat.le_trans I.sz h)) (Nat.lt_irrefl _)
theorem Inv.cne (I : Inv X pins σ H s) : ∀ x c, X.env.cells.lookup x = some c → c ≠ X.env.locals := fun x c e z => by
  obtain ⟨v, o, ho, hd⟩ := I.cell x c e
  obtain ⟨m, ⟨o', es, ep, ho', hd', _⟩, _⟩ := I.loc
  rw [z, ho'] at ho; cases ho; rw [hd'] at hd; cases hd
theorem Inv.funs (I : Inv X pins σ H s) : s.heap.FunFrames X.base X.outer := by
  have all : ∀ (l : List Env), (∀ b ∈ frs l, b ∈ X.fs) → X.s₀.heap.FunFrames X.base l → s.heap.FunFrames X.base l := by
    intro l
    induction l with
    | nil => intro _ _; trivial
    | cons env r ih =>
      intro hs hl
      obtain ⟨hk, ⟨L, o, hf, hn, ho, hd⟩, hr⟩ := hl
      have hL : L ∈ X.fs := hs L (by unfold frs; rw [List.filterMap_cons, hf]; exact List.mem_cons_self)
      obtain ⟨sl, e⟩ := I.base.slot L o ho (I.ok.frf L hL) hL fun z => I.ok.exfs L z hL
      exact ⟨hk, ⟨L, _, hf, hn, e, hd⟩, ih (fun b hb => hs b (by unfold frs; rw [List.filterMap_cons, hf]; exact List.mem_cons_of_mem _ hb)) hr⟩
  exact all X.outer (fun _ hb => hb) I.ok.funs

/-- the frames that run, for a call -/
theorem Inv.stack (I : Inv X pins σ H s) : s.heap.FunFrames X.base X.stack := by
  rcases I.ok.stk with e | ⟨e, hf⟩
  · rw [e]; exact I.funs
  · rw [e]
    obtain ⟨m, hn, _⟩ := I.loc
    refine .cons (by rw [I.ok.kind]; decide) hf hn ?_ I.funs
    exact Heap.get?_none_of_le (Nat.le_trans I.ok.bsz I.ok.above)
theorem Inv.stkSub (I : Inv X pins σ H s) : ∀ b ∈ frs X.stack, b ∈ X.env.locals :: X.fs := fun b hb => by
  rcases I.ok.stk with e | ⟨e, hf⟩
  · rw [e] at hb; exact List.mem_cons_of_mem _ hb
  · rw [e] at hb
    unfold frs at hb
    rw [List.filterMap_cons, hf] at hb
    exact hb
theorem Inv.stkFree (I : Inv X pins σ H s) : ∀ b ∈ frs X.stack, H b = none := fun b hb => by
  rcases List.mem_cons.mp (I.stkSub b hb) with e | hb
  · rw [e]; exact I.free
  · obtain ⟨_, o, ho, _⟩ := I.ok.funs.mem hb
    exact I.base.free b o ho (I.ok.frf b hb) fun z => I.ok.exfs b z hb

/-- THE STEP: the untracked objects but the frame and the records at ch are kept (the callers' frames up to slots), the frame's map is kept, the new abstract heap is held -/
theorem Inv.step {g' : Array GenState} {t' : Nat} {d' : Drawn} {ch : List Addr} (I : Inv X pins σ H s)
    (hch : ∀ b ∈ ch, (b ∈ X.ex ∨ X.s₀.heap.objs.size ≤ b) ∧ b ≠ X.env.locals ∧ (∀ x c, X.env.cells.lookup x = some c → c ≠ b) ∧ ∀ p ∈ X.pn ++ pins, p.1 ≠ b)
    (keep : ∀ b o, b ≠ X.env.locals → b ∉ X.fs → b ∉ ch → s.heap.get? b = some o → H b = none → h'.get? b = some o)
    (slot : ∀ b o, b ≠ X.env.locals → b ∈ X.fs → b ∉ ch → s.heap.get? b = some o → H b = none → ∃ sl, h'.get? b = some { o with slots := sl }) (free : ∀ b o, b ∉ ch → s.heap.get? b = some o → H b = none → H' b = none)
    (there : ∀ b o, b ∉ ch → s.heap.get? b = some o → ∃ o', h'.get? b = some o')
    (tups : ∀ b xs, H b = some (.tup xs) → H' b = some (.tup xs)) (frzs : ∀ b o u, H b = some (.frz o u) → H' b = some (.frz o u)) (tbls : ∀ b ps, H b = some (.tbl ps) → ∃ more, H' b = some (.tbl (ps ++ more)))
    (ns : ∀ m, s.heap.Ns X.env.locals m → h'.Ns X.env.locals m) (hok : HOk X.prog X.w H' h') (hg : AllBare g') :
    Inv X pins σ H' { s with heap := h', gens := g', drawn := d', toks := t' } := by
  have neL : ∀ b o, X.s₀.heap.get? b = some o → b ≠ X.env.locals := fun b o e => Nat.ne_of_lt (Nat.lt_of_lt_of_le (Heap.lt_size e) I.ok.above)
  have neC : ∀ b o, X.s₀.heap.get? b = some o → b ∉ X.ex → b ∉ ch := fun b o e hx hb => by
    rcases (hch b hb).1 with z | z
    · exact hx z
    · exact absurd (Nat.lt_of_lt_of_le (Heap.lt_size e) z) (Nat.lt_irrefl _)
  have cellK : ∀ x c, X.env.cells.lookup x = some c → ∀ v, s.heap.IsCell c v → h'.IsCell c v := fun x c e v ⟨o, ho, hd⟩ => by
    have nch : c ∉ ch := fun z => (hch c z).2.2.1 x c e rfl
    by_cases hc : c ∈ X.fs
    · obtain ⟨sl, q⟩ := slot c o (I.cne x c e) hc nch ho (I.freeC x c e)
      exact ⟨_, q, hd⟩
    · exact ⟨o, keep c o (I.cne x c e) hc nch ho (I.freeC x c e), hd⟩
  refine ⟨I.ok, I.os, hg, ⟨fun b o e n hb hx => ?_, fun b o e n hb hx => ?_, fun b o e n hx => ?_, fun b o e hx => ?_, fun b xs e => tups b xs (I.base.tups b xs e), fun b o xs e => frzs b o xs (I.base.frzs b o xs e), fun b ps e => ?_⟩, ?_, fun x c e => ?_, ?_, fun x c e => ?_, fun p hp => ?_, hok, I.len⟩
  · exact keep b o (neL b o e) hb (neC b o e hx) (I.base.keep b o e n hb hx) (I.base.free b o e n hx)
  · obtain ⟨sl, e1⟩ := I.base.slot b o e n hb hx
    obtain ⟨sl', e2⟩ := slot b _ (neL b o e) hb (neC b o e hx) e1 (I.base.free b o e n hx)
    exact ⟨sl', e2⟩
  · obtain ⟨o', e1⟩ := I.base.there b o e hx
    exact free b o' (neC b o e hx) e1 (I.base.free b o e n hx)
  · obtain ⟨o', e1⟩ := I.base.there b o e hx
    exact there b o' (neC b o e hx) e1
  · obtain ⟨m1, e1⟩ := I.base.tbls b ps e
    obtain ⟨m2, e2⟩ := tbls b _ e1
    exact ⟨m1 ++ m2, by rw [e2, Array.append_assoc]⟩
  · obtain ⟨m, hn, hl⟩ := I.loc
    refine ⟨m, ns m hn, fun i x v e1 e2 e3 => ?_⟩
    obtain ⟨u, r, l⟩ := hl i x v e1 e2 e3
    refine ⟨u, r, ?_⟩
    rcases l with l | ⟨k, c, e, z⟩
    · exact .inl l
    · exact .inr ⟨k, c, e, cellK x c e _ z⟩
  · obtain ⟨v, z⟩ := I.cell x c e
    exact ⟨v, cellK x c e v z⟩
  · obtain ⟨m, ⟨o, _, _, ho, _⟩, _⟩ := I.loc
    exact free _ o (fun z => (hch _ z).2.1 rfl) ho I.free
  · obtain ⟨v, o, ho, hd⟩ := I.cell x c e
    exact free c o (fun z => (hch c z).2.2.1 x c e rfl) ho (I.freeC x c e)
  · obtain ⟨e, n, ne, nf, d⟩ := I.pin p hp
    have nch : p.1 ∉ ch := fun z => (hch p.1 z).2.2.2 p hp rfl
    exact ⟨keep p.1 p.2 ne nf nch e n, free p.1 p.2 nch e n, ne, nf, d⟩
/-- .. where the frame's own object is kept too -/
theorem Inv.un {t' : Nat} (I : Inv X pins σ H s) (u : Un X.fs [] H H' s.heap h') (hok : HOk X.prog X.w H' h') : Inv X pins σ H' { s with heap := h', toks := t' } := by
  obtain ⟨m, ⟨o, es, ep, ho, r⟩, _⟩ := id I.loc
  obtain ⟨sl, hL⟩ := u.any ho I.free (by simp)
  exact I.step (g' := s.gens) (d' := s.drawn) (ch := []) (fun _ z => nomatch z) (fun b o _ hb _ e n => u.keep b o e n hb (by simp)) (fun b o _ hb _ e n => u.slot b o e n hb (by simp)) (fun b o _ e n => u.free b o e n (by simp)) (fun b o _ e => u.there b o e (by simp)) u.tups u.frzs u.tbls (fun m' hm => by
    obtain ⟨o', es', ep', ho', r'⟩ := hm
    rw [ho] at ho'; cases ho'
    exact ⟨_, es', ep', hL, r'⟩) hok I.bare
/-- behind a call (or a comprehension's block): the slots of this frame may have changed too, the records at ch may have turned -/
theorem Inv.call {g' : Array GenState} {t' : Nat} {d' : Drawn} {ch : List Addr} (I : Inv X pins σ H s) (u : Un (frs X.stack) ch H H' s.heap h') (hok : HOk X.prog X.w H' h') (hg : AllBare g')
    (hch : ∀ b ∈ ch, (b ∈ X.ex ∨ X.s₀.heap.objs.size ≤ b) ∧ b ≠ X.env.locals ∧ (∀ x c, X.env.cells.lookup x = some c → c ≠ b) ∧ ∀ p ∈ X.pn ++ pins, p.1 ≠ b) :
    Inv X pins σ H' { s with heap := h', gens := g', drawn := d', toks := t' } := by
  obtain ⟨m, ⟨o, es, ep, ho, r⟩, _⟩ := id I.loc
  obtain ⟨sl, hL⟩ := u.any ho I.free fun z => (hch _ z).2.1 rfl
  exact I.step (ch := ch) hch (fun b o hL hb hc e n => u.keep b o e n (fun z => (List.mem_cons.mp (I.stkSub b z)).elim hL hb) hc) (fun b o _ _ hc e n => u.any e n hc) (fun b o hc e n => u.free b o e n hc) (fun b o hc e => u.there b o e hc) u.tups u.frzs u.tbls (fun m' hm => by
    obtain ⟨o', es', ep', ho', r'⟩ := hm
    rw [ho] at ho'; cases ho'
    exact ⟨_, es', ep', hL, r'⟩) hok hg
/-- an untracked record of ours (an iterator) has turned -/
theorem Inv.turned {t' : Nat} {it : Addr} (I : Inv X pins σ H s) (k : ∀ b o, b ≠ it → s.heap.get? b = some o → h'.get? b = some o) (hn : H it = none) (hL : it ≠ X.env.locals)
    (h1 : it ∈ X.ex ∨ X.s₀.heap.objs.size ≤ it) (h2 : ∀ x c, X.env.cells.lookup x = some c → c ≠ it) (h3 : ∀ p ∈ X.pn ++ pins, p.1 ≠ it) : Inv X pins σ H { s with heap := h', toks := t' } := by
  have nit : ∀ b u, H b = some u → b ≠ it := fun b u e z => by rw [z, hn] at e; cases e
  refine I.step (g' := s.gens) (d' := s.drawn) (ch := [it]) (fun b hb => ?_) (fun b o _ _ hc e _ => k b o (fun z => hc (by simp [z])) e) (fun b o _ _ hc e _ => ⟨o.slots, k b o (fun z => hc (by simp [z])) e⟩) (fun _ _ _ _ n => n)
    (fun b o hc e => ⟨o, k b o (fun z => hc (by simp [z])) e⟩) (fun _ _ e => e) (fun _ _ _ e => e) (fun b ps e => ⟨#[], by rw [e]; simp⟩) (fun m hm => ?_) (fun b u e => ?_) I.bare
  · have e : b = it := by simpa using hb
    subst e
    exact ⟨h1, hL, h2, h3⟩
  · obtain ⟨o, es, ep, ho, r⟩ := hm
    exact ⟨o, es, ep, k _ o (Ne.symm hL) ho, r⟩
  · refine (I.hok b u e).stay (fun c v hc q => k c v ?_ q) (fun _ q => q) fun _ _ q => q
    rcases hc with z | z
    · rw [z]; exact nit b u e
    · exact nit c _ z
theorem Inv.tok (I : Inv X pins σ H s) (t : Nat) : Inv X pins σ H { s with toks := t } := I.un (h' := s.heap) (t' := t) Un.refl I.hok
/-- all objects kept -/
theorem Inv.kept {t' : Nat} (I : Inv X pins σ H s) (k : ∀ b u, s.heap.get? b = some u → h'.get? b = some u) : Inv X pins σ H { s with heap := h', toks := t' } := I.un (Un.kept k) (I.hok.kept k)
/-- a new object laid and tracked -/
theorem Inv.laid {a : Addr} {o : HO} {t' : Nat} (I : Inv X pins σ H s) (k : ∀ b u, s.heap.get? b = some u → h'.get? b = some u) (hp : s.heap.objs.size ≤ a) (new : ObjOk X.prog X.w (upd H a o) h' a o) :
    Inv X pins σ (upd H a o) { s with heap := h', toks := t' } := I.un (Un.laid k hp (I.hok.fresh hp)) (I.hok.laid k hp new)
/-- an object written -/
theorem Inv.write {x e : Addr} {o : HO} {t' : Nat} (I : Inv X pins σ H s) (mu : Mut (H x)) (he : e = x ∨ H e = some (.own x)) (k : ∀ b u, b ≠ e → s.heap.get? b = some u → h'.get? b = some u) (heo : ∃ u, h'.get? e = some u)
    (new : ObjOk X.prog X.w (upd H x o) h' x o) : Inv X pins σ (upd H x o) { s with heap := h', toks := t' } := I.un (Un.write mu he k heo) (I.hok.write mu he k heo new)
theorem Inv.pins_of {pins' : List (Addr × Obj)} (I : Inv X pins σ H s) (h : ∀ p ∈ pins', s.heap.get? p.1 = some p.2 ∧ H p.1 = none ∧ p.1 ≠ X.env.locals ∧ p.1 ∉ X.fs ∧ ∀ v, p.2.data ≠ .cell v) : Inv X pins' σ H s :=
  ⟨I.ok, I.os, I.bare, I.base, I.loc, I.cell, I.free, I.freeC, fun p hp => (List.mem_append.mp hp).elim (fun z => I.pin p (List.mem_append_left _ z)) (h p), I.hok, I.len⟩

theorem nodup_ix {N : List Str} (hN : N.Nodup) {i j : Nat} {x : Str} (a : N[i]? = some x) (b : N[j]? = some x) : i = j := by
  obtain ⟨h1, e1⟩ := List.getElem?_eq_some_iff.mp a
  obtain ⟨h2, e2⟩ := List.getElem?_eq_some_iff.mp b
  exact (List.getElem_inj hN).mp (e1.trans e2.symm)

/-- a name is stored; what changed -/
theorem store_ok2 {M : Model} {A : Around} {E : Value → Shared → Prop} {i : Nat} {x : Str} {v : V} {u : Value} {Q : Unit → Shared → Prop} (I : Inv X pins σ H s) (hN : X.N.Nodup) (hi : X.N[i]? = some x) (hx : Loc X.env.scope x) (r : RelV v u)
    (h : ∀ s', Inv X pins (σ.set i (some v)) H s' → (∃ a, Heap.SameBut a s.heap s'.heap ∧ (a = X.env.locals ∨ X.env.cells.lookup x = some a)) → Q () s') (hf : X.fn x = true ∨ X.env.scope.names.lookup x = some .local := by first | exact .inl rfl | exact .inr rfl | assumption) : wpAny M A (storeName X.env x u) Q E s := by
  obtain ⟨m, hn, hl⟩ := id I.loc
  have hcls : (X.env.scope.kind == .class || (X.env.scope.kind == .module && X.env.locals != X.env.globals)) = false := by rw [I.ok.kind]; rfl
  have hiσ : i < σ.length := by rw [I.len]; exact (List.getElem?_eq_some_iff.mp hi).1
  have cne := I.cne
  have tracked : ∀ {a : Addr} {h' : Heap}, (∃ o, s.heap.get? a = some o ∧ H a = none) → Heap.SameBut a s.heap h' → HOk X.prog X.w H h' := fun {a h'} ha hs b ob e => by
    obtain ⟨_, _, hfree⟩ := ha
    refine (I.hok b ob e).stay (fun c w' hc q => (hs.2 c ?_).trans q) (fun _ q => q) fun _ _ q => q
    rintro rfl
    rcases hc with rfl | hc
    · rw [hfree] at e; cases e
    · rw [hfree] at hc; cases hc
  rcases hx with hk | hk
  · refine wpAny_storeName_local hk hn (fun h' hn' hs => ?_) hcls
    obtain ⟨oL, _, _, hoL, _⟩ := id hn
    refine h _ ⟨I.ok, I.os, I.bare, ⟨fun b o e n hb hx => ?_, fun b o e n hb hx => ?_, I.base.free, fun b o e hx => ?_, I.base.tups, I.base.frzs, I.base.tbls⟩, ⟨_, hn', fun j y v' e1 e2 e3 => ?_⟩, fun y c e => ?_, I.free, I.freeC, fun p hp => ?_, tracked ⟨oL, hoL, I.free⟩ hs, by simpa using I.len⟩ ⟨_, hs, .inl rfl⟩
    · exact (hs.2 b (Nat.ne_of_lt (Nat.lt_of_lt_of_le (Heap.lt_size e) I.ok.above))).trans (I.base.keep b o e n hb hx)
    · obtain ⟨sl, e1⟩ := I.base.slot b o e n hb hx
      exact ⟨sl, (hs.2 b (Nat.ne_of_lt (Nat.lt_of_lt_of_le (Heap.lt_size e) I.ok.above))).trans e1⟩
    · obtain ⟨o', e1⟩ := I.base.there b o e hx
      exact ⟨o', (hs.2 b (Nat.ne_of_lt (Nat.lt_of_lt_of_le (Heap.lt_size e) I.ok.above))).trans e1⟩
    · by_cases hj : j = i
      · subst hj
        rw [hi] at e1; cases e1
        rw [List.getElem?_set_self hiσ] at e2
        cases e2
        exact ⟨u, r, .inl ⟨hk, by simp⟩⟩
      · rw [List.getElem?_set_ne (Ne.symm hj)] at e2
        obtain ⟨u', r', q⟩ := hl j y v' e1 e2 e3
        refine ⟨u', r', ?_⟩
        rcases q with ⟨k, e⟩ | ⟨k, c, e, z⟩
        · refine .inl ⟨k, ?_⟩
          have : y ≠ x := fun e => hj (nodup_ix hN e1 (e ▸ hi))
          simp [this, e]
        · exact .inr ⟨k, c, e, z.sameBut hs (cne y c e)⟩
    · obtain ⟨w', z⟩ := I.cell y c e
      exact ⟨w', z.sameBut hs (cne y c e)⟩
    · obtain ⟨e, n, ne, nf, d⟩ := I.pin p hp
      exact ⟨(hs.2 p.1 ne).trans e, n, ne, nf, d⟩
  · have hfn : X.fn x = true := by
      rcases hf with z | z
      · exact z
      · rw [z] at hk; cases hk
    obtain ⟨c, hc⟩ := I.ok.has x (.inl hk)
    obtain ⟨w', z⟩ := I.cell x c hc
    refine wpAny_storeName_cell I.ok.kind hk hc z (fun h' hc' hs => ?_)
    obtain ⟨oc, hoc, hocd⟩ := id z
    refine h { s with heap := h' } ⟨I.ok, I.os, I.bare, ⟨fun b o e n hb hx => ?_, fun b o e n hb hx => ?_, I.base.free, fun b o e hx => ?_, I.base.tups, I.base.frzs, I.base.tbls⟩, ⟨m, hn.sameBut hs (Ne.symm (cne x c hc)), fun j y v' e1 e2 e3 => ?_⟩, fun y c' e => ?_, I.free, I.freeC, fun p hp => ?_, tracked ⟨oc, hoc, I.freeC x c hc⟩ hs, by simpa using I.len⟩ ⟨c, hs, .inr hc⟩
    · exact (hs.2 b (Nat.ne_of_lt (Nat.lt_of_lt_of_le (Heap.lt_size e) (I.ok.cab x c hfn hc)))).trans (I.base.keep b o e n hb hx)
    · obtain ⟨sl, e1⟩ := I.base.slot b o e n hb hx
      exact ⟨sl, (hs.2 b (Nat.ne_of_lt (Nat.lt_of_lt_of_le (Heap.lt_size e) (I.ok.cab x c hfn hc)))).trans e1⟩
    · obtain ⟨o', e1⟩ := I.base.there b o e hx
      exact ⟨o', (hs.2 b (Nat.ne_of_lt (Nat.lt_of_lt_of_le (Heap.lt_size e) (I.ok.cab x c hfn hc)))).trans e1⟩
    · by_cases hj : j = i
      · subst hj
        rw [hi] at e1; cases e1
        rw [List.getElem?_set_self hiσ] at e2
        cases e2
        exact ⟨u, r, .inr ⟨.inl hk, c, hc, hc'⟩⟩
      · rw [List.getElem?_set_ne (Ne.symm hj)] at e2
        obtain ⟨u', r', q⟩ := hl j y v' e1 e2 e3
        refine ⟨u', r', ?_⟩
        rcases q with q | ⟨k, c', e, z'⟩
        · exact .inl q
        · refine .inr ⟨k, c', e, z'.sameBut hs ?_⟩
          rintro rfl
          exact hj (nodup_ix hN e1 (I.ok.inj _ _ _ e hc ▸ hi))
    · by_cases hcc : c' = c
      · subst hcc; exact ⟨_, hc'⟩
      · obtain ⟨w2, z2⟩ := I.cell y c' e
        exact ⟨w2, z2.sameBut hs hcc⟩
    · obtain ⟨e, n, ne, nf, d⟩ := I.pin p hp
      refine ⟨(hs.2 p.1 ?_).trans e, n, ne, nf, d⟩
      intro q
      rw [q, hoc] at e
      have q' : oc = p.2 := Option.some.inj e
      exact d w' (by rw [← q']; exact hocd)
theorem store_ok {M : Model} {A : Around} {E : Value → Shared → Prop} {i : Nat} {x : Str} {v : V} {u : Value} {Q : Unit → Shared → Prop} (I : Inv X pins σ H s) (hN : X.N.Nodup) (hi : X.N[i]? = some x) (hx : Loc X.env.scope x) (r : RelV v u)
    (h : ∀ s', Inv X pins (σ.set i (some v)) H s' → Q () s') (hf : X.fn x = true ∨ X.env.scope.names.lookup x = some .local := by first | exact .inl rfl | exact .inr rfl | assumption) : wpAny M A (storeName X.env x u) Q E s :=
  store_ok2 I hN hi hx r (fun s' I' _ => h s' I') hf
/-- behind a call or a block, the state as it is -/
theorem Inv.call' {s' : Shared} {ch : List Addr} (I : Inv X pins σ H s) (ho : s'.os = s.os) (u : Un (frs X.stack) ch H H' s.heap s'.heap) (hok : HOk X.prog X.w H' s'.heap) (hg : AllBare s'.gens)
    (hch : ∀ b ∈ ch, (b ∈ X.ex ∨ X.s₀.heap.objs.size ≤ b) ∧ b ≠ X.env.locals ∧ (∀ x c, X.env.cells.lookup x = some c → c ≠ b) ∧ ∀ p ∈ X.pn ++ pins, p.1 ≠ b) : Inv X pins σ H' s' := by
  obtain ⟨h', g', d', t', o'⟩ := s'
  have e : o' = s.os := ho
  subst e
  exact I.call (g' := g') (t' := t') (d' := d') u hok hg hch
end

/-! ### the judgements -/
/-- an exception: its class, its own dict's address (where it has one), the abstract heap behind it -/
abbrev XK := Value → Option Addr → Hp → Prop
abbrev St := List (Option V)
abbrev VK := V → Hp → Prop
/-- an expression's reading; a test's; an argument list's -/
abbrev TE := St → Hp → VK → Prop
abbrev TT := St → Hp → (Bool → Hp → Prop) → Prop
abbrev TA := St → Hp → (List V → Hp → Prop) → Prop
/-- what is wanted behind a statement -/
structure Ends where
  nx : St → Hp → Prop
  rt : VK
  bk : St → Hp → Prop := fun _ _ => False
  ct : St → Hp → Prop := fun _ _ => False
abbrev TS := Ends → St → Hp → Prop

def EP (X : Cx) (pins : List (Addr × Obj)) (σ : St) (Q : VK) (u : Value) (s' : Shared) : Prop := ∃ v H', Inv X pins σ H' s' ∧ RelV v u ∧ Q v H'
def TP (X : Cx) (pins : List (Addr × Obj)) (σ : St) (Q : Bool → Hp → Prop) (b : Bool) (s' : Shared) : Prop := ∃ H', Inv X pins σ H' s' ∧ Q b H'
def AP (X : Cx) (pins : List (Addr × Obj)) (σ : St) (Q : List V → Hp → Prop) (us : List Value) (s' : Shared) : Prop := ∃ vs H', Inv X pins σ H' s' ∧ Vals vs us ∧ Q vs H'
def SP (X : Cx) (pins : List (Addr × Obj)) (D : Ends) (f : Flow) (s' : Shared) : Prop :=
  match f with
  | .next => ∃ σ' H', Inv X pins σ' H' s' ∧ D.nx σ' H'
  | .brk => ∃ σ' H', Inv X pins σ' H' s' ∧ D.bk σ' H'
  | .cont => ∃ σ' H', Inv X pins σ' H' s' ∧ D.ct σ' H'
  | .ret u => ∃ v σ' H', Inv X pins σ' H' s' ∧ RelV v u ∧ D.rt v H'

def PE (X : Cx) (e : Expr) (t : TE) : Prop :=
  ∀ (pins : List (Addr × Obj)) (s : Shared) (σ : St) (H : Hp) (Q : VK), Inv X pins σ H s → t σ H Q → wpAny (model X.prog X.w) X.A (eval e X.env) (EP X pins σ Q) X.xe s
def PT (X : Cx) (e : Expr) (t : TT) : Prop :=
  ∀ (pins : List (Addr × Obj)) (s : Shared) (σ : St) (H : Hp) (Q : Bool → Hp → Prop), Inv X pins σ H s → t σ H Q → wpAny (model X.prog X.w) X.A (isTrue e X.env (eval e X.env)) (TP X pins σ Q) X.xe s
/-- a test whatever its 'whole' is (and, or) -/
def PW (X : Cx) (e : Expr) (t : TT) : Prop :=
  ∀ (whole : Sem Value) (pins : List (Addr × Obj)) (s : Shared) (σ : St) (H : Hp) (Q : Bool → Hp → Prop), Inv X pins σ H s → t σ H Q → wpAny (model X.prog X.w) X.A (isTrue e X.env whole) (TP X pins σ Q) X.xe s
theorem PW.pt {X : Cx} {e : Expr} {t : TT} (h : PW X e t) : PT X e t := h _
/-- an argument list (no star), from the left -/
def PA (X : Cx) (es : List Expr) (t : TA) : Prop :=
  ∀ (pos : Pos) (pins : List (Addr × Obj)) (s : Shared) (σ : St) (H : Hp) (Q : List V → Hp → Prop), Inv X pins σ H s → t σ H Q → wpAny (model X.prog X.w) X.A (spliced (backTo pos (starEach es X.env))) (AP X pins σ Q) X.xe s
def PS (X : Cx) (st : Stmt) (t : TS) : Prop :=
  ∀ (pins : List (Addr × Obj)) (s : Shared) (σ : St) (H : Hp) (D : Ends), Inv X pins σ H s → t D σ H → wpAny (model X.prog X.w) X.A (exec st X.env) (SP X pins D) X.xe s
def PSs (X : Cx) (st : List Stmt) (t : TS) : Prop :=
  ∀ (pins : List (Addr × Obj)) (s : Shared) (σ : St) (H : Hp) (D : Ends), Inv X pins σ H s → t D σ H → wpAny (model X.prog X.w) X.A (execs st X.env) (SP X pins D) X.xe s
/-- weaken the end -/
theorem thn {α : Type} {t : Sem α} {Q Q' : α → Shared → Prop} {M : Model} {A : Around} {E : Value → Shared → Prop} {s : Shared} (h : wpAny M A t Q E s) (hQ : ∀ a s, Q a s → Q' a s) : wpAny M A t Q' E s := wpAny_mono h hQ fun _ _ x => x
end L2

namespace L2
open PySem PySem.Spec PyProof.Rows
section
variable {X : Cx}

/-! ### names and constants -/
def tVar (i : Nat) : TE := fun σ H Q => ∃ v, σ[i]? = some (some v) ∧ Q v H
def tC (v : V) : TE := fun _ H Q => Q v H
theorem pe_var {i : Nat} {x : Str} {pos : Pos} (hN : X.N[i]? = some x) (hv : Vis X.env.scope x) (hd : (x == ("__debug__" : Str)) = false := by decide) (hcd : (x == ("__classdict__" : Str)) = false := by decide) : PE X (.Name x pos) (tVar i) := by
  intro pins s σ H Q I h
  obtain ⟨v, e, h⟩ := h
  obtain ⟨m, hn, hl⟩ := I.loc
  obtain ⟨u, r, l⟩ := hl i x v hN e hv
  have fin : EP X pins σ Q u s := ⟨v, H, I, r, h⟩
  rcases l with ⟨hk, hm⟩ | ⟨hk, c, hc, hcell⟩
  · exact wpAny_Name (wpAny_loadName_local I.ok.kind hk hn hm fin) hd
  · rcases hk with hk | hk
    · exact wpAny_Name (wpAny_loadName_cell I.ok.kind hk hc hcell fin) hd
    · exact wpAny_Name (wpAny_loadName_free I.ok.kind hk hc hcell fin hcd) hd
theorem pe_int {i j pos} : PE X (.Constant (.int i) j pos) (tC (.int i)) := fun _ _ _ H _ I h => wpAny_Constant_int ⟨.int i, H, I.tok _, ⟨_, rfl⟩, h⟩
theorem pe_bl {b j pos} : PE X (.Constant (.bool b) j pos) (tC (.bl b)) := fun _ _ _ H _ I h => Constant_bool ⟨.bl b, H, I, rfl, h⟩
theorem pe_non {j pos} : PE X (.Constant .none j pos) (tC .non) := fun _ _ _ H _ I h => Constant_none ⟨.non, H, I, rfl, h⟩
theorem pe_str {x j pos} : PE X (.Constant (.str x) j pos) (tC (.str x)) := fun _ _ _ H _ I h => Calls.Constant_str ⟨.str x, H, I.tok _, ⟨_, rfl⟩, h⟩

/-- a global name of the def -/
def Gl (X : Cx) (x : Str) : Prop := X.env.kindOf x = some .globalImplicit
theorem ld_glob {E : Value → Shared → Prop} {pins : List (Addr × Obj)} {s : Shared} {σ : St} {H : Hp} {x : Str} {u : Value} {pos : Pos} {Q : Value → Shared → Prop} (I : Inv X pins σ H s) (hg : Gl X x) (hm : X.mg x = some u) (h : Q u s)
    (hd : (x == ("__debug__" : Str)) = false := by decide) : wpAny (model X.prog X.w) X.A (eval (.Name x pos) X.env) Q E s :=
  Calls.Name_function_global I.ok.kind hg (Calls.loadGlobal_global (by rw [I.ok.glob]; exact I.mod.glob.keeps I.bk) hm h) hd
theorem ld_blt {E : Value → Shared → Prop} {pins : List (Addr × Obj)} {s : Shared} {σ : St} {H : Hp} {x : Str} {u : Value} {pos : Pos} {Q : Value → Shared → Prop} (I : Inv X pins σ H s) (hg : Gl X x) (hm : X.mg x = none) (hv : bootBuiltins x = some u) (h : Q u s)
    (hn : x ≠ "__name__" := by decide) (hd : (x == ("__debug__" : Str)) = false := by decide) : wpAny (model X.prog X.w) X.A (eval (.Name x pos) X.env) Q E s := by
  obtain ⟨mb, h1, h2⟩ := I.mod.blt
  exact Calls.Name_function_global I.ok.kind hg (Calls.loadGlobal_builtin (by rw [I.ok.glob]; exact I.mod.glob.keeps I.bk) hm (by rw [I.ok.blt]; exact h1.keeps I.bk) ((h2 x hn).trans hv) h) hd
/-- a module's constant, a class, a function, as a value -/
theorem pe_glob {x : Str} {v : V} {u : Value} {pos : Pos} (hg : Gl X x) (hm : X.mg x = some u) (r : RelV v u) (hd : (x == ("__debug__" : Str)) = false := by decide) : PE X (.Name x pos) (tC v) :=
  fun _ _ _ H _ I h => ld_glob I hg hm ⟨v, H, I, r, h⟩ hd
theorem pe_bltn {x : Str} {v : V} {u : Value} {pos : Pos} (hg : Gl X x) (hm : X.mg x = none) (hv : bootBuiltins x = some u) (r : RelV v u) (hn : x ≠ "__name__" := by decide) (hd : (x == ("__debug__" : Str)) = false := by decide) : PE X (.Name x pos) (tC v) :=
  fun _ _ _ H _ I h => ld_blt I hg hm hv ⟨v, H, I, r, h⟩ hn hd

/-! ### arithmetic -/
variable {a b : Expr} {ta tb : TE} {pos : Pos}
/-! ### comparisons -/
def PC (X : Cx) (op : CmpOp) (a b : Expr) (t : TE) : Prop :=
  ∀ (pins : List (Addr × Obj)) (s : Shared) (σ : St) (H : Hp) (Q : VK), Inv X pins σ H s → t σ H Q →
    wpAny (model X.prog X.w) X.A (eval a X.env) (fun v s₁ => wpAny (model X.prog X.w) X.A (eval b X.env) (fun u s₂ => wpAny (model X.prog X.w) X.A (compareOp op v u) (EP X pins σ Q) X.xe s₂) X.xe s₁) X.xe s
/-- a comparison as a value, as a test -/
def tB (t : TE) : TT := fun σ H Q => t σ H fun x H1 => ∃ c, x = .bl c ∧ Q c H1
/-- an expression whose value is a bool, as a test -/
theorem pt_val {e : Expr} {t : TE} (h : PE X e t) (he : ∀ whole, isTrue e X.env whole = (do let v ← whole; standAt e.pos; holding [v] (truthy v)) := by intro _; rfl) : PT X e (tB t) := by
  intro pins s σ H Q I hw
  refine isTrue_plain (thn (h pins s σ H _ I hw) fun v s1 ⟨x, H1, I1, r1, q1⟩ => ?_) (he _)
  obtain ⟨d, rfl, q⟩ := q1
  cases r1
  exact wpAny_truthy_bool ⟨H1, I1, q⟩

/-! ### and, or, not -/
variable {tA tB' : TT} {rest : List Expr}
def tAnd (t u : TT) : TT := fun σ H Q => t σ H fun c H1 => if c = true then u σ H1 Q else Q false H1
def tOr (t u : TT) : TT := fun σ H Q => t σ H fun c H1 => if c = true then Q true H1 else u σ H1 Q
def tNot (t : TT) : TT := fun σ H Q => t σ H fun c H1 => Q (!c) H1
theorem pw_and1 (ha : PT X a tA) : PW X (.BoolOp .And [a] pos) tA := by
  intro wh pins s σ H Q I h
  refine isTrue_and (thn (ha pins s σ H Q I h) fun c s1 e => ?_)
  cases c with
  | true => exact isTrue_and_nil e
  | false => exact e
theorem pw_or1 (ha : PT X a tA) : PW X (.BoolOp .Or [a] pos) tA := by
  intro wh pins s σ H Q I h
  refine isTrue_or (thn (ha pins s σ H Q I h) fun c s1 e => ?_)
  cases c with
  | false => exact isTrue_or_nil e
  | true => exact e
theorem pw_and (ha : PT X a tA) (hb : PW X (.BoolOp .And (b :: rest) pos) tB') : PW X (.BoolOp .And (a :: b :: rest) pos) (tAnd tA tB') := by
  intro wh pins s σ H Q I h
  refine isTrue_and (thn (ha pins s σ H _ I h) fun c s1 ⟨H1, I1, q1⟩ => ?_)
  cases c with
  | true => exact hb wh pins s1 σ H1 Q I1 q1
  | false => exact ⟨H1, I1, q1⟩
theorem pw_or (ha : PT X a tA) (hb : PW X (.BoolOp .Or (b :: rest) pos) tB') : PW X (.BoolOp .Or (a :: b :: rest) pos) (tOr tA tB') := by
  intro wh pins s σ H Q I h
  refine isTrue_or (thn (ha pins s σ H _ I h) fun c s1 ⟨H1, I1, q1⟩ => ?_)
  cases c with
  | true => exact ⟨H1, I1, q1⟩
  | false => exact hb wh pins s1 σ H1 Q I1 q1
theorem pt_not (ha : PT X a tA) : PT X (.UnaryOp .Not a pos) (tNot tA) := by
  intro pins s σ H Q I h
  exact isTrue_not (ha pins s σ H (fun c H1 => Q (!c) H1) I h)
/-- .. as values (bools) -/
def tAndV (ta tb : TE) : TE := fun σ H Q => ta σ H fun x H1 => ∃ c, x = .bl c ∧ if c = true then tb σ H1 Q else Q (.bl false) H1
theorem pe_one {op} {t : TE} (h : PE X a t) : PE X (.BoolOp op [a] pos) t := fun pins s σ H Q I hw => BoolOp_one (h pins s σ H Q I hw)
theorem pe_and (ha : PE X a ta) (hb : PE X (.BoolOp .And (b :: rest) pos) tb) : PE X (.BoolOp .And (a :: b :: rest) pos) (tAndV ta tb) := by
  intro pins s σ H Q I h
  refine BoolOp_and (thn (ha pins s σ H _ I h) fun v s1 ⟨x, H1, I1, r1, q1⟩ => ?_)
  obtain ⟨c, rfl, q1⟩ := q1
  cases r1
  refine wpAny_truthy_bool ?_
  cases c with
  | true => exact hb pins s1 σ H1 Q I1 q1
  | false => exact ⟨.bl false, H1, I1, rfl, q1⟩
end
end L2

namespace L2
open PySem PySem.Spec PyProof.Rows

/-! ### a list, a tuple that is read: tracked, frozen, or an object of the module -/
def SqL (K : PySem.W.Frag) (H : Hp) (a : Addr) (xs : List V) : Prop :=
  Rd H a (.lst xs) ∨
    ∃ (o : Obj) (its : Array Value) (n : Nat), K.lookup a = some o ∧ o.cls = .type "list" ∧ o.dict = none ∧ o.data = .seq its n ∧ its.size ≤ sizeLine ∧ Vals xs its.toList
def SqT (K : PySem.W.Frag) (H : Hp) (a : Addr) (xs : List V) : Prop :=
  Rd H a (.tup xs) ∨
    ∃ (o : Obj) (its : Array Value) (n : Nat), K.lookup a = some o ∧ o.cls = .type "tuple" ∧ o.data = .seq its n ∧ its.size ≤ sizeLine ∧ Vals xs its.toList
def absV : Value → Option V
  | .none => some .non
  | .bool b => some (.bl b)
  | .int i _ => some (.int i)
  | .str x _ => some (.str x)
  | .bytes b _ => some (.byt b)
  | .float b _ => some (.flt b)
  | .ref a => some (.ref a)
  | .type n => some (.ty n)
  | _ => none
theorem RelV.abs {x : V} {u : Value} (r : RelV x u) : absV u = some x := by
  cases x with
  | non => cases r; rfl
  | bl _ => cases r; rfl
  | int _ => obtain ⟨t, rfl⟩ := r; rfl
  | str _ => obtain ⟨t, rfl⟩ := r; rfl
  | byt _ => obtain ⟨t, rfl⟩ := r; rfl
  | flt _ => obtain ⟨t, rfl⟩ := r; rfl
  | ref _ => cases r; rfl
  | ty _ => cases r; rfl
theorem RelV.inj {x y : V} {u : Value} (r : RelV x u) (q : RelV y u) : x = y := Option.some.inj (r.abs.symm.trans q.abs)
theorem Vals.inj : ∀ {xs ys : List V} {us : List Value}, Vals xs us → Vals ys us → xs = ys
  | _, _, _, .nil, .nil => rfl
  | _, _, _, .cons r t, .cons r' t' => by rw [r.inj r', Vals.inj t t']
section
variable {X : Cx} {pins : List (Addr × Obj)} {σ : St} {H : Hp} {s : Shared} {a : Addr} {xs ys : List V}
theorem SqL.of {K : PySem.W.Frag} (h : H a = some (.lst xs)) : SqL K H a xs := .inl (.inl h)
theorem SqT.of {K : PySem.W.Frag} (h : H a = some (.tup xs)) : SqT K H a xs := .inl (.inl h)
theorem Inv.list (I : Inv X pins σ H s) (h : SqL X.K H a xs) : ∃ its : List Value, Vals xs its ∧ PlainL s.heap a its.toArray ∧ xs.length ≤ sizeLine := by
  rcases h with h | ⟨o, its, n, hk, hc, hd, hs, hz, r⟩
  · obtain ⟨z, its, n, r, e⟩ := h.ok I.hok
    exact ⟨its, r, ⟨_, n, e, rfl, rfl, rfl⟩, z⟩
  · refine ⟨its.toList, r, ⟨o, n, I.kIn a o hk, hc, hd, by simpa using hs⟩, ?_⟩
    have e := r.length
    simp only [Array.length_toList] at e
    omega
theorem Inv.tuple (I : Inv X pins σ H s) (h : SqT X.K H a xs) : ∃ its : List Value, Vals xs its ∧ IsTup s.heap a its.toArray ∧ xs.length ≤ sizeLine := by
  rcases h with h | ⟨o, its, n, hk, hc, hs, hz, r⟩
  · obtain ⟨z, its, r, p⟩ := h.ok I.hok
    exact ⟨its, r, p, z⟩
  · refine ⟨its.toList, r, ⟨o, I.kIn a o hk, hc, n, by simpa using hs⟩, ?_⟩
    have e := r.length
    simp only [Array.length_toList] at e
    omega
theorem Inv.list_inj (I : Inv X pins σ H s) (h : SqL X.K H a xs) (h' : SqL X.K H a ys) : xs = ys := by
  obtain ⟨its, r, ⟨o, n, e, _, _, d⟩, _⟩ := I.list h
  obtain ⟨its', r', ⟨o', n', e', _, _, d'⟩, _⟩ := I.list h'
  rw [e] at e'; cases e'
  rw [d] at d'
  injection d' with d1 _
  have : its = its' := by simpa using congrArg Array.toList d1
  subst this
  exact r.inj r'
theorem Inv.tuple_inj (I : Inv X pins σ H s) (h : SqT X.K H a xs) (h' : SqT X.K H a ys) : xs = ys := by
  obtain ⟨its, r, ⟨o, e, _, n, d⟩, _⟩ := I.tuple h
  obtain ⟨its', r', ⟨o', e', _, n', d'⟩, _⟩ := I.tuple h'
  rw [e] at e'; cases e'
  rw [d] at d'
  injection d' with d1 _
  have : its = its' := by simpa using congrArg Array.toList d1
  subst this
  exact r.inj r'
end

/-! ### another wish about exceptions -/
abbrev Cx.wish (X : Cx) (E : Value → Shared → Prop) : Cx := { X with xe := E }
/-- no exception leaves -/
abbrev Cx.nox (X : Cx) : Cx := X.wish fun _ _ => False
theorem Cx.Ok.wish {X : Cx} (ok : X.Ok) (E : Value → Shared → Prop) : (X.wish E).Ok :=
  ⟨ok.mod, ok.kind, ok.glob, ok.blt, ok.above, ok.inj, ok.has, ok.cab, ok.hd, ok.frames, ok.stk, ok.exf, ok.bs, ok.bsz, ok.noex, ok.exfs, ok.funs, ok.frf⟩
theorem Cx.Ok.unwish {X : Cx} {E : Value → Shared → Prop} (ok : (X.wish E).Ok) : X.Ok :=
  ⟨ok.mod, ok.kind, ok.glob, ok.blt, ok.above, ok.inj, ok.has, ok.cab, ok.hd, ok.frames, ok.stk, ok.exf, ok.bs, ok.bsz, ok.noex, ok.exfs, ok.funs, ok.frf⟩
section
variable {X : Cx} {pins : List (Addr × Obj)} {σ : St} {H : Hp} {s : Shared} {E : Value → Shared → Prop}
theorem Inv.wish (I : Inv X pins σ H s) (E : Value → Shared → Prop) : Inv (X.wish E) pins σ H s := ⟨I.ok.wish E, I.os, I.bare, I.base, I.loc, I.cell, I.free, I.freeC, I.pin, I.hok, I.len⟩
theorem Inv.unwish (I : Inv (X.wish E) pins σ H s) : Inv X pins σ H s := ⟨I.ok.unwish, I.os, I.bare, I.base, I.loc, I.cell, I.free, I.freeC, I.pin, I.hok, I.len⟩
theorem SP.unwish {D : Ends} {f : Flow} {s' : Shared} (h : SP (X.wish E) pins D f s') : SP X pins D f s' := by
  cases f with
  | next => obtain ⟨σ', H', I, q⟩ := h; exact ⟨σ', H', I.unwish, q⟩
  | brk => obtain ⟨σ', H', I, q⟩ := h; exact ⟨σ', H', I.unwish, q⟩
  | cont => obtain ⟨σ', H', I, q⟩ := h; exact ⟨σ', H', I.unwish, q⟩
  | ret u => obtain ⟨v, σ', H', I, r, q⟩ := h; exact ⟨v, σ', H', I.unwish, r, q⟩
theorem PE.nox {e : Expr} {t : TE} (h : PE X.nox e t) : PE X e t := fun pins s σ H Q I hw =>
  wpAny_mono (h pins s σ H Q (I.wish _) hw) (fun _ _ ⟨v, H', I', r, q⟩ => ⟨v, H', I'.unwish, r, q⟩) fun _ _ z => False.elim z
theorem PT.nox {e : Expr} {t : TT} (h : PT X.nox e t) : PT X e t := fun pins s σ H Q I hw =>
  wpAny_mono (h pins s σ H Q (I.wish _) hw) (fun _ _ ⟨H', I', q⟩ => ⟨H', I'.unwish, q⟩) fun _ _ z => False.elim z
theorem PSs.nox {st : List Stmt} {t : TS} (h : PSs X.nox st t) : PSs X st t := fun pins s σ H D I hw =>
  wpAny_mono (h pins s σ H D (I.wish _) hw) (fun _ _ q => q.unwish) fun _ _ z => False.elim z
end

/-! ### blocks and small statements -/
section
variable {X : Cx} {st : Stmt} {rest : List Stmt} {t u : TS} {e : Expr} {te : TE} {pos : Pos}
def tNext : TS := fun D σ H => D.nx σ H
def tSeq (t u : TS) : TS := fun D σ H => t { D with nx := u D } σ H
theorem pss_nil : PSs X [] tNext := fun _ _ σ H _ I h => wpAny_execs_nil ⟨σ, H, I, h⟩
theorem pss_cons (h1 : PS X st t) (h2 : PSs X rest u) : PSs X (st :: rest) (tSeq t u) := by
  intro pins s σ H D I h
  refine wpAny_execs_cons (thn (h1 pins s σ H { D with nx := u D } I h) fun f s1 q => ?_)
  cases f with
  | next =>
    obtain ⟨σ', H', I', q⟩ := q
    exact h2 pins s1 σ' H' D I' q
  | ret v => exact q
  | brk => exact q
  | cont => exact q
theorem pss_one (h1 : PS X st t) : PSs X [st] t := by
  intro pins s σ H D I h
  refine wpAny_execs_cons (thn (h1 pins s σ H D I h) fun f s1 q => ?_)
  cases f with
  | next => exact wpAny_execs_nil q
  | ret v => exact q
  | brk => exact q
  | cont => exact q
def tBreak : TS := fun D σ H => D.bk σ H
def tCont : TS := fun D σ H => D.ct σ H
theorem ps_break : PS X (.Break pos) tBreak := fun _ _ σ H _ I h => wpAny_Break ⟨σ, H, I, h⟩
theorem ps_continue : PS X (.Continue pos) tCont := fun _ _ σ H _ I h => wpAny_Continue ⟨σ, H, I, h⟩
/-- in a def's body nothing is shown -/
theorem Inv.quiet {pins : List (Addr × Obj)} {σ : St} {H : Hp} {s : Shared} (I : Inv X pins σ H s) : interactive X.env = false := by simp [interactive, I.ok.kind]
/-- an expression whose value is dropped -/
def tDrop (te : TE) : TS := fun D σ H => te σ H fun _ H1 => D.nx σ H1
theorem ps_expr (he : PE X e te) (hs : swapsWith e none pos.line X.env = pure false := by rfl) : PS X (.Expr e pos) (tDrop te) := by
  intro pins s σ H D I h
  exact wpAny_Expr_any (thn (he pins s σ H _ I h) fun v s1 ⟨x, H1, I1, r1, q1⟩ => ⟨σ, H1, I1, q1⟩) I.quiet hs
def tRet (te : TE) : TS := fun D σ H => te σ H D.rt
theorem ps_ret (he : PE X e te) : PS X (.Return (some e) pos) (tRet te) := by
  intro pins s σ H D I h
  exact wpAny_Return_some (thn (he pins s σ H _ I h) fun v s1 ⟨x, H1, I1, r1, q1⟩ => ⟨x, σ, H1, I1, r1, q1⟩)
def tIfS (c : TT) (t u : TS) : TS := fun D σ H => c σ H fun b H1 => if b = true then t D σ H1 else u D σ H1
theorem ps_if {c : Expr} {a b : List Stmt} {tc : TT} (hc : PT X c tc) (ha : PSs X a t) (hb : PSs X b u) : PS X (.If c a b pos) (tIfS tc t u) := by
  intro pins s σ H D I h
  refine wpAny_If (thn (hc pins s σ H _ I h) fun d s1 ⟨H1, I1, q1⟩ => ?_)
  cases d with
  | true => exact ha pins s1 σ H1 D I1 q1
  | false => exact hb pins s1 σ H1 D I1 q1
end

/-! ### targets -/
abbrev TG := V → St → Hp → (St → Hp → Prop) → Prop
abbrev TGs := List V → St → Hp → (St → Hp → Prop) → Prop
def PG (X : Cx) (target : Expr) (t : TG) : Prop :=
  ∀ (pins : List (Addr × Obj)) (s : Shared) (σ : St) (H : Hp) (v : V) (u : Value) (Q : St → Hp → Prop), Inv X pins σ H s → RelV v u → t v σ H Q →
    wpAny (model X.prog X.w) X.A (assign target X.env u) (fun _ s' => ∃ σ' H', Inv X pins σ' H' s' ∧ Q σ' H') X.xe s
/-- several targets, one after another -/
def PGs (X : Cx) (ts : List Expr) (t : TGs) : Prop :=
  ∀ (pins : List (Addr × Obj)) (s : Shared) (σ : St) (H : Hp) (vs : List V) (us : List Value) (Q : St → Hp → Prop), Inv X pins σ H s → Vals vs us → t vs σ H Q →
    wpAny (model X.prog X.w) X.A (assignInOrder ((assignEach ts X.env).map (·.2)) us) (fun _ s' => ∃ σ' H', Inv X pins σ' H' s' ∧ Q σ' H') X.xe s
/-- o[i] = v, by values -/
abbrev TSet := V → V → V → Hp → (Hp → Prop) → Prop
def PSet (X : Cx) (t : TSet) : Prop :=
  ∀ (pins : List (Addr × Obj)) (s : Shared) (σ : St) (H : Hp) (o i v : V) (ov iv u : Value) (Q : Hp → Prop), Inv X pins σ H s → RelV o ov → RelV i iv → RelV v u → t o i v H Q →
    wpAny (model X.prog X.w) X.A (setItem ov iv u) (fun _ s' => ∃ H', Inv X pins σ H' s' ∧ Q H') X.xe s
section
variable {X : Cx} {pos : Pos}
def gName (i : Nat) : TG := fun v σ H Q => Q (σ.set i (some v)) H
theorem pg_name {i : Nat} {x : Str} (hN : X.N.Nodup) (hi : X.N[i]? = some x) (hx : Loc X.env.scope x) (hf : X.fn x = true ∨ X.env.scope.names.lookup x = some .local := by first | exact .inl rfl | exact .inr rfl | assumption) : PG X (.Name x pos) (gName i) := by
  intro pins s σ H v u Q I r h
  exact wpAny_assign_Name (store_ok I hN hi hx r (fun s' I' => ⟨_, H, I', h⟩) hf)
def gNil : TGs := fun vs σ H Q => vs = [] ∧ Q σ H
def gCons (t : TG) (u : TGs) : TGs := fun vs σ H Q => ∃ v r, vs = v :: r ∧ t v σ H fun σ' H' => u r σ' H' Q
theorem pgs_nil : PGs X [] gNil := by
  intro pins s σ H vs us Q I r h
  obtain ⟨e, h⟩ := h
  subst e
  cases r
  exact assignInOrder_nil ⟨σ, H, I, h⟩
theorem pgs_cons {e : Expr} {es : List Expr} {t : TG} {u : TGs} (h1 : PG X e t) (h2 : PGs X es u)
    (hs : (assignEach (e :: es) X.env).map (·.2) = assign e X.env :: (assignEach es X.env).map (·.2) := by rfl) : PGs X (e :: es) (gCons t u) := by
  intro pins s σ H vs us Q I r h
  obtain ⟨v, vr, e1, h⟩ := h
  subst e1
  cases r with
  | cons r rr =>
    rw [hs]
    refine assignInOrder_cons (thn (h1 pins s σ H _ _ _ I r h) fun _ s1 ⟨σ1, H1, I1, q1⟩ => ?_)
    exact h2 pins s1 σ1 H1 _ _ Q I1 rr q1
/-- (a, b, ..) = a tuple of that length -/
def gTup (K : PySem.W.Frag) (n : Nat) (t : TGs) : TG := fun v σ H Q => ∃ a xs, v = .ref a ∧ SqT K H a xs ∧ xs.length = n ∧ t xs σ H Q
theorem pg_tup {es : List Expr} {k : Nat} {t : TGs} {n : Nat} (hc : X.calm = true) (h : PGs X es t)
    (hn : (assignEach es X.env).length = n := by rfl) (hst : (assignEach es X.env).findIdx? (·.1) = none := by rfl) : PG X (.Tuple es k pos) (gTup X.K n t) := by
  intro pins s σ H v u Q I r hw
  obtain ⟨a, xs, e1, hq, hl, hw⟩ := hw
  subst e1
  cases r
  obtain ⟨its, rv, ht, hz⟩ := I.tuple hq
  refine assign_Tuple_tuple (I.ok.hd hc) ht (by simp [hn, ← hl, rv.length]) hst fun h' hx => ?_
  have I1 : Inv X pins σ H { s with heap := h' } := I.kept (t' := s.toks) fun b o e => hx b o (Nat.ne_of_lt (Heap.lt_size e)) e
  exact h pins _ σ H xs _ Q I1 (by simpa using rv) hw
/-- o[i] = .. -/
def gSub (to ti : TE) (t : TSet) : TG := fun v σ H Q => to σ H fun o H1 => ti σ H1 fun i H2 => t o i v H2 fun H3 => Q σ H3
theorem pg_sub {o i : Expr} {to ti : TE} {t : TSet} (ho : PE X o to) (hi : PE X i ti) (hs : PSet X t)
    (ha : ∀ v, assign (.Subscript o i pos) X.env v = (do
      let ov ← holding [v] (eval o X.env)
      let iv ← holding [v, ov] (eval i X.env)
      standAt pos
      holding [v, ov, iv] (setItem ov iv v)
      release [v, ov, iv] []) := by intro _; rfl) : PG X (.Subscript o i pos) (gSub to ti t) := by
  intro pins s σ H v u Q I r h
  rw [ha]
  refine wpAny_bind (wpAny_holding (thn (ho pins s σ H _ I h) fun ov s1 ⟨x, H1, I1, r1, q1⟩ => ?_))
  refine wpAny_bind (wpAny_holding (thn (hi pins s1 σ H1 _ I1 q1) fun iv s2 ⟨y, H2, I2, r2, q2⟩ => ?_))
  refine wpAny_bind (wpAny_standAt (wpAny_bind (wpAny_holding (thn (hs pins s2 σ H2 x y v ov iv u _ I2 r1 r2 r q2) fun _ s3 ⟨H3, I3, q3⟩ => ?_))))
  exact wpAny_release ⟨σ, H3, I3, q3⟩
/-- target = value -/
def tAsg (te : TE) (g : TG) : TS := fun D σ H => te σ H fun x H1 => g x σ H1 D.nx
theorem ps_asg {tg e : Expr} {te : TE} {g : TG} (he : PE X e te) (hg : PG X tg g) (hs : swapsWithSole [tg] e pos.line X.env = pure false := by rfl) (hw : swappedStores [tg] e X.env = pure none := by rfl)
    (h1 : (assignEach [tg] X.env).map (·.2) = [assign tg X.env] := by rfl) : PS X (.Assign [tg] e pos) (tAsg te g) := by
  intro pins s σ H D I h
  refine wpAny_Assign_stores (thn (he pins s σ H _ I h) fun v s1 ⟨x, H1, I1, r1, q1⟩ => ?_) hs hw
  rw [h1]
  exact thn (hg pins s1 σ H1 x v _ I1 r1 q1) fun _ s2 q => q
/-- name = value -/
theorem ps_set {i : Nat} {x : Str} {e : Expr} {te : TE} {pos' : Pos} (hN : X.N.Nodup) (hi : X.N[i]? = some x) (hx : Loc X.env.scope x) (he : PE X e te) (hs : swapsWith e (some (.Name x pos')) pos.line X.env = pure false := by rfl) (hf : X.fn x = true ∨ X.env.scope.names.lookup x = some .local := by first | exact .inl rfl | exact .inr rfl | assumption) :
    PS X (.Assign [.Name x pos'] e pos) (tAsg te (gName i)) := by
  intro pins s σ H D I h
  refine wpAny_Assign_Name (thn (he pins s σ H _ I h) fun v s1 ⟨y, H1, I1, r1, q1⟩ => ?_) hs
  exact store_ok I1 hN hi hx r1 (fun s2 I2 => ⟨_, H1, I2, q1⟩) hf
end

/-! ### while -/
section
variable {X : Cx} {pos : Pos}
/-- the invariant W with its measure -/
def tWhile (c : TT) (tb : TS) : TS := fun D σ H => ∃ W : Nat → St → Hp → Prop, (∃ m, W m σ H) ∧ ∀ m σ H, W m σ H →
  c σ H fun b H1 => if b = true then ∃ N : St → Hp → Prop, (∀ σ' H', N σ' H' → ∃ m', m' < m ∧ W m' σ' H') ∧ tb { D with nx := N, ct := N, bk := D.nx } σ H1 else D.nx σ H1
theorem ps_while {c : Expr} {body : List Stmt} {tc : TT} {tb : TS} (hp : PassesOwn (model X.prog X.w) X.A X.env X.xe) (hc : PT X c tc) (hb : PSs X body tb) : PS X (.While c body [] pos) (tWhile tc tb) := by
  intro pins s σ H D I h
  obtain ⟨W, ⟨m0, w0⟩, turn⟩ := h
  refine wpAny_While (codeAny_whileLoop (fun n s' => ∃ σ' H', Inv X pins σ' H' s' ∧ W n σ' H') ?_ m0 ⟨σ, H, I, w0⟩)
  rintro n s1 ⟨σ1, H1, I1, w1⟩
  refine wpAny_passesOwn hp (thn (hc pins s1 σ1 H1 _ I1 (turn n σ1 H1 w1)) fun b s2 ⟨H2, I2, q2⟩ => ?_)
  cases b with
  | true =>
    obtain ⟨N, hN, q2⟩ := q2
    rw [if_pos rfl]
    refine wpAny_passesOwn hp (thn (hb pins s2 σ1 H2 _ I2 q2) fun f s3 q3 => ?_)
    cases f with
    | next =>
      obtain ⟨σ3, H3, I3, n3⟩ := q3
      obtain ⟨m', hm, w3⟩ := hN σ3 H3 n3
      exact ⟨m', hm, σ3, H3, I3, w3⟩
    | cont =>
      obtain ⟨σ3, H3, I3, n3⟩ := q3
      obtain ⟨m', hm, w3⟩ := hN σ3 H3 n3
      exact ⟨m', hm, σ3, H3, I3, w3⟩
    | brk => exact q3
    | ret v => exact q3
  | false =>
    rw [if_neg Bool.false_ne_true]
    exact wpAny_execs_nil ⟨σ1, H2, I2, q2⟩
end

/-! ### what a loop or a comprehension walks -/
/-- at turn i: it yields x (the heap may grow), or it stops -/
structure It where
  go : Nat → Hp → Prop
  yld : Nat → Hp → V → Hp → Prop
  stop : Nat → Hp → Prop
/-- the iterator's own objects may turn: they are not the frame's, not pinned, younger than the entry (or a comprehension's own) -/
def FpOk (X : Cx) (pins : List (Addr × Obj)) (H : Hp) (b : Addr) : Prop :=
  H b = none ∧ b ≠ X.env.locals ∧ b ∉ X.fs ∧ (b ∈ X.ex ∨ X.s₀.heap.objs.size ≤ b) ∧ (∀ x c, X.env.cells.lookup x = some c → c ≠ b) ∧ ∀ p ∈ X.pn ++ pins, p.1 ≠ b
theorem Inv.fpOk {X : Cx} {pins : List (Addr × Obj)} {σ : St} {H H' : Hp} {s : Shared} {b : Addr} (I : Inv X pins σ H s) (hb : s.heap.objs.size ≤ b) (hn : H' b = none) : FpOk X pins H' b := by
  refine ⟨hn, Nat.ne_of_gt (Nat.lt_of_lt_of_le I.lt hb), I.nofs hb, .inr (Nat.le_trans I.sz hb), fun x c e z => ?_, fun p hp z => ?_⟩
  · obtain ⟨v, q⟩ := I.cell x c e
    exact absurd (Nat.lt_of_lt_of_le q.lt (by rw [z]; exact hb)) (Nat.lt_irrefl _)
  · exact absurd (Nat.lt_of_lt_of_le (Heap.lt_size (I.pin p hp).1) (by rw [z]; exact hb)) (Nat.lt_irrefl _)
structure Turn (P : Program) (w : World) (K : PySem.W.Frag) (tg : Expr) (J : It) (fp : List Addr) (it : Addr) (tn : Nat → Heap → Prop) : Prop where
  mem : it ∈ fp
  obj : ∀ i h, tn i h → ∀ b ∈ fp, ∃ o, h.get? b = some o ∧ ∀ v, o.data ≠ .cell v
  keep : ∀ i h h', tn i h → (∀ b ∈ fp, ∀ o, h.get? b = some o → h'.get? b = some o) → tn i h'
  item : ∀ (X : Cx), X.prog = P → X.w = w → X.K = K → X.calm = true → ∀ (i : Nat) (pins : List (Addr × Obj)) (s : Shared) (σ : St) (H : Hp) (E : Value → Shared → Prop), Inv X pins σ H s → (∀ b ∈ fp, FpOk X pins H b) → tn i s.heap → J.go i H →
    wpAny (model P w) X.A (pyNext (.ref it)) (fun r s1 => ∃ u, r = some u ∧
      wpAny (model P w) X.A (letOwnedTupleGo tg (.ref it) u) (fun _ s2 => ∃ x H', Inv X pins σ H' s2 ∧ RelV x u ∧ J.yld i H x H' ∧ tn (i + 1) s2.heap ∧ ∀ b ∈ fp, H' b = none) E s1) E s
  done : ∀ (X : Cx), X.prog = P → X.w = w → X.K = K → X.calm = true → ∀ (i : Nat) (pins : List (Addr × Obj)) (s : Shared) (σ : St) (H : Hp) (E : Value → Shared → Prop), Inv X pins σ H s → (∀ b ∈ fp, FpOk X pins H b) → tn i s.heap → J.stop i H →
    wpAny (model P w) X.A (pyNext (.ref it)) (fun r s1 => r = none ∧ Inv X pins σ H s1) E s
  self : ∀ (A : Around) (i : Nat) (s : Shared) (Q : Value → Shared → Prop) (E : Value → Shared → Prop), tn i s.heap → Q (.ref it) s → wpAny (model P w) A (pyIter (.ref it)) Q E s
abbrev TI := St → Hp → (It → Hp → Prop) → Prop
/-- an iterator has come -/
def PIE (X : Cx) (pins : List (Addr × Obj)) (σ : St) (tg : Expr) (R : It → Hp → Prop) (itv : Value) (s2 : Shared) : Prop :=
  ∃ (it : Addr) (fp : List Addr) (tn : Nat → Heap → Prop) (J : It) (H' : Hp), itv = .ref it ∧ Inv X pins σ H' s2 ∧ Turn X.prog X.w X.K tg J fp it tn ∧ tn 0 s2.heap ∧ (∀ b ∈ fp, FpOk X pins H' b) ∧ R J H'
def PI (X : Cx) (tg iter : Expr) (wi : TI) : Prop :=
  ∀ (pins : List (Addr × Obj)) (s : Shared) (σ : St) (H : Hp) (R : It → Hp → Prop), Inv X pins σ H s → wi σ H R →
    wpAny (model X.prog X.w) X.A (eval iter X.env) (fun v s1 => wpAny (model X.prog X.w) X.A (pyIter v) (PIE X pins σ tg R) X.xe s1) X.xe s

/-- the step ahead of the store is nothing for an iterator that keeps no tuple -/
theorem go_of {M : Model} {A : Around} {E : Value → Shared → Prop} {s : Shared} {tg : Expr} {it : Addr} {u : Value} {o : Obj} {n : String} {vs : Array Value} {Q : Unit → Shared → Prop} (ho : s.heap.get? it = some o) (hc : o.cls = .type n) (hd : o.data = .fields vs)
    (hn : ["enumerate", "zip", "dict_itemiterator", "dict_reverseitemiterator", "odict_iterator", "itertools.zip_longest", "itertools.pairwise"].contains n = false) (hQ : Q () s) : wpAny M A (letOwnedTupleGo tg (.ref it) u) Q E s := by
  unfold letOwnedTupleGo
  cases tg <;> first
    | exact wpAny_pure hQ
    | (cases u <;> first
        | exact wpAny_pure hQ
        | (refine wpAny_bind (wpAny_load ho ?_)
           rw [hc, hd]
           show wpAny M A (if (["enumerate", "zip", "dict_itemiterator", "dict_reverseitemiterator", "odict_iterator", "itertools.zip_longest", "itertools.pairwise"].contains n && vs[0]? == some (rawInt _)) = true then _ else _) Q E s
           rw [if_neg (by intro h; rw [hn, Bool.false_and] at h; cases h)]
           exact wpAny_pure hQ))

/-- the list at a, as it stands at each turn (a loop may append to it) -/
def Itl (K : PySem.W.Frag) (a : Addr) : It :=
  ⟨fun i H => ∃ xs x, SqL K H a xs ∧ xs[i]? = some x, fun i H x H' => H' = H ∧ ∀ xs, SqL K H a xs → xs[i]? = some x, fun i H => ∃ xs, SqL K H a xs ∧ xs.length ≤ i⟩
def Itt (K : PySem.W.Frag) (a : Addr) : It :=
  ⟨fun i H => ∃ xs x, SqT K H a xs ∧ xs[i]? = some x, fun i H x H' => H' = H ∧ ∀ xs, SqT K H a xs → xs[i]? = some x, fun i H => ∃ xs, SqT K H a xs ∧ xs.length ≤ i⟩
/-- lo, lo + 1, .. (n of them) -/
def Itr (lo : Int) (n : Nat) : It := ⟨fun i _ => i < n, fun i H x H' => H' = H ∧ x = .int (lo + i), fun i _ => n ≤ i⟩
theorem turn_list {P : Program} {w : World} {K : PySem.W.Frag} {tg : Expr} (a it : Addr) : Turn P w K tg (Itl K a) [it] it (fun i h => h.IsListIter it a i) where
  mem := by simp
  obj := fun i h st b hb => by
    have e : b = it := by simpa using hb
    subst e
    obtain ⟨o, e, c, d⟩ := st
    exact ⟨o, e, fun v z => by rw [d] at z; cases z⟩
  keep := fun i h h' st k => st.at fun o e => k it (by simp) o e
  item := by
    intro X hP hw hK hc i pins s σ H E I hf st hg
    subst hP hw hK
    obtain ⟨xs, x, hq, hx⟩ := hg
    obtain ⟨its, rv, p, hz⟩ := I.list hq
    obtain ⟨u, hu, ru⟩ := rv.get hx
    obtain ⟨f0, f1, f2, f3, f4, f5⟩ := hf it (by simp)
    refine wpAny_pyNext_list_item st p.isList (x := u) (by simpa using hu) fun h' st' sb => ?_
    have I1 : Inv X pins σ H { s with heap := h' } := I.turned (t' := s.toks) (fun b o hb e => (sb.2 b hb).trans e) f0 f1 f3 f4 f5
    obtain ⟨o, e, c, d⟩ := id st'
    exact ⟨u, rfl, go_of (s := { s with heap := h' }) e c d (by decide) ⟨x, H, I1, ru, ⟨rfl, fun ys hy => by rw [I.list_inj hy hq]; exact hx⟩, st', fun b hb => (hf b hb).1⟩⟩
  done := by
    intro X hP hw hK hc i pins s σ H E I hf st hg
    subst hP hw hK
    obtain ⟨xs, hq, hx⟩ := hg
    obtain ⟨its, rv, p, hz⟩ := I.list hq
    obtain ⟨f0, f1, f2, f3, f4, f5⟩ := hf it (by simp)
    have hl := rv.length
    exact wpAny_pyNext_list_end (I.ok.hd hc) st p.isList (by simp; omega) fun h' eb => ⟨rfl, I.turned (t' := s.toks) (fun b o hb e => eb b o hb e) f0 f1 f3 f4 f5⟩
  self := fun _ _ _ _ _ st h => wpAny_pyIter_listiter st h
theorem turn_tuple {P : Program} {w : World} {K : PySem.W.Frag} {tg : Expr} (a it : Addr) : Turn P w K tg (Itt K a) [it] it (fun i h => h.IsTupleIter it a i) where
  mem := by simp
  obj := fun i h st b hb => by
    have e : b = it := by simpa using hb
    subst e
    obtain ⟨o, e, c, d⟩ := st
    exact ⟨o, e, fun v z => by rw [d] at z; cases z⟩
  keep := fun i h h' st k => st.at fun o e => k it (by simp) o e
  item := by
    intro X hP hw hK hc i pins s σ H E I hf st hg
    subst hP hw hK
    obtain ⟨xs, x, hq, hx⟩ := hg
    obtain ⟨its, rv, p, hz⟩ := I.tuple hq
    obtain ⟨u, hu, ru⟩ := rv.get hx
    obtain ⟨f0, f1, f2, f3, f4, f5⟩ := hf it (by simp)
    refine wpAny_pyNext_tuple_item st (show s.heap.IsTuple a its.toArray from p) (x := u) (by simpa using hu) fun h' st' sb => ?_
    have I1 : Inv X pins σ H { s with heap := h' } := I.turned (t' := s.toks) (fun b o hb e => (sb.2 b hb).trans e) f0 f1 f3 f4 f5
    obtain ⟨o, e, c, d⟩ := id st'
    exact ⟨u, rfl, go_of (s := { s with heap := h' }) e c d (by decide) ⟨x, H, I1, ru, ⟨rfl, fun ys hy => by rw [I.tuple_inj hy hq]; exact hx⟩, st', fun b hb => (hf b hb).1⟩⟩
  done := by
    intro X hP hw hK hc i pins s σ H E I hf st hg
    subst hP hw hK
    obtain ⟨xs, hq, hx⟩ := hg
    obtain ⟨its, rv, p, hz⟩ := I.tuple hq
    obtain ⟨f0, f1, f2, f3, f4, f5⟩ := hf it (by simp)
    have hl := rv.length
    exact wpAny_pyNext_tuple_end (I.ok.hd hc) st (show s.heap.IsTuple a its.toArray from p) (by simp; omega) fun h' eb => ⟨rfl, I.turned (t' := s.toks) (fun b o hb e => eb b o hb e) f0 f1 f3 f4 f5⟩
  self := fun _ _ _ _ _ st h => wpAny_pyIter_tupleiter st h
theorem turn_range {P : Program} {w : World} {K : PySem.W.Frag} {tg : Expr} (it : Addr) (lo : Int) (n : Nat) : Turn P w K tg (Itr lo n) [it] it (fun i h => IsRangeIter h it (lo + (i : Nat) * 1) ((n : Int) - (i : Nat)) 1) where
  mem := by simp
  obj := fun i h st b hb => by
    have e : b = it := by simpa using hb
    subst e
    exact ⟨_, st, fun v z => by
      have z' : Data.fields _ = Data.cell v := z
      cases z'⟩
  keep := fun i h h' st k => k it (by simp) _ st
  item := by
    intro X hP hw hK hc i pins s σ H E I hf st hg
    subst hP hw hK
    obtain ⟨f0, f1, f2, f3, f4, f5⟩ := hf it (by simp)
    have W := Walks.range (prog := X.prog) (w := X.w) (I.ok.hd hc) it lo 1 n
    refine W.item i s _ _ hg st fun v h' tk hv st' kk => ?_
    obtain ⟨t, rfl⟩ := hv
    have I1 : Inv X pins σ H { s with heap := h', toks := tk } := I.turned (fun b o hb e => kk b o (by simpa using hb) e) f0 f1 f3 f4 f5
    refine ⟨_, rfl, go_of (s := { s with heap := h', toks := tk }) (n := "range_iterator") st' rfl rfl (by decide) ⟨.int (lo + i), H, I1, ⟨t, ?_⟩, ⟨rfl, rfl⟩, st', fun b hb => (hf b hb).1⟩⟩
    rw [Int.mul_one]
  done := by
    intro X hP hw hK hc i pins s σ H E I hf st hg
    subst hP hw hK
    obtain ⟨f0, f1, f2, f3, f4, f5⟩ := hf it (by simp)
    exact wpAny_pyNext_range_end (I.ok.hd hc) st (by have : n ≤ i := hg; omega) fun h' eb => ⟨rfl, I.turned (t' := s.toks) (fun b o hb e => eb b o hb e) f0 f1 f3 f4 f5⟩
  self := fun _ _ _ _ _ st h => wpAny_pyIter_rangeiter st h
end L2

namespace L2
open PySem PySem.Spec PyProof.Rows
section
variable {X : Cx} {tg : Expr}
def iList (K : PySem.W.Frag) (tl : TE) : TI := fun σ H R => tl σ H fun x H1 => ∃ a, x = .ref a ∧ (∃ xs, SqL K H1 a xs) ∧ R (Itl K a) H1
def iTup (K : PySem.W.Frag) (tl : TE) : TI := fun σ H R => tl σ H fun x H1 => ∃ a, x = .ref a ∧ (∃ xs, SqT K H1 a xs) ∧ R (Itt K a) H1
theorem pi_list {l : Expr} {tl : TE} (hl : PE X l tl) : PI X tg l (iList X.K tl) := by
  intro pins s σ H R I h
  refine thn (hl pins s σ H _ I h) fun v s1 ⟨x, H1, I1, r1, q1⟩ => ?_
  obtain ⟨a, e, ⟨xs, hq⟩, q⟩ := q1
  subst e
  cases r1
  obtain ⟨its, rv, p, hz⟩ := I1.list hq
  refine wpAny_pyIter_list p.isList ?_
  refine ⟨s1.heap.objs.size, [s1.heap.objs.size], _, _, H1, rfl, I1.kept (t' := s1.toks) fun b o e => Heap.get?_push_of_some _ e, turn_list a _, ⟨_, Heap.get?_push_size _ rfl, rfl, rfl⟩, fun b hb => ?_, q⟩
  have e : b = s1.heap.objs.size := by simpa using hb
  subst e
  exact I1.fpOk (Nat.le_refl _) (I1.hok.fresh (Nat.le_refl _))
theorem pi_tup {l : Expr} {tl : TE} (hl : PE X l tl) : PI X tg l (iTup X.K tl) := by
  intro pins s σ H R I h
  refine thn (hl pins s σ H _ I h) fun v s1 ⟨x, H1, I1, r1, q1⟩ => ?_
  obtain ⟨a, e, ⟨xs, hq⟩, q⟩ := q1
  subst e
  cases r1
  obtain ⟨its, rv, p, hz⟩ := I1.tuple hq
  refine wpAny_pyIter_tuple (show s1.heap.IsTuple a its.toArray from p) ?_
  refine ⟨s1.heap.objs.size, [s1.heap.objs.size], _, _, H1, rfl, I1.kept (t' := s1.toks) fun b o e => Heap.get?_push_of_some _ e, turn_tuple a _, ⟨_, Heap.get?_push_size _ rfl, rfl, rfl⟩, fun b hb => ?_, q⟩
  have e : b = s1.heap.objs.size := by simpa using hb
  subst e
  exact I1.fpOk (Nat.le_refl _) (I1.hok.fresh (Nat.le_refl _))
/-- a range object just made, walked -/
theorem range_it {pins : List (Addr × Obj)} {σ : St} {H : Hp} {s : Shared} {R : It → Hp → Prop} {E : Value → Shared → Prop} {lo hi : Int} {t u v : Tok} {tk : Nat} (I : Inv X pins σ H s) (h1 : -(2 ^ 62) ≤ lo) (h2 : lo < 2 ^ 62) (h3 : -(2 ^ 62) ≤ hi) (h4 : hi < 2 ^ 62)
    (q : R (Itr lo (hi - lo).toNat) H) : wpAny (model X.prog X.w) X.A (pyIter (.ref s.heap.objs.size)) (PIE X pins σ tg R) E { s with heap := s.heap.push { cls := .type "range", data := .fields #[.int lo t, .int hi u, .int 1 v] }, toks := tk } := by
  refine wpAny_pyIter_range (IsRange.new ..) (small_one h1 h2 h3 h4) ?_
  have I1 : Inv X pins σ H { s with heap := s.heap.push { cls := .type "range", data := .fields #[.int lo t, .int hi u, .int 1 v] }, toks := tk } := I.kept fun b o e => Heap.get?_push_of_some _ e
  refine ⟨(s.heap.push { cls := .type "range", data := .fields #[.int lo t, .int hi u, .int 1 v] }).objs.size, [(s.heap.push { cls := .type "range", data := .fields #[.int lo t, .int hi u, .int 1 v] }).objs.size], _, _, H, rfl,
    I1.kept (t' := tk) fun b o e => Heap.get?_push_of_some _ e, turn_range _ lo (hi - lo).toNat, ?_, fun b hb => ?_, q⟩
  · have e1 : lo + ((0 : Nat) : Int) * 1 = lo := by simp
    have e2 : (((hi - lo).toNat : Nat) : Int) - ((0 : Nat) : Int) = Builtin.Range.rangeSize lo hi 1 := by rw [rangeSize_one]; split <;> omega
    show IsRangeIter _ _ (lo + ((0 : Nat) : Int) * 1) ((((hi - lo).toNat : Nat) : Int) - ((0 : Nat) : Int)) 1
    rw [e1, e2]
    exact Heap.get?_push_size _ rfl
  · have e : b = (s.heap.push { cls := .type "range", data := .fields #[.int lo t, .int hi u, .int 1 v] }).objs.size := by simpa using hb
    subst e
    exact I1.fpOk (Nat.le_refl _) (I1.hok.fresh (Nat.le_refl _))
def iRng1 (ta : TA) : TI := fun σ H R => ta σ H fun vs H1 => ∃ j : Int, vs = [.int j] ∧ -(2 ^ 62) ≤ j ∧ j < 2 ^ 62 ∧ R (Itr 0 j.toNat) H1
theorem pi_range1 {a : Expr} {ta : TA} {p pos : Pos} (hg : Gl X "range") (hm : X.mg "range" = none) (ha : PA X [a] ta) (hs : starEach [a] X.env = [(false, eval a X.env)] := by rfl) : PI X tg (.Call (.Name "range" p) [a] [] pos) (iRng1 ta) := by
  intro pins s σ H R I h
  refine Call_ (ld_blt I hg hm boot_range (PyProof.Rows.callWith_type1 (thn (ha pos pins s σ H _ I h) fun us s1 ⟨vs, H1, I1, r1, q1⟩ => ?_) hs rfl))
  obtain ⟨j, e, q1, q2, q⟩ := q1
  subst e
  cases r1 with
  | cons r rr =>
    cases rr
    obtain ⟨t, rfl⟩ := r
    exact call_range_1 (range_it I1 (by omega) (by omega) q1 q2 (by simpa using q))
/-! ### for -/
/-- W: the invariant by the turn and a measure; N: what the body is to reach -/
def tFor (wi : TI) (g : TG) (tb : TS) : TS := fun D σ H => wi σ H fun J H1 => ∃ W : Nat → Nat → St → Hp → Prop, (∃ m, W 0 m σ H1) ∧ ∀ i m σ H, W i m σ H →
  (J.stop i H ∧ D.nx σ H) ∨ (J.go i H ∧ ∃ N : St → Hp → Prop, (∀ σ' H', N σ' H' → ∃ m', m' < m ∧ W (i + 1) m' σ' H') ∧ ∀ x H', J.yld i H x H' → g x σ H' fun σ2 H2 => tb { D with nx := N, ct := N, bk := D.nx } σ2 H2)
/-- the records at fp as they stand -/
def pinsAt (fp : List Addr) (h : Heap) : List (Addr × Obj) := fp.filterMap fun b => (h.get? b).map fun o => (b, o)
theorem mem_pinsAt {fp : List Addr} {h : Heap} {b : Addr} {o : Obj} (hb : b ∈ fp) (e : h.get? b = some o) : (b, o) ∈ pinsAt fp h := List.mem_filterMap.mpr ⟨b, hb, by rw [e]; rfl⟩
theorem of_pinsAt {fp : List Addr} {h : Heap} {p : Addr × Obj} (hp : p ∈ pinsAt fp h) : p.1 ∈ fp ∧ h.get? p.1 = some p.2 := by
  obtain ⟨b, hb, e⟩ := List.mem_filterMap.mp hp
  cases q : h.get? b with
  | none => rw [q] at e; cases e
  | some o =>
    rw [q] at e
    have e' : (b, o) = p := Option.some.inj e
    subst e'
    exact ⟨hb, q⟩
theorem Inv.pinned {pins : List (Addr × Obj)} {σ : St} {H : Hp} {s : Shared} {fp : List Addr} (I : Inv X pins σ H s) (hf : ∀ b ∈ fp, FpOk X pins H b) (ho : ∀ b ∈ fp, ∃ o, s.heap.get? b = some o ∧ ∀ v, o.data ≠ .cell v) : Inv X (pins ++ pinsAt fp s.heap) σ H s :=
  I.pins_of fun p hp => (List.mem_append.mp hp).elim (fun z => I.pin p (List.mem_append_right _ z)) fun z => by
    obtain ⟨hb, e⟩ := of_pinsAt z
    obtain ⟨f0, f1, f2, _⟩ := hf p.1 hb
    obtain ⟨o, e', d⟩ := ho p.1 hb
    rw [e] at e'; cases e'
    exact ⟨e, f0, f1, f2, d⟩
theorem Inv.unpinned {pins pl : List (Addr × Obj)} {σ : St} {H : Hp} {s : Shared} (I : Inv X (pins ++ pl) σ H s) : Inv X pins σ H s := I.pins_of fun p hp => I.pin p (List.mem_append_right _ (List.mem_append_left _ hp))
theorem ps_for {iter : Expr} {body : List Stmt} {wi : TI} {g : TG} {tb : TS} {pos : Pos} (hp : PassesOwn (model X.prog X.w) X.A X.env X.xe) (hc : X.calm = true) (hi : PI X tg iter wi) (hg : PG X tg g) (hb : PSs X body tb)
    (hs : ∀ x, foldedSetIterable iter X.env x = pure x := by intro _; rfl) : PS X (.For tg iter body [] pos) (tFor wi g tb) := by
  intro pins s σ H D I h
  refine wpAny_For (thn (hi pins s σ H _ I h) fun v s1 h1 => thn h1 fun itv s2 h2 => ?_) hs
  obtain ⟨it, fp, tn, J, H2, e, I2, T, st2, f2, W, ⟨m0, w0⟩, turn⟩ := h2
  subst e
  -- what stays true of the iterator's objects through the loop
  have stat : ∀ {H' : Hp}, (∀ b ∈ fp, H' b = none) → ∀ b ∈ fp, FpOk X pins H' b := fun hn b hb => ⟨hn b hb, (f2 b hb).2⟩
  refine codeAny_forLoop_any (fun n s' => ∃ i σ' H', Inv X pins σ' H' s' ∧ tn i s'.heap ∧ (∀ b ∈ fp, H' b = none) ∧ W i n σ' H') ?_ m0 ⟨0, σ, H2, I2, st2, fun b hb => (f2 b hb).1, w0⟩
  rintro n s3 ⟨i, σ3, H3, I3, st3, fr3, w3⟩
  rcases turn i n σ3 H3 w3 with ⟨stop, qn⟩ | ⟨go, N, hN, step⟩
  · refine wpAny_passesOwn hp (thn (T.done X rfl rfl rfl hc i pins s3 σ3 H3 X.xe I3 (stat fr3) st3 stop) fun r s4 ⟨hr, I4⟩ => ?_)
    subst hr
    exact wpAny_execs_nil ⟨σ3, H3, I4, qn⟩
  · refine wpAny_passesOwn hp (thn (T.item X rfl rfl rfl hc i pins s3 σ3 H3 X.xe I3 (stat fr3) st3 go) fun r s4 ⟨u, hr, h4⟩ => ?_)
    subst hr
    refine wpAny_passesOwn hp (thn h4 fun _ s5 ⟨x, H5, I5, r5, y5, st5, fr5⟩ => ?_)
    have I5' := I5.pinned (stat fr5) (T.obj _ _ st5)
    refine wpAny_passesOwn hp (thn (hg _ s5 σ3 H5 x u _ I5' r5 (step x H5 y5)) fun _ s6 ⟨σ6, H6, I6, q6⟩ => ?_)
    refine wpAny_passesOwn hp (thn (hb _ s6 σ6 H6 _ I6 q6) fun f s7 q7 => ?_)
    have again : ∀ {σ7 : St} {H7 : Hp}, Inv X (pins ++ pinsAt fp s5.heap) σ7 H7 s7 → N σ7 H7 → ∃ m, m < n ∧ ∃ i σ' H', Inv X pins σ' H' s7 ∧ tn i s7.heap ∧ (∀ b ∈ fp, H' b = none) ∧ W i m σ' H' := fun {σ7 H7} I7 n7 => by
      obtain ⟨m', hm, w7⟩ := hN σ7 H7 n7
      refine ⟨m', hm, i + 1, σ7, H7, I7.unpinned, T.keep _ _ _ st5 fun b hb o e => (I7.pin (b, o) (List.mem_append_right _ (List.mem_append_right _ (mem_pinsAt hb e)))).1, fun b hb => ?_, w7⟩
      obtain ⟨o, e, d⟩ := T.obj _ _ st5 b hb
      exact (I7.pin (b, o) (List.mem_append_right _ (List.mem_append_right _ (mem_pinsAt hb e)))).2.1
    cases f with
    | next => obtain ⟨σ7, H7, I7, n7⟩ := q7; exact again I7 n7
    | cont => obtain ⟨σ7, H7, I7, n7⟩ := q7; exact again I7 n7
    | brk => obtain ⟨σ7, H7, I7, q7⟩ := q7; exact ⟨σ7, H7, I7.unpinned, q7⟩
    | ret v => obtain ⟨x7, σ7, H7, I7, r7, q7⟩ := q7; exact ⟨x7, σ7, H7, I7.unpinned, r7, q7⟩
end

/-! ### the forms one uses -/
/-- over a list that the body leaves as it is -/
theorem for_list {K : PySem.W.Frag} {a : Addr} {xs : List V} {g : TG} {tb : TS} {D : Ends} {σ : St} {H : Hp} (Pv : Nat → St → Hp → Prop) (h0 : Pv 0 σ H) (hl : ∀ i σ H, i ≤ xs.length → Pv i σ H → SqL K H a xs)
    (hs : ∀ i x σ H, xs[i]? = some x → Pv i σ H → g x σ H fun σ2 H2 => tb { D with nx := Pv (i + 1), ct := Pv (i + 1), bk := D.nx } σ2 H2) (hd : ∀ σ H, Pv xs.length σ H → D.nx σ H) :
    ∃ W : Nat → Nat → St → Hp → Prop, (∃ m, W 0 m σ H) ∧ ∀ i m σ H, W i m σ H →
      ((Itl K a).stop i H ∧ D.nx σ H) ∨ ((Itl K a).go i H ∧ ∃ N : St → Hp → Prop, (∀ σ' H', N σ' H' → ∃ m', m' < m ∧ W (i + 1) m' σ' H') ∧ ∀ x H', (Itl K a).yld i H x H' → g x σ H' fun σ2 H2 => tb { D with nx := N, ct := N, bk := D.nx } σ2 H2) := by
  refine ⟨fun i m σ H => m = xs.length - i ∧ i ≤ xs.length ∧ Pv i σ H, ⟨xs.length, by simp, Nat.zero_le _, h0⟩, ?_⟩
  rintro i m σ H ⟨rfl, hi, p⟩
  have q := hl i σ H hi p
  by_cases hlt : i < xs.length
  · refine .inr ⟨⟨xs, xs[i], q, by simp [hlt]⟩, Pv (i + 1), fun σ' H' p' => ⟨xs.length - (i + 1), by omega, rfl, hlt, p'⟩, fun x H' y => ?_⟩
    obtain ⟨e, y⟩ := y
    subst e
    exact hs i x σ _ (y xs q) p
  · have e : i = xs.length := by omega
    subst e
    exact .inl ⟨⟨xs, q, Nat.le_refl _⟩, hd σ H p⟩
theorem for_tup {K : PySem.W.Frag} {a : Addr} {xs : List V} {g : TG} {tb : TS} {D : Ends} {σ : St} {H : Hp} (Pv : Nat → St → Hp → Prop) (h0 : Pv 0 σ H) (hl : ∀ i σ H, i ≤ xs.length → Pv i σ H → SqT K H a xs)
    (hs : ∀ i x σ H, xs[i]? = some x → Pv i σ H → g x σ H fun σ2 H2 => tb { D with nx := Pv (i + 1), ct := Pv (i + 1), bk := D.nx } σ2 H2) (hd : ∀ σ H, Pv xs.length σ H → D.nx σ H) :
    ∃ W : Nat → Nat → St → Hp → Prop, (∃ m, W 0 m σ H) ∧ ∀ i m σ H, W i m σ H →
      ((Itt K a).stop i H ∧ D.nx σ H) ∨ ((Itt K a).go i H ∧ ∃ N : St → Hp → Prop, (∀ σ' H', N σ' H' → ∃ m', m' < m ∧ W (i + 1) m' σ' H') ∧ ∀ x H', (Itt K a).yld i H x H' → g x σ H' fun σ2 H2 => tb { D with nx := N, ct := N, bk := D.nx } σ2 H2) := by
  refine ⟨fun i m σ H => m = xs.length - i ∧ i ≤ xs.length ∧ Pv i σ H, ⟨xs.length, by simp, Nat.zero_le _, h0⟩, ?_⟩
  rintro i m σ H ⟨rfl, hi, p⟩
  have q := hl i σ H hi p
  by_cases hlt : i < xs.length
  · refine .inr ⟨⟨xs, xs[i], q, by simp [hlt]⟩, Pv (i + 1), fun σ' H' p' => ⟨xs.length - (i + 1), by omega, rfl, hlt, p'⟩, fun x H' y => ?_⟩
    obtain ⟨e, y⟩ := y
    subst e
    exact hs i x σ _ (y xs q) p
  · have e : i = xs.length := by omega
    subst e
    exact .inl ⟨⟨xs, q, Nat.le_refl _⟩, hd σ H p⟩
theorem for_range {lo : Int} {n : Nat} {g : TG} {tb : TS} {D : Ends} {σ : St} {H : Hp} (Pv : Nat → St → Hp → Prop) (h0 : Pv 0 σ H)
    (hs : ∀ i σ H, i < n → Pv i σ H → g (.int (lo + i)) σ H fun σ2 H2 => tb { D with nx := Pv (i + 1), ct := Pv (i + 1), bk := D.nx } σ2 H2) (hd : ∀ σ H, Pv n σ H → D.nx σ H) :
    ∃ W : Nat → Nat → St → Hp → Prop, (∃ m, W 0 m σ H) ∧ ∀ i m σ H, W i m σ H →
      ((Itr lo n).stop i H ∧ D.nx σ H) ∨ ((Itr lo n).go i H ∧ ∃ N : St → Hp → Prop, (∀ σ' H', N σ' H' → ∃ m', m' < m ∧ W (i + 1) m' σ' H') ∧ ∀ x H', (Itr lo n).yld i H x H' → g x σ H' fun σ2 H2 => tb { D with nx := N, ct := N, bk := D.nx } σ2 H2) := by
  refine ⟨fun i m σ H => m = n - i ∧ i ≤ n ∧ Pv i σ H, ⟨n, by simp, Nat.zero_le _, h0⟩, ?_⟩
  rintro i m σ H ⟨rfl, hi, p⟩
  by_cases hlt : i < n
  · refine .inr ⟨hlt, Pv (i + 1), fun σ' H' p' => ⟨n - (i + 1), by omega, rfl, hlt, p'⟩, fun x H' y => ?_⟩
    obtain ⟨e, y⟩ := y
    subst e y
    exact hs i σ _ hlt p
  · have e : i = n := by omega
    subst e
    exact .inl ⟨Nat.le_refl _, hd σ H p⟩
end L2

namespace L2
open PySem PySem.Spec PyProof.Rows

abbrev R2 := V → V → Hp → VK → Prop
/-- a two-place operation on values: f is binaryOp op, inplaceOp op or compareOp op -/
def OpR (X : Cx) (f : Value → Value → Sem Value) (r : R2) : Prop :=
  ∀ (pins : List (Addr × Obj)) (s : Shared) (σ : St) (H : Hp) (x y : V) (v u : Value) (Q : VK), Inv X pins σ H s → RelV x v → RelV y u → r x y H Q →
    wpAny (model X.prog X.w) X.A (f v u) (EP X pins σ Q) X.xe s
/-- a one-place operation -/
def UnR (X : Cx) (f : Value → Sem Value) (r : V → Hp → VK → Prop) : Prop :=
  ∀ (pins : List (Addr × Obj)) (s : Shared) (σ : St) (H : Hp) (x : V) (v : Value) (Q : VK), Inv X pins σ H s → RelV x v → r x H Q →
    wpAny (model X.prog X.w) X.A (f v) (EP X pins σ Q) X.xe s
/-- a call of a value that is known (a builtin, a type) with values -/
def CallR (X : Cx) (f : Value) (r : List V → Hp → VK → Prop) : Prop :=
  ∀ (pins : List (Addr × Obj)) (s : Shared) (σ : St) (H : Hp) (xs : List V) (us : List Value) (Q : VK), Inv X pins σ H s → Vals xs us → r xs H Q →
    wpAny (model X.prog X.w) X.A (call f us) (EP X pins σ Q) X.xe s
def tOp (r : R2) (ta tb : TE) : TE := fun σ H Q => ta σ H fun x H1 => tb σ H1 fun y H2 => r x y H2 Q
def tUn (r : V → Hp → VK → Prop) (ta : TE) : TE := fun σ H Q => ta σ H fun x H1 => r x H1 Q
/-- ints in, under C, and a value out -/
def rI (C : Int → Int → Prop) (g : Int → Int → V) : R2 := fun x y H Q => ∃ i j, x = .int i ∧ y = .int j ∧ C i j ∧ Q (g i j) H
def rI0 (g : Int → Int → V) : R2 := fun x y H Q => ∃ i j, x = .int i ∧ y = .int j ∧ Q (g i j) H
def rU (g : Int → V) : V → Hp → VK → Prop := fun x H Q => ∃ i, x = .int i ∧ Q (g i) H

section
variable {X : Cx} {a b c : Expr} {ta tb tc : TE} {pos : Pos}

theorem binT (ha : PE X a ta) (hb : PE X b tb) {pins : List (Addr × Obj)} {s : Shared} {σ : St} {H : Hp} {R : V → V → Hp → Prop} (I : Inv X pins σ H s)
    (h : ta σ H fun x H1 => tb σ H1 fun y H2 => R x y H2) {Q : Value → Shared → Prop} {f : Value → Value → Sem Value}
    (hf : ∀ v u s2 x y H2, Inv X pins σ H2 s2 → RelV x v → RelV y u → R x y H2 → wpAny (model X.prog X.w) X.A (f v u) Q X.xe s2) :
    wpAny (model X.prog X.w) X.A (eval a X.env) (fun v s₁ => wpAny (model X.prog X.w) X.A (eval b X.env) (fun u s₂ => wpAny (model X.prog X.w) X.A (f v u) Q X.xe s₂) X.xe s₁) X.xe s := by
  refine thn (ha pins s σ H _ I h) fun v s1 ⟨x, H1, I1, r1, q1⟩ => ?_
  refine thn (hb pins s1 σ H1 _ I1 q1) fun u s2 ⟨y, H2, I2, r2, q2⟩ => ?_
  exact hf v u s2 x y H2 I2 r1 r2 q2

theorem pe_op {op : Operator} {r : R2} (ho : OpR X (binaryOp op) r) (ha : PE X a ta) (hb : PE X b tb) : PE X (.BinOp a op b pos) (tOp r ta tb) := by
  intro pins s σ H Q I h
  exact wpAny_BinOp (binT ha hb I h fun v u s2 x y H2 I2 rx ry q => ho pins s2 σ H2 x y v u Q I2 rx ry q)
theorem pe_un {op : UnaryOp} {r : V → Hp → VK → Prop} (ho : UnR X (unaryOp op) r) (ha : PE X a ta) : PE X (.UnaryOp op a pos) (tUn r ta) := by
  intro pins s σ H Q I h
  exact UnaryOp_ (thn (ha pins s σ H _ I h) fun v s1 ⟨x, H1, I1, r1, q1⟩ => ho pins s1 σ H1 x v Q I1 r1 q1)
/-! ### ints -/
theorem opI {f : Value → Value → Sem Value} {C : Int → Int → Prop} {g : Int → Int → Int}
    (rule : ∀ (i j : Int) (t u : Tok) (s : Shared) (Q : Value → Shared → Prop) (E : Value → Shared → Prop), C i j → Q (.int (g i j) s.toks) { s with toks := s.toks + 1 } → wpAny (model X.prog X.w) X.A (f (.int i t) (.int j u)) Q E s) :
    OpR X f (rI C fun i j => .int (g i j)) := by
  intro pins s σ H x y v u Q I rx ry h
  obtain ⟨i, j, rfl, rfl, hc, q⟩ := h
  obtain ⟨t, rfl⟩ := rx
  obtain ⟨t', rfl⟩ := ry
  exact rule i j t t' s _ _ hc ⟨.int (g i j), H, I.tok _, ⟨_, rfl⟩, q⟩
theorem opI0 {f : Value → Value → Sem Value} {g : Int → Int → Int}
    (rule : ∀ (i j : Int) (t u : Tok) (s : Shared) (Q : Value → Shared → Prop) (E : Value → Shared → Prop), Q (.int (g i j) s.toks) { s with toks := s.toks + 1 } → wpAny (model X.prog X.w) X.A (f (.int i t) (.int j u)) Q E s) :
    OpR X f (rI0 fun i j => .int (g i j)) := by
  intro pins s σ H x y v u Q I rx ry h
  obtain ⟨i, j, rfl, rfl, q⟩ := h
  obtain ⟨t, rfl⟩ := rx
  obtain ⟨t', rfl⟩ := ry
  exact rule i j t t' s _ _ ⟨.int (g i j), H, I.tok _, ⟨_, rfl⟩, q⟩
theorem opB0 {f : Value → Value → Sem Value} {g : Int → Int → Bool}
    (rule : ∀ (i j : Int) (t u : Tok) (s : Shared) (Q : Value → Shared → Prop) (E : Value → Shared → Prop), Q (.bool (g i j)) s → wpAny (model X.prog X.w) X.A (f (.int i t) (.int j u)) Q E s) :
    OpR X f (rI0 fun i j => .bl (g i j)) := by
  intro pins s σ H x y v u Q I rx ry h
  obtain ⟨i, j, rfl, rfl, q⟩ := h
  obtain ⟨t, rfl⟩ := rx
  obtain ⟨t', rfl⟩ := ry
  exact rule i j t t' s _ _ ⟨.bl (g i j), H, I, rfl, q⟩

def CDiv (i j : Int) : Prop := 0 < j ∧ j < 1073741824
def CMul (i j : Int) : Prop := (-(2 ^ 64) < i ∧ i < 2 ^ 64) ∨ (-(2 ^ 64) < j ∧ j < 2 ^ 64)
theorem CMul.ok {i j : Int} (h : CMul i j) : IntMulOk i j := by
  rcases h with ⟨h1, h2⟩ | ⟨h1, h2⟩
  · exact .of_left (intBits_le_64 h1 h2)
  · exact .of_right (intBits_le_64 h1 h2)
theorem op_add : OpR X (binaryOp .Add) (rI0 fun i j => .int (i + j)) := opI0 fun _ _ _ _ _ _ _ q => add_int q
theorem op_sub : OpR X (binaryOp .Sub) (rI0 fun i j => .int (i - j)) := opI0 fun _ _ _ _ _ _ _ q => sub_int q
theorem op_mul : OpR X (binaryOp .Mult) (rI CMul fun i j => .int (i * j)) := opI fun _ _ _ _ _ _ _ hc q => mul_int q hc.ok
/-- // by a positive divisor -/
theorem op_fdiv : OpR X (binaryOp .FloorDiv) (rI CDiv fun i j => .int (i / j)) := opI fun i j _ _ _ _ _ hc q => by
  have h1 : (0 : Int) < j := hc.1
  have h2 : j < 1073741824 := hc.2
  exact floordiv_int (by omega) (by rw [Int.fdiv_eq_ediv_of_nonneg i (by omega)]; exact q) (.inl (PyProof.noPylong_small (by omega)))
/-- % by a positive divisor of any size -/
theorem op_mod : OpR X (binaryOp .Mod) (rI (fun _ j => 0 < j) fun i j => .int (i % j)) := opI fun i j _ _ _ _ _ hc q => by
  have h1 : (0 : Int) < j := hc
  exact mod_int' (by omega) (by rw [Int.fmod_eq_emod_of_nonneg i (by omega)]; exact q)
theorem unI {f : Value → Sem Value} {g : Int → Int}
    (rule : ∀ (i : Int) (t : Tok) (s : Shared) (Q : Value → Shared → Prop) (E : Value → Shared → Prop), Q (.int (g i) s.toks) { s with toks := s.toks + 1 } → wpAny (model X.prog X.w) X.A (f (.int i t)) Q E s) :
    UnR X f (rU fun i => .int (g i)) := by
  intro pins s σ H x v Q I rx h
  obtain ⟨i, rfl, q⟩ := h
  obtain ⟨t, rfl⟩ := rx
  exact rule i t s _ _ ⟨.int (g i), H, I.tok _, ⟨_, rfl⟩, q⟩
theorem un_neg : UnR X (unaryOp .USub) (rU fun i => .int (-i)) := unI fun _ _ _ _ _ q => neg_int q
/-! ### bools among ints: n += (a < b) -/
end

/-! ### comparisons -/
/-- the scalars that == tells apart as data does -/
def scal : V → V → Bool
  | .non, .non => true | .non, .int _ => true | .int _, .non => true | .non, .bl _ => true | .bl _, .non => true | .non, .str _ => true | .str _, .non => true
  | .int _, .int _ => true | .bl _, .bl _ => true | .str _, .str _ => true | .byt _, .byt _ => true
  | .int _, .str _ => true | .str _, .int _ => true | .bl _, .str _ => true | .str _, .bl _ => true
  | _, _ => false
def rEq : R2 := fun x y H Q => scal x y = true ∧ Q (.bl (decide (x = y))) H
theorem dec_int {i j : Int} : decide (V.int i = V.int j) = (i == j) := by
  rw [Bool.eq_iff_iff]
  simp
theorem dec_bl {i j : Bool} : decide (V.bl i = V.bl j) = (i == j) := by
  rw [Bool.eq_iff_iff]
  simp
theorem dec_str {i j : Str} : decide (V.str i = V.str j) = (i == j) := by
  rw [Bool.eq_iff_iff]
  simp
theorem dec_byt {i j : Array UInt8} : decide (V.byt i = V.byt j) = (i.toList == j.toList) := by
  rw [Bool.eq_iff_iff]
  cases i
  cases j
  simp

section
variable {X : Cx} {a b c : Expr} {ta tb tc : TE} {pos : Pos}
theorem fin_bl {pins : List (Addr × Obj)} {σ : St} {H : Hp} {s : Shared} {Q : VK} {k k' : Bool} (I : Inv X pins σ H s) (q : Q (.bl k) H) (e : k = k') : EP X pins σ Q (.bool k') s := by
  subst e
  exact ⟨.bl k, H, I, rfl, q⟩
theorem op_eq : OpR X (compareOp .Eq) rEq := by
  intro pins s σ H x y v u Q I rx ry h
  obtain ⟨hs, q⟩ := h
  cases x with
  | non =>
    cases rx
    cases y with
    | non => cases ry; exact PySem.EqNone.eq_none_none (fin_bl I q (by simp))
    | bl j => cases ry; exact PySem.EqNone.eq_none_bool (fin_bl I q (by simp))
    | int j => obtain ⟨t', rfl⟩ := ry; exact PySem.EqNone.eq_none_int (fin_bl I q (by simp))
    | str j => obtain ⟨t', rfl⟩ := ry; exact PySem.EqNone.eq_none_str (fin_bl I q (by simp))
    | _ => exact absurd (show false = true from hs) Bool.false_ne_true
  | bl i =>
    cases rx
    cases y with
    | non => cases ry; exact PySem.EqNone.eq_bool_none (fin_bl I q (by simp))
    | bl j => cases ry; exact eq_bool (fin_bl I q dec_bl)
    | str j => obtain ⟨t', rfl⟩ := ry; exact PySem.EqMixed.eq_bool_str (fin_bl I q (by simp))
    | _ => exact absurd (show false = true from hs) Bool.false_ne_true
  | int i =>
    obtain ⟨t, rfl⟩ := rx
    cases y with
    | non => cases ry; exact PySem.EqNone.eq_int_none (fin_bl I q (by simp))
    | int j => obtain ⟨t', rfl⟩ := ry; exact eq_int (fin_bl I q dec_int)
    | str j => obtain ⟨t', rfl⟩ := ry; exact PySem.EqMixed.eq_int_str (fin_bl I q (by simp))
    | _ => exact absurd (show false = true from hs) Bool.false_ne_true
  | str i =>
    obtain ⟨t, rfl⟩ := rx
    cases y with
    | non => cases ry; exact PySem.EqNone.eq_str_none (fin_bl I q (by simp))
    | bl j => cases ry; exact PySem.EqMixed.eq_str_bool (fin_bl I q (by simp))
    | int j => obtain ⟨t', rfl⟩ := ry; exact PySem.EqMixed.eq_str_int (fin_bl I q (by simp))
    | str j => obtain ⟨t', rfl⟩ := ry; exact eq_str (fin_bl I q dec_str)
    | _ => exact absurd (show false = true from hs) Bool.false_ne_true
  | byt i =>
    obtain ⟨t, rfl⟩ := rx
    cases y with
    | byt j => obtain ⟨t', rfl⟩ := ry; exact PySem.W.eq_bytes (fin_bl I q dec_byt)
    | _ => exact absurd (show false = true from hs) Bool.false_ne_true
  | _ => cases y <;> exact absurd (show false = true from hs) Bool.false_ne_true
theorem op_lt : OpR X (compareOp .Lt) (rI0 fun i j => .bl (decide (i < j))) := opB0 fun _ _ _ _ _ _ _ q => lt_int q
theorem op_gt : OpR X (compareOp .Gt) (rI0 fun i j => .bl (decide (j < i))) := opB0 fun _ _ _ _ _ _ _ q => gt_int q
/-- two rules for one operation: by cases -/
theorem OpR.or {f : Value → Value → Sem Value} {r r' : R2} (h : OpR X f r) (h' : OpR X f r') : OpR X f (fun x y H Q => r x y H Q ∨ r' x y H Q) := by
  intro pins s σ H x y v u Q I rx ry q
  rcases q with q | q
  · exact h pins s σ H x y v u Q I rx ry q
  · exact h' pins s σ H x y v u Q I rx ry q

theorem nomark (b : Expr) {op : CmpOp} (h : op ≠ .In := by decide) (h2 : op ≠ .NotIn := by decide) : behindInMarks op b = false := by
  have e1 : (op == CmpOp.In) = false := by cases op <;> first | rfl | exact absurd rfl h
  have e2 : (op == CmpOp.NotIn) = false := by cases op <;> first | rfl | exact absurd rfl h2
  cases b <;> simp [behindInMarks, e1, e2]
/-- a comparison as a value; hm: nomark b, or (for in, not in) by with_unfolding_all rfl -/
theorem pe_cmpR {op : CmpOp} {r : R2} (ho : OpR X (compareOp op) r) (ha : PE X a ta) (hb : PE X b tb) (hm : behindInMarks op b = false) : PE X (.Compare a [op] [b] pos) (tOp r ta tb) := by
  intro pins s σ H Q I h
  exact wpAny_Compare1 (binT ha hb I h fun v u s2 x y H2 I2 rx ry q => ho pins s2 σ H2 x y v u Q I2 rx ry q) hm
/-- a reading of a value as a test -/
def tTest (t : TE) : TT := fun σ H Q => t σ H fun x H' => ∃ k, x = .bl k ∧ Q k H'
theorem pt_cmpR {op : CmpOp} {r : R2} (ho : OpR X (compareOp op) r) (ha : PE X a ta) (hb : PE X b tb) (hm : behindInMarks op b = false) : PT X (.Compare a [op] [b] pos) (tTest (tOp r ta tb)) := by
  intro pins s σ H Q I h
  refine wpAny_isTrue_Compare1 (thn (ha pins s σ H _ I h) fun v s1 ⟨x, H1, I1, r1, q1⟩ => thn (hb pins s1 σ H1 _ I1 q1) fun u s2 ⟨y, H2, I2, r2, q2⟩ =>
    thn (ho pins s2 σ H2 x y v u _ I2 r1 r2 q2) fun c s3 ⟨z, H3, I3, r3, k, e, q3⟩ => ?_) hm
  subst e
  cases r3
  exact wpAny_truthy_bool ⟨H3, I3, q3⟩
/-! ### truth -/
theorem line63 : (sizeLine : Nat) < 2 ^ 63 := by rw [sizeLine_eq]; decide
/-! ### strs and bytes -/
theorem op_add_str : OpR X (binaryOp .Add) (fun x y H Q => ∃ i j, x = .str i ∧ y = .str j ∧ i.length + j.length ≤ sizeLine ∧ Q (.str (i ++ j)) H) := by
  intro pins s σ H x y v u Q I rx ry h
  obtain ⟨i, j, rfl, rfl, hz, q⟩ := h
  obtain ⟨t, rfl⟩ := rx
  obtain ⟨t', rfl⟩ := ry
  exact add_str (fun t' tk => ⟨.str (i ++ j), H, I.tok _, ⟨_, rfl⟩, q⟩) hz
/-! ### scalar builtins, by CallR -/
theorem vals1 {x : V} {us : List Value} (r : Vals [x] us) : ∃ u, us = [u] ∧ RelV x u := by
  cases r with
  | cons r1 r2 => cases r2; exact ⟨_, rfl, r1⟩
theorem call_int1 : CallR X (.type "int") (fun xs H Q => (∃ i, xs = [.int i] ∧ Q (.int i) H) ∨ ∃ k, xs = [.bl k] ∧ Q (.int (if k then 1 else 0)) H) := by
  intro pins s σ H xs us Q I r h
  rcases h with ⟨i, rfl, q⟩ | ⟨k, rfl, q⟩
  · obtain ⟨u, rfl, t, rfl⟩ := vals1 r
    exact call_int_int ⟨.int i, H, I, ⟨_, rfl⟩, q⟩
  · obtain ⟨u, rfl, r1⟩ := vals1 r
    cases r1
    exact call_int_bool ⟨.int (if k then 1 else 0), H, I.tok _, ⟨_, rfl⟩, q⟩
theorem call_str_int : CallR X (.type "str") (fun xs H Q => ∃ i, xs = [.int i] ∧ i.natAbs.log2 < 1920 ∧ Q (.str (toString i)) H) := by
  intro pins s σ H xs us Q I r h
  obtain ⟨i, rfl, hz, q⟩ := h
  obtain ⟨u, rfl, t, rfl⟩ := vals1 r
  exact PySem.P.str_of_int hz ⟨.str _, H, I.tok _, ⟨_, rfl⟩, q⟩
end
end L2

namespace L2
open PySem PySem.Spec PyProof.Rows

/-! ### an instance, its attributes a map -/
structure ObjM (h : Heap) (x dx C : Addr) (mA : Str → Option Value) : Prop where
  obj : h.get? x = some (PySem.W.instObj C dx)
  ns : h.Ns1 dx mA
  ne : dx ≠ x

theorem lookIn_ns {h : Heap} {dx : Addr} {mA : Str → Option Value} (n : h.Ns1 dx mA) : ∃ od, h.get? dx = some od ∧ ∀ name, PySem.W.lookIn name od = some (mA name) := by
  obtain ⟨o, es, ep, ho, hd, hk, _, hm⟩ := n
  refine ⟨o, ho, fun name => ?_⟩
  have e := hm name
  unfold nsFind findBy at e
  rw [← Array.find?_toList] at e
  unfold PySem.W.lookIn
  rw [hd]
  dsimp only
  split
  · rename_i y q
    rw [q] at e
    exact congrArg some e
  · rename_i q
    rw [q] at e
    have a : es.toList.any (·.refKey) = false := by
      rw [List.any_eq_false]
      intro y hy
      obtain ⟨z, t, hkey⟩ := hk y (Array.mem_toList_iff.mp hy)
      simp [DictEntry.refKey, hkey]
    have a' : ¬ es.toList.any (·.refKey) = true := by rw [a]; exact Bool.false_ne_true
    rw [if_neg a']
    exact congrArg some e

theorem ObjM.look {h : Heap} {x dx C : Addr} {mA : Str → Option Value} (I : ObjM h x dx C mA) : ∃ od, PySem.W.InstAt h x (PySem.W.instObj C dx) C (some od) ∧ ∀ name, PySem.W.lookIn name od = some (mA name) :=
  let ⟨od, ho, hl⟩ := lookIn_ns I.ns
  ⟨od, ⟨I.obj, rfl, rfl, ho⟩, hl⟩

section
variable {prog : Program} {w : World} {A : Around} {E : Value → Shared → Prop} {s : Shared} {K : PySem.W.Frag} {x dx C f : Addr} {mA : Str → Option Value} {name : Str} {v : Value}

end

/-! ### the attributes as a list of pairs -/
section
variable {P : Program} {w : World} {H H' : Hp} {h h' : Heap} {a C dx : Addr} {fs fs' : List (Str × V)}
theorem ins_get (hok : HOk P w H h) (e : H a = some (.ins C dx fs)) : ∃ mA, ObjM h a dx C mA ∧ (∀ f, RelO (fs.lookup f) (mA f)) ∧ PySem.Within mA (fs.map (·.1)) ∧ fs.length ≤ 1000 ∧ H dx = some (.own a) := by
  obtain ⟨d, z, ne, ob, mA, n, r, q⟩ := (show ObjOk P w H h a (.ins C dx fs) from hok a _ e)
  exact ⟨mA, ⟨ob, n, ne⟩, r, q, z, d⟩
end

/-! ### what of the text a class must have -/
structure Cls (K : PySem.W.Frag) (C : Addr) : Prop where
  pg : PySem.W.plainGet K C Str.empty = true
  hd : PySem.W.hasDictIn K C = true
  po : PySem.W.plainOver K C = true
  sa : PySem.W.findIn K (.ref C) "__setattr__" = some (some (.builtin "object.__setattr__"))
theorem Cls.get {K : PySem.W.Frag} {C : Addr} (c : Cls K C) (f : Str) : PySem.W.plainGet K C f = true := c.pg
/-- a constant of the class -/
structure Con (K : PySem.W.Frag) (C : Addr) (f : Str) (v : V) (u : Value) : Prop where
  at_ : PySem.W.findIn K (.ref C) f = some (some u)
  rel : RelV v u
  get : PySem.W.specialIn K u "__get__" = some none
  cp : PySem.W.copiedNames.contains f = false
/-- a method: a plain def of the class or of one above it -/
structure Meth (K : PySem.W.Frag) (C : Addr) (m : Str) (f : Addr) : Prop where
  at_ : PySem.W.findIn K (.ref C) m = some (some (.ref f))
  fn : PySem.W.isFn K (.ref f) = true
  kp : PySem.W.keepIn K (.ref f) = true

section
variable {X : Cx} {pins : List (Addr × Obj)} {σ : St} {H : Hp} {s : Shared} {a C dx : Addr} {fs : List (Str × V)} {f : Str} {v : V} {A : Around} {E : Value → Shared → Prop}

/-- a new instance, tracked, without attributes -/
theorem Inv.made (I : Inv X pins σ H s) : Inv X pins σ (upd (upd H s.heap.objs.size (.own (s.heap.objs.size + 1))) (s.heap.objs.size + 1) (.ins C s.heap.objs.size []))
    { s with heap := (s.heap.push PySem.W.emptyDict).push (PySem.W.instObj C s.heap.objs.size) } := by
  have e1 : (s.heap.push PySem.W.emptyDict).get? s.heap.objs.size = some PySem.W.emptyDict := Heap.get?_push_size s.heap rfl
  have e2 : ((s.heap.push PySem.W.emptyDict).push (PySem.W.instObj C s.heap.objs.size)).get? (s.heap.objs.size + 1) = some (PySem.W.instObj C s.heap.objs.size) := by
    have := Heap.get?_push_size (s.heap.push PySem.W.emptyDict) (o := PySem.W.instObj C s.heap.objs.size) rfl
    rwa [Heap.size_push] at this
  have e3 : (s.heap.push PySem.W.emptyDict).Ns s.heap.objs.size (fun _ => none) := ⟨PySem.W.emptyDict, #[], _, e1, rfl, (fun e he => absurd he (by simp)), fun _ => rfl⟩
  have I1 := I.laid (a := s.heap.objs.size) (o := .own (s.heap.objs.size + 1)) (h' := s.heap.push PySem.W.emptyDict) (t' := s.toks) (fun b u q => Heap.get?_push_of_some _ q) (Nat.le_refl _) ⟨_, e1⟩
  refine I1.laid (a := s.heap.objs.size + 1) (o := .ins C s.heap.objs.size []) (t' := s.toks) (fun b u q => Heap.get?_push_of_some _ q) (Nat.le_of_eq (Heap.size_push _ _)) ?_
  have ne : s.heap.objs.size ≠ s.heap.objs.size + 1 := Nat.ne_of_lt (Nat.lt_succ_self _)
  refine ⟨by rw [upd_ne ne, upd_same], Nat.zero_le _, ne, e2, fun _ => none, (Heap.Ns1.of_empty e3).at fun o q => Heap.get?_push_of_some _ q, fun _ => True.intro, fun y hy => absurd rfl hy⟩

end

/-! ### readings and rules -/
section
variable {X : Cx} {o e value : Expr} {f : Str} {pos pos' tpos : Pos} {ta tv : TE}
end

/-! ### isinstance -/
section
variable {X : Cx} {pins : List (Addr × Obj)} {σ : St} {H : Hp} {s : Shared} {A : Around} {E : Value → Shared → Prop} {Q : Value → Shared → Prop} {c : Value} {b : Bool}
/-- the type of a value, as the fragment's deciders take it; for an instance its class -/
inductive TyOf (K : PySem.W.Frag) (H : Hp) : V → Value → Prop where
  | non : TyOf K H .non (.type "NoneType")
  | bl (x : Bool) : TyOf K H (.bl x) (.type "bool")
  | int (i : Int) : TyOf K H (.int i) (.type "int")
  | str (x : Str) : TyOf K H (.str x) (.type "str")
  | flt (x : UInt64) : TyOf K H (.flt x) (.type "float")
  | lst {a : Addr} {xs : List V} (e : H a = some (.lst xs)) : TyOf K H (.ref a) (.type "list")
  | frz {a : Addr} {o : Obj} {xs : List V} (e : H a = some (.frz o (.lst xs))) : TyOf K H (.ref a) (.type "list")
  | tup {a : Addr} {xs : List V} (e : H a = some (.tup xs)) : TyOf K H (.ref a) (.type "tuple")
  | dK {a : Addr} {kvs : List (Key × V)} (e : H a = some (.dK kvs)) : TyOf K H (.ref a) (.type "dict")
  | dT {a : Addr} {kvs : List (List Key × V)} (e : H a = some (.dT kvs)) : TyOf K H (.ref a) (.type "dict")
  | ins {a C dx : Addr} {fs : List (Str × V)} (e : H a = some (.ins C dx fs)) (cl : Cls K C) (ha : PySem.W.findIn K (.ref C) "__class__" = some (some (.builtin "object.__class__")))
      (hn : PySem.W.specialIn K (.builtin "object.__class__") "__get__" = some (some (.builtin "getset_descriptor.__get__"))) (htk : PySem.W.takesIn K (.builtin "object.__class__") = some true)
      (hm : PySem.W.mroIn K C (.type "object") = some true) : TyOf K H (.ref a) (.ref C)
/-- isinstance(x, c) for one class c, a built-in or an own one: kitOne's answer -/
theorem isinst_ok {x : V} {u t : Value} (I : Inv X pins σ H s) (rx : RelV x u) (ty : TyOf X.K H x t) (e : PySem.W.kitOne X.K t c = some b) (h : ∀ tk, Q (.bool b) { s with toks := tk }) :
    wpAny (model X.prog X.w) A (call (.builtin "isinstance") [u, c]) Q E s := by
  cases ty with
  | non => cases (show u = Value.none from rx); exact PySem.W.kia_one PySem.W.kitx_none I.kIn True.intro e (fun z => nomatch z) h
  | bl y => cases (show u = Value.bool y from rx); exact PySem.W.kia_one PySem.W.kitx_bool I.kIn True.intro e (fun z => nomatch z) h
  | int i => obtain ⟨t, q⟩ := (show ∃ t, u = Value.int i t from rx); cases q; exact PySem.W.kia_one PySem.W.kitx_int I.kIn True.intro e (fun z => nomatch z) h
  | str y => obtain ⟨t, q⟩ := (show ∃ t, u = Value.str y t from rx); cases q; exact PySem.W.kia_one PySem.W.kitx_str I.kIn True.intro e (fun z => nomatch z) h
  | flt y => obtain ⟨t, q⟩ := (show ∃ t, u = Value.float y t from rx); cases q; exact PySem.W.kia_one PySem.W.kitx_float I.kIn True.intro e (fun z => nomatch z) h
  | @lst a xs ea =>
    cases (show u = Value.ref a from rx)
    obtain ⟨_, _, n, _, h1⟩ := (show ObjOk X.prog X.w H s.heap a (.lst xs) from I.hok a _ ea)
    exact PySem.W.kia_one PySem.W.kitx_list I.kIn ⟨_, h1, rfl⟩ e (fun z => nomatch z) h
  | @frz a ob xs ea =>
    cases (show u = Value.ref a from rx)
    obtain ⟨_, _, _, n, _, h1⟩ := (show ObjOk X.prog X.w H s.heap a (.frz ob (.lst xs)) from I.hok a _ ea)
    exact PySem.W.kia_one PySem.W.kitx_list I.kIn ⟨_, h1, rfl⟩ e (fun z => nomatch z) h
  | @tup a xs ea =>
    cases (show u = Value.ref a from rx)
    obtain ⟨_, _, _, p⟩ := (show ObjOk X.prog X.w H s.heap a (.tup xs) from I.hok a _ ea)
    obtain ⟨o, h1, h2, _⟩ := p
    exact PySem.W.kia_one PySem.W.kitx_tuple I.kIn ⟨o, h1, h2⟩ e (fun z => nomatch z) h
  | @dK a kvs ea =>
    cases (show u = Value.ref a from rx)
    obtain ⟨_, _, vs, _, p⟩ := (show ObjOk X.prog X.w H s.heap a (.dK kvs) from I.hok a _ ea)
    obtain ⟨o, es, ep, h1, h2, _⟩ := p
    exact PySem.W.kia_one PySem.W.kitx_dict I.kIn ⟨o, h1, h2.1⟩ e (fun z => nomatch z) h
  | @dT a kvs ea =>
    cases (show u = Value.ref a from rx)
    obtain ⟨_, _, xs, _, o, es, ep, h1, h2, _⟩ := (show ObjOk X.prog X.w H s.heap a (.dT kvs) from I.hok a _ ea)
    exact PySem.W.kia_one PySem.W.kitx_dict I.kIn ⟨o, h1, h2.1⟩ e (fun z => nomatch z) h
  | @ins a C dx fs ea cl ha hn htk hm =>
    cases (show u = Value.ref a from rx)
    obtain ⟨mA, O, _⟩ := ins_get I.hok ea
    obtain ⟨od, J, _⟩ := O.look
    exact PySem.W.kia_one (PySem.W.kitx_own (cl.get _) cl.hd ha hn htk hm) I.kIn J e (fun z => nomatch z) h
end
end L2

namespace L2
open PySem PySem.Spec PyProof.Rows

/-! ### room -/
structure Room (k : Nat) (A : Around) : Prop where
  hd : A.handled = none
  dp : A.depth + 3 * k + 5 < recursionLimit
  un : A.units + 16 * k + 200 < cLine
theorem Room.mono {j k : Nat} {A : Around} (r : Room k A) (h : j ≤ k) : Room j A := ⟨r.hd, by have := r.dp; omega, by have := r.un; omega⟩
theorem Room.deeper {k : Nat} {A : Around} (r : Room (k + 1) A) (env : Env) : Room k (A.deeper env) :=
  ⟨r.hd, by have := r.dp; show A.depth + 1 + 3 * k + 5 < _; omega, by have := r.un; show A.units + 3 + 16 * k + 200 < _; omega⟩
theorem Room.depth {k : Nat} {A : Around} (r : Room k A) : A.depth < recursionLimit := by have := r.dp; omega
theorem Room.units {k : Nat} {A : Around} (r : Room k A) : A.units + 64 < cLine := by have := r.un; omega
theorem Room.units0 {k : Nat} {A : Around} (r : Room k A) : A.units < cLine := by have := r.un; omega

/-! ### argument lists and displays -/
def tNil : TA := fun _ H Q => Q [] H
def tCons (ta : TE) (tr : TA) : TA := fun σ H Q => ta σ H fun x H1 => tr σ H1 fun xs H2 => Q (x :: xs) H2
section
variable {X : Cx} {e : Expr} {es : List Expr} {te : TE} {t : TA} {pos : Pos}
theorem pa_nil : PA X [] tNil := fun _ _ _ _ H Q I h => Calls.spliced_nil ⟨[], H, I, .nil, h⟩
theorem pa_cons (ha : PE X e te) (hr : PA X es t) (hs : starEach (e :: es) X.env = (false, eval e X.env) :: starEach es X.env := by rfl) : PA X (e :: es) (tCons te t) := by
  intro pos pins s σ H Q I h
  rw [hs]
  show wpAny _ _ (spliced ((false, eval e X.env) :: backTo pos (starEach es X.env))) _ _ s
  refine Calls.spliced_cons (thn (ha pins s σ H _ I h) fun u s1 ⟨x, H1, I1, r1, q1⟩ => ?_)
  exact thn (hr pos pins s1 σ H1 _ I1 q1) fun us s2 ⟨xs, H2, I2, r2, q2⟩ => ⟨x :: xs, H2, I2, .cons r1 r2, q2⟩

/-- a tuple, a list of written items -/
def tTup (t : TA) : TE := fun σ H Q => t σ H fun xs H1 => xs.length ≤ sizeLine ∧ ∀ p, H1 p = none → Q (.ref p) (upd H1 p (.tup xs))
def tLst (t : TA) : TE := fun σ H Q => t σ H fun xs H1 => xs.length ≤ sizeLine ∧ ∀ p, H1 p = none → Q (.ref p) (upd H1 p (.lst xs))
theorem pe_tup {x1} (h : PA X es t) : PE X (.Tuple es x1 pos) (tTup t) := by
  intro pins s σ H Q I hq
  refine wpAny_Tuple_spliced (thn (h pos pins s σ H _ I hq) fun us s1 ⟨xs, H1, I1, r, z, q⟩ => ⟨by rw [← r.length]; exact z, ?_⟩)
  have hf : H1 s1.heap.objs.size = none := I1.hok.fresh (Nat.le_refl _)
  refine ⟨.ref s1.heap.objs.size, upd H1 s1.heap.objs.size (.tup xs), I1.laid (t' := s1.toks) (fun b u e => Heap.get?_push_of_some _ e) (Nat.le_refl _) ?_, rfl, q _ hf⟩
  exact ⟨z, us, r, ⟨_, Heap.get?_push_size _ rfl, rfl, _, rfl⟩⟩
theorem pe_lst (h : PA X es t) : PE X (.List es pos) (tLst t) := by
  intro pins s σ H Q I hq
  refine wpAny_List_spliced (thn (h pos pins s σ H _ I hq) fun us s1 ⟨xs, H1, I1, r, z, q⟩ => ⟨by rw [← r.length]; exact z, ?_⟩)
  have hf : H1 s1.heap.objs.size = none := I1.hok.fresh (Nat.le_refl _)
  refine ⟨.ref s1.heap.objs.size, upd H1 s1.heap.objs.size (.lst xs), I1.laid (t' := s1.toks) (fun b u e => Heap.get?_push_of_some _ e) (Nat.le_refl _) ?_, rfl, q _ hf⟩
  exact ⟨z, us, 0, r, Heap.get?_push_size _ rfl⟩
end

/-! ### what a def promises -/
/-- a def's promise: the bound arguments in the parameters' order, the heap, the wanted end, the wanted exception -/
abbrev Sp := List V → Hp → VK → XK → Prop
/-- how an exception lies behind a call (file 08 gives it): the callers' frames, abstract heap and state ahead of the call, the wish, the exception, the state -/
abbrev CXT := List Env → Hp → Shared → XK → Value → Shared → Prop

/-- the state at a call -/
structure Env0 (P : Program) (w : World) (K : PySem.W.Frag) (mg : Str → Option Value) (base : Heap) (A : Around) (outer : List Env) (s : Shared) (H : Hp) : Prop where
  frames : A.frames = some outer
  mod : Mod K mg base
  bs : ∀ b o, base.get? b = some o → s.heap.get? b = some o ∧ H b = none
  bsz : base.objs.size ≤ s.heap.objs.size
  funs : s.heap.FunFrames base outer
  frf : ∀ b ∈ frs outer, H b = none
  hok : HOk P w H s.heap
  bare : AllBare s.gens
/-- a call's end -/
def CE (outer : List Env) (P : Program) (w : World) (H : Hp) (s : Shared) (Q : VK) (u : Value) (s' : Shared) : Prop :=
  ∃ v H', s'.os = s.os ∧ AllBare s'.gens ∧ Un (frs outer) [] H H' s.heap s'.heap ∧ HOk P w H' s'.heap ∧ RelV v u ∧ Q v H'
def CR (CX : CXT) (outer : List Env) (P : Program) (w : World) (H : Hp) (s : Shared) (Q : VK) (E : XK) (r : Result) (s' : Shared) : Prop :=
  match r with
  | .ok (.ret u) => CE outer P w H s Q u s'
  | .ok _ => False
  | .error e => CX outer H s E e s'
structure FnOk (P : Program) (w : World) (K : PySem.W.Frag) (mg : Str → Option Value) (base : Heap) (CX : CXT) (k : Nat) (f : Addr) (fd : FuncData) (ps : List Str) (sp : Sp) : Prop where
  len : ∀ vs H Q E, sp vs H Q E → vs.length = ps.length
  run : ∀ (A : Around) (outer : List Env) (s : Shared) (H : Hp) (args : Args) (us : List Value) (vs : List V) (Q : VK) (E : XK), Room k A → Env0 P w K mg base A outer s H → BindsTo s fd args (ps.zip us) → Vals vs us → sp vs H Q E →
    codeAny (model P w) A (.call (.ref f) args) (CR CX outer P w H s Q E) s
theorem FnOk.mono {P : Program} {w : World} {K : PySem.W.Frag} {mg : Str → Option Value} {base : Heap} {CX : CXT} {j k : Nat} {f : Addr} {fd : FuncData} {ps : List Str} {sp : Sp} (F : FnOk P w K mg base CX j f fd ps sp) (h : j ≤ k) :
    FnOk P w K mg base CX k f fd ps sp := ⟨F.len, fun A outer s H args us vs Q E hr => F.run A outer s H args us vs Q E (hr.mono h)⟩
/-- a weaker promise -/
theorem FnOk.imp {P : Program} {w : World} {K : PySem.W.Frag} {mg : Str → Option Value} {base : Heap} {CX : CXT} {k : Nat} {f : Addr} {fd : FuncData} {ps : List Str} {sp sp' : Sp} (F : FnOk P w K mg base CX k f fd ps sp)
    (h : ∀ vs H Q E, sp' vs H Q E → sp vs H Q E) : FnOk P w K mg base CX k f fd ps sp' :=
  ⟨fun vs H Q E q => F.len vs H Q E (h _ _ _ _ q), fun A outer s H args us vs Q E hr he hb hv hs => F.run A outer s H args us vs Q E hr he hb hv (h _ _ _ _ hs)⟩

section
variable {X : Cx} {pins : List (Addr × Obj)} {σ : St} {H : Hp} {s s' : Shared}
/-- from a body: what a callee wants -/
theorem Inv.env0 (I : Inv X pins σ H s) : Env0 X.prog X.w X.K X.mg X.base X.A X.stack s H :=
  ⟨I.ok.frames, I.ok.mod, I.bs, Nat.le_trans I.ok.bsz I.sz, I.stack, I.stkFree, I.hok, I.bare⟩
/-- behind a call -/
theorem Inv.after {Q : VK} {u : Value} (I : Inv X pins σ H s) (h : CE X.stack X.prog X.w H s Q u s') : EP X pins σ Q u s' := by
  obtain ⟨v, H', os, bare, un, hok, r, q⟩ := h
  obtain ⟨hh, g, d, t, os'⟩ := s'
  obtain rfl : os' = s.os := os
  exact ⟨v, H', I.call (h' := hh) (g' := g) (d' := d) (t' := t) (ch := []) un hok bare (fun b z => absurd z (by simp)), r, q⟩
end

/-! ### calls -/
/-- f(..): the written arguments, then the defaults dvs; E: what is wanted of an exception -/
def tCall (sp : Sp) (dvs : List V) (E : XK) (t : TA) : TE := fun σ H Q => t σ H fun vs H1 => sp (vs ++ dvs) H1 Q E
/-- how the parameters are bound: us the positional arguments, kw the keywords' values by name, ds the defaults that fill up -/
def Binds (K : PySem.W.Frag) (fd : FuncData) (ps : List Str) (ds : List Value) : Prop :=
  ∀ (s : Shared) (us : List Value), K.In s.heap → (us ++ ds).length = ps.length → BindsTo s fd ⟨us, []⟩ (ps.zip (us ++ ds))
/-- every parameter is given -/
theorem Binds.all {K : PySem.W.Frag} {fd : FuncData} {ps : List Str} (h : ∀ us : List Value, us.length = ps.length → bindArgs fd ⟨us, []⟩ = pure (ps.zip us)) : Binds K fd ps [] := fun s us _ hl => by
  rw [List.append_nil] at hl ⊢
  exact .of_eq (h us hl)

/-- an exception of a callee reaches what this body wants of exceptions -/
def Passes (CX : CXT) (X : Cx) (E : XK) : Prop := ∀ (pins : List (Addr × Obj)) (σ : St) (H : Hp) (s : Shared) (e : Value) (s' : Shared), Inv X pins σ H s → CX X.stack H s E e s' → X.xe e s'

section
variable {X : Cx} {CX : CXT} {k : Nat} {f C : Addr} {fd : FuncData} {ps : List Str} {sp : Sp} {dvs : List V} {ds : List Value} {E : XK} {x m : Str} {p pos apos : Pos} {e o : Expr} {es : List Expr} {ta : TE} {t : TA}

/-- the callee runs -/
theorem run_fn {pins : List (Addr × Obj)} {σ : St} {H : Hp} {s : Shared} {Q : VK} {us : List Value} {vs : List V} (F : FnOk X.prog X.w X.K X.mg X.base CX k f fd ps sp) (hr : Room k X.A) (hb : Binds X.K fd ps ds) (hd : Vals dvs ds) (hx : Passes CX X E)
    (I : Inv X pins σ H s) (r : Vals vs us) (h : sp (vs ++ dvs) H Q E) : wpAny (model X.prog X.w) X.A (call (.ref f) us) (EP X pins σ Q) X.xe s := by
  have r2 : Vals (vs ++ dvs) (us ++ ds) := r.append hd
  have hl : (us ++ ds).length = ps.length := by rw [← r2.length]; exact F.len _ _ _ _ h
  refine wpAny_call (codeAny_mono (F.run X.A X.stack s H ⟨us, []⟩ (us ++ ds) (vs ++ dvs) Q E hr I.env0 (hb s us I.kIn hl) r2 h) fun r s' hq => ?_)
  cases r with
  | error e => exact hx pins σ H s e s' I hq
  | ok fl =>
    cases fl with
    | ret u => exact I.after hq
    | next => exact False.elim hq
    | brk => exact False.elim hq
    | cont => exact False.elim hq

theorem pe_call (F : FnOk X.prog X.w X.K X.mg X.base CX k f fd ps sp) (hr : Room k X.A) (hg : Gl X x) (hm : X.mg x = some (.ref f)) (hk : PySem.W.keepIn X.K (.ref f) = true) (hb : Binds X.K fd ps ds) (hd : Vals dvs ds) (hx : Passes CX X E)
    (ha : PA X (e :: es) t) (hdb : (x == ("__debug__" : Str)) = false := by decide) (he : starEach (e :: es) X.env = (false, eval e X.env) :: starEach es X.env := by rfl) (hpl : (backTo pos (starEach es X.env)).any (·.1) = false := by rfl) :
    PE X (.Call (.Name x p) (e :: es) [] pos) (tCall sp dvs E t) := by
  intro pins s σ H Q I h
  refine wpAny_Call_Name_kw (ld_glob I hg hm ?_ hdb)
  refine PySem.W.callWith_K (h₀ := X.base) I.ok.mod.kin hk (thn (ha pos pins s σ H _ I h) fun us s1 ⟨vs, H1, I1, r, q⟩ => ⟨I1.kIn, ?_⟩) he hpl
  exact run_fn F hr hb hd hx I1 r q
/-- what a class must have to be made -/
structure Mk (K : PySem.W.Frag) (C f : Addr) : Prop where
  makes : PySem.W.makesIn K C = true
  init : PySem.W.findIn K (.ref C) "__init__" = some (some (.ref f))
  fn : PySem.W.isFn K (.ref f) = true
  kp : PySem.W.keepIn K (.ref C) = true

end

/-! ### keywords -/
section
variable {X : Cx} {CX : CXT} {k : Nat} {f C : Addr} {fd : FuncData} {ps ks : List Str} {sp : Sp} {E : XK} {x m : Str} {p pos apos kpos : Pos} {e o : Expr} {es : List Expr} {kws : List Keyword} {te ta : TE} {t tk : TA} {nm : Option Str}
/-- how a call with keywords binds: g puts the positional values us and the keywords' values ws (names ks) in the parameters' order, defaults among them -/
structure KBinds (K : PySem.W.Frag) (fd : FuncData) (ps ks : List Str) (g : List Value → List Value → List Value) (gV : List V → List V → List V) : Prop where
  to : ∀ (s : Shared) (us ws : List Value), K.In s.heap → (g us ws).length = ps.length → BindsTo s fd ⟨us, ks.zip ws⟩ (ps.zip (g us ws))
  rel : ∀ {vs : List V} {us : List Value} {zs : List V} {ws : List Value}, Vals vs us → Vals zs ws → Vals (gV vs zs) (g us ws)
variable {g : List Value → List Value → List Value} {gV : List V → List V → List V}
end

/-! ### a def's body keeps its promise -/
/-- names: the parameters first -/
structure FnScope (N P : List Str) (sc : Scope) : Prop where
  kind : sc.kind = .function
  co : sc.isCoroutine = false
  gen : sc.isGenerator = false
  nd : N.Nodup
  pre : N.take P.length = P
  par : ∀ x ∈ P, sc.names.lookup x = some .local ∨ sc.names.lookup x = some .cell
  nofree : ∀ y ∈ sc.names, y.2 ≠ .free

theorem bindL_out {kindOf : Str → Option NameKind} {x : Str} : ∀ {binds : List (Str × Value)} {m : Str → Option Value}, (∀ v, (x, v) ∉ binds) → bindL kindOf binds m x = m x
  | [], _, _ => rfl
  | (n, v) :: r, m, h => by
    unfold bindL
    rw [bindL_out fun w hw => h w (List.mem_cons_of_mem _ hw)]
    split
    · have : x ≠ n := by rintro rfl; exact h v List.mem_cons_self
      simp [this]
    · rfl
theorem bindC_out {kindOf : Str → Option NameKind} {x : Str} : ∀ {binds : List (Str × Value)} {m : Str → Option Value}, (∀ v, (x, v) ∉ binds) → bindC kindOf binds m x = m x
  | [], _, _ => rfl
  | (n, v) :: r, m, h => by
    unfold bindC
    rw [bindC_out fun w hw => h w (List.mem_cons_of_mem _ hw)]
    split
    · rfl
    · have : x ≠ n := by rintro rfl; exact h v List.mem_cons_self
      simp [this]
theorem bindL_get {kindOf : Str → Option NameKind} {x : Str} {v : Value} : ∀ {P : List Str} {vs : List Value} {i : Nat} {m : Str → Option Value}, P.Nodup → P[i]? = some x → vs[i]? = some v → kindOf x = some .local →
    bindL kindOf (P.zip vs) m x = some v
  | [], _, _, _, _, h, _, _ => by simp at h
  | _ :: _, [], _, _, _, _, h, _ => by simp at h
  | p :: P, w :: vs, 0, m, nd, h1, h2, hk => by
    simp at h1 h2; subst h1; subst h2
    show bindL kindOf ((p, w) :: P.zip vs) m p = _
    unfold bindL
    rw [bindL_out fun v hv => (List.nodup_cons.mp nd).1 (List.of_mem_zip hv).1, if_pos hk]
    simp
  | p :: P, w :: vs, i + 1, m, nd, h1, h2, hk => by
    show bindL kindOf ((p, w) :: P.zip vs) m x = _
    unfold bindL
    exact bindL_get (i := i) (List.nodup_cons.mp nd).2 (by simpa using h1) (by simpa using h2) hk
theorem bindC_get {kindOf : Str → Option NameKind} {x : Str} {v : Value} : ∀ {P : List Str} {vs : List Value} {i : Nat} {m : Str → Option Value}, P.Nodup → P[i]? = some x → vs[i]? = some v → kindOf x ≠ some .local →
    bindC kindOf (P.zip vs) m x = some v
  | [], _, _, _, _, h, _, _ => by simp at h
  | _ :: _, [], _, _, _, _, h, _ => by simp at h
  | p :: P, w :: vs, 0, m, nd, h1, h2, hk => by
    simp at h1 h2; subst h1; subst h2
    show bindC kindOf ((p, w) :: P.zip vs) m p = _
    unfold bindC
    rw [bindC_out fun v hv => (List.nodup_cons.mp nd).1 (List.of_mem_zip hv).1, if_neg hk]
    simp
  | p :: P, w :: vs, i + 1, m, nd, h1, h2, hk => by
    show bindC kindOf ((p, w) :: P.zip vs) m x = _
    unfold bindC
    exact bindC_get (i := i) (List.nodup_cons.mp nd).2 (by simpa using h1) (by simpa using h2) hk

/-- the names' values at the entry -/
def start (N : List Str) (vs : List V) : St := vs.map some ++ List.replicate (N.length - vs.length) none

/-- the context of a def's body, at its entry; an exception leaves the frame, then lies as CX says -/
def cxOf (CX : CXT) (P : Program) (w : World) (K : PySem.W.Frag) (mg : Str → Option Value) (base : Heap) (N : List Str) (qual : Str) (scope : Scope) (f : Addr) (cd : Value) (A : Around) (outer : List Env) (s : Shared) (H : Hp) (E : XK) : Cx where
  prog := P
  w := w
  K := K
  mg := mg
  base := base
  A := A.deeper (envOfC qual scope s.heap.objs.size f cd)
  N := N
  s₀ := s
  H₀ := H
  env := envOfC qual scope s.heap.objs.size f cd
  outer := outer
  stack := envOfC qual scope s.heap.objs.size f cd :: outer
  ex := []
  calm := true
  fn := fun _ => true
  pn := []
  xe := fun e s' => wpAny (model P w) (A.deeper (envOfC qual scope s.heap.objs.size f cd)) (leaving (envOfC qual scope s.heap.objs.size f cd) e) (fun _ s'' => CX outer H s E e s'') (fun e' s'' => CX outer H s E e' s'') s'

theorem cell_has {sc : Scope} {n : Nat} {x : Str} (h : sc.names.lookup x = some .cell) : ∃ c, (cellsFrom n sc.names []).lookup x = some c := by
  have q := PySem.W.cellsFrom_some sc.names n [] (.inl h)
  exact Option.isSome_iff_exists.mp q

theorem inv_start {CX : CXT} {P : Program} {w : World} {K : PySem.W.Frag} {mg : Str → Option Value} {base : Heap} {N ps : List Str} {qual : Str} {scope : Scope} {f : Addr} {cd : Value} {A : Around} {outer : List Env} {s s1 : Shared} {H : Hp} {E : XK} {us : List Value} {vs : List V}
    (S : FnScope N ps scope) (hd : A.handled = none) (e0 : Env0 P w K mg base A outer s H) (hl : vs.length = ps.length) (r : Vals vs us)
    (x : InCallC s s.heap.objs.size (bindL (envOfC qual scope s.heap.objs.size f cd).kindOf (ps.zip us) fun _ => none) (cellsFrom (s.heap.objs.size + 1) scope.names []) (bindC (envOfC qual scope s.heap.objs.size f cd).kindOf (ps.zip us) fun _ => none) s1) :
    Inv (cxOf CX P w K mg base N qual scope f cd A outer s H E) [] (start N vs) H s1 := by
  have hpl : ps.length ≤ N.length := by have := congrArg List.length S.pre; rw [List.length_take] at this; omega
  obtain ⟨h1, tk, rfl, hk⟩ := x.done
  have noA : ∀ b : Addr, b ∉ (cxOf CX P w K mg base N qual scope f cd A outer s H E).ex := fun b z => absurd (show b ∈ ([] : List Addr) from z) (by simp)
  refine ⟨⟨e0.mod, S.kind, rfl, rfl, Nat.le_refl _, fun y z c h1 h2 => ?_, fun y hy => ?_, fun y c _ h => ?_, fun _ => hd, Around.frames_deeper e0.frames, .inr ⟨rfl, rfl⟩, fun b z => absurd z (noA b), e0.bs, e0.bsz, fun b _ _ => noA b, fun b z => absurd z (noA b), e0.funs, e0.frf⟩,
    rfl, e0.bare, Un.kept hk, ⟨_, x.toInCall.ns, fun i y v h1 h2 h3 => ?_⟩, fun y c h => ⟨_, x.cell y c h⟩, e0.hok.fresh (Nat.le_refl _), fun y c h => ?_, fun p hp => absurd (show p ∈ ([] : List (Addr × Obj)) from hp) (by simp), e0.hok.kept hk, ?_⟩
  · exact name_of_addr x.apart (PySem.mem_of_lookup h1) (PySem.mem_of_lookup h2)
  · have hy : scope.names.lookup y = some .cell ∨ scope.names.lookup y = some .free := hy
    rcases hy with hy | hy
    · exact cell_has hy
    · exact absurd rfl (S.nofree _ (PySem.mem_of_lookup hy))
  · exact Nat.le_of_lt (x.above y c (PySem.mem_of_lookup h))
  · have hi : i < vs.length := by
      unfold start at h2
      by_cases hi : i < vs.length
      · exact hi
      · rw [List.getElem?_append_right (by simpa using hi)] at h2
        rw [List.getElem?_replicate] at h2
        split at h2 <;> cases h2
    have ha : vs[i]? = some v := by
      unfold start at h2
      rw [List.getElem?_append_left (by simpa using hi), List.getElem?_map] at h2
      cases e : vs[i]? with
      | none => rw [e] at h2; cases h2
      | some a => rw [e] at h2; cases h2; rfl
    obtain ⟨u, hu, rv⟩ := r.get ha
    have hp : ps[i]? = some y := by
      rw [← S.pre, List.getElem?_take_of_lt (by omega)]; exact h1
    have ndP : ps.Nodup := by rw [← S.pre]; exact S.nd.sublist (List.take_sublist _ _)
    refine ⟨u, rv, ?_⟩
    rcases S.par y (List.mem_of_getElem? hp) with k | k
    · exact .inl ⟨k, bindL_get ndP hp hu k⟩
    · obtain ⟨c, e⟩ := cell_has (n := s.heap.objs.size + 1) k
      refine .inr ⟨.inl k, c, e, ?_⟩
      have q := x.cell y c e
      rw [bindC_get ndP hp hu (by show scope.names.lookup y ≠ _; rw [k]; decide)] at q
      exact q
  · exact e0.hok.fresh (Nat.le_of_lt (x.above y c (PySem.mem_of_lookup h)))
  · unfold start
    show _ = N.length
    rw [List.length_append, List.length_map, List.length_replicate]
    omega

/-- THE RULE: a def (or a method) of the text, by its body. The body's reading t is chosen for each entry; it is run at the parameters' values -/
theorem fn_of {CX : CXT} {P : Program} {w : World} {K : PySem.W.Frag} {mg : Str → Option Value} {base : Heap} {k : Nat} {f : Addr} {name qual : Str} {params : Arguments} {body : List Stmt} {scope : Scope} {dV kV doc pm cdv ct oc : Value} {an od : Option Addr}
    {osl : Array (Option Value)} {N ps : List Str} {sp : Sp} (lk : K.lookup f = some ⟨oc, od, .func (PySem.W.fnOf name qual params body scope dV kV doc pm an cdv ct), osl⟩) (hcd : PySem.W.codeIn K cdv qual = true) (S : FnScope N ps scope)
    (len : ∀ vs H Q E, sp vs H Q E → vs.length = ps.length)
    (hbody : ∀ (A : Around) (outer : List Env) (s : Shared) (H : Hp) (vs : List V) (Q : VK) (E : XK), Room k (A.deeper (envOfC qual scope s.heap.objs.size f cdv)) → sp vs H Q E →
      ∃ t, PSs (cxOf CX P w K mg base N qual scope f cdv A outer s H E) body t ∧ t { nx := fun _ H' => Q .non H', rt := Q } (start N vs) H) :
    FnOk P w K mg base CX (k + 1) f (PySem.W.fnOf name qual params body scope dV kV doc pm an cdv ct) ps sp := by
  refine ⟨len, fun A outer s H args us vs Q E hr e0 hb r hsp => ?_⟩
  have hl := len _ _ _ _ hsp
  have KX : K.In s.heap := e0.mod.kin.keeps fun b o e => (e0.bs b o e).1
  have lim : s.heap.NoLimit := e0.mod.nolimit.keeps fun b o e => (e0.bs b o e).1
  have hkind : ∀ y ∈ ps.zip us, scope.names.lookup y.1 = some .local ∨ (scope.names.lookup y.1 = some .cell ∧ ((cellsFrom (s.heap.objs.size + 1) scope.names []).lookup y.1).isSome = true) := fun ⟨n, v⟩ hy => by
    rcases S.par n (List.of_mem_zip hy).1 with q | q
    · exact .inl q
    · exact .inr ⟨q, PySem.W.cellsFrom_some _ _ _ (.inl q)⟩
  refine codeAny_call_function hr.depth (KX _ _ lk) rfl S.co S.gen rfl (PySem.W.codeRec_of KX hcd) (hb _ _ _ _ ?_)
  refine wpAny_newFunctionEnv_cells S.kind hkind fun env he s1 x => ?_
  subst he
  refine ⟨lim.keeps x.toInCall.keep, codeAny_func ?_⟩
  obtain ⟨t, ht, hq⟩ := hbody A outer s H vs Q E (hr.deeper _) hsp
  have I : Inv (cxOf CX P w K mg base N qual scope f cdv A outer s H E) [] (start N vs) H s1 := inv_start S hr.hd e0 hl r x
  refine wpAny_mono (ht [] s1 (start N vs) H _ I hq) (fun fl s' hs => ?_) fun e s' hs => hs
  have fin : ∀ {σ' : St} {H' : Hp} {v : V} {u : Value}, Inv (cxOf CX P w K mg base N qual scope f cdv A outer s H E) [] σ' H' s' → RelV v u → Q v H' → CE outer P w H s Q u s' :=
    fun {σ' H' v u} J rv q => ⟨v, H', J.os, J.bare, J.base, J.hok, rv, q⟩
  cases fl with
  | ret u =>
    obtain ⟨v, σ', H', J, rv, q⟩ := hs
    exact fin J rv q
  | next =>
    obtain ⟨σ', H', J, q⟩ := hs
    exact fin (v := V.non) (u := Value.none) J rfl q
  | brk =>
    obtain ⟨_, _, _, q⟩ := hs
    exact False.elim q
  | cont =>
    obtain ⟨_, _, _, q⟩ := hs
    exact False.elim q
end L2

namespace L2
open PySem PySem.Spec PyProof.Rows
section
variable {X : Cx} {x : Str} {p pos : Pos} {e : Expr} {es : List Expr} {t : TA} {id T : String} {r : List V → Hp → VK → Prop}

def tCB (r : List V → Hp → VK → Prop) (t : TA) : TE := fun σ H Q => t σ H fun vs H1 => r vs H1 Q
/-- f(e, ..), f a built-in function -/
theorem pe_callB (hc : CallR X (.builtin id) r) (hg : Gl X x) (hm : X.mg x = none) (hv : bootBuiltins x = some (.builtin id)) (ha : PA X (e :: es) t) (hn : x ≠ "__name__" := by decide) (hdb : (x == ("__debug__" : Str)) = false := by decide)
    (he : starEach (e :: es) X.env = (false, eval e X.env) :: starEach es X.env := by rfl) (hpl : (backTo pos (starEach es X.env)).any (·.1) = false := by rfl) : PE X (.Call (.Name x p) (e :: es) [] pos) (tCB r t) := by
  intro pins s σ H Q I h
  refine wpAny_Call_Name_kw (ld_blt I hg hm hv ?_ hn hdb)
  exact PyProof.Rows.callWith_builtin1 (thn (ha pos pins s σ H _ I h) fun us s1 ⟨vs, H1, I1, r1, q1⟩ => hc pins s1 σ H1 vs us Q I1 r1 q1) he hpl
/-- T(e, ..), T a built-in type -/
theorem pe_callTy (hc : CallR X (.type T) r) (hg : Gl X x) (hm : X.mg x = none) (hv : bootBuiltins x = some (.type T)) (ha : PA X (e :: es) t) (hn : x ≠ "__name__" := by decide) (hdb : (x == ("__debug__" : Str)) = false := by decide)
    (he : starEach (e :: es) X.env = (false, eval e X.env) :: starEach es X.env := by rfl) (hpl : (backTo pos (starEach es X.env)).any (·.1) = false := by rfl) : PE X (.Call (.Name x p) (e :: es) [] pos) (tCB r t) := by
  intro pins s σ H Q I h
  refine wpAny_Call_Name_kw (ld_blt I hg hm hv ?_ hn hdb)
  exact PyProof.Rows.callWith_type1 (thn (ha pos pins s σ H _ I h) fun us s1 ⟨vs, H1, I1, r1, q1⟩ => hc pins s1 σ H1 vs us Q I1 r1 q1) he hpl
end
end L2

namespace HT
open PySem PyProof.Rows

section
open PySem.SeqAt
open PySem.AutoSeq1 (wpAny_loadPart')
open PySem.MeetsSeq PySem.MeetsSeq2 PySem.MeetsSeq3

end

section
variable {prog : Program} {w : World} {A : Around} {E : Value → Shared → Prop} {s : Shared}

/-- t + u, t not empty -/
theorem cat_tup {t b : Addr} {vs ws : List Value} {Q : Value → Shared → Prop} (ht : IsTup s.heap t vs.toArray) (hb : IsTup s.heap b ws.toArray) (hv : vs ≠ [])
    (h1 : ws = [] → Q (.ref t) s) (h2 : ws ≠ [] → Q (.ref s.heap.objs.size) { s with heap := s.heap.push { cls := .type "tuple", data := .seq (vs ++ ws).toArray } })
    (hsz : vs.length + ws.length ≤ sizeLine) : wpAny (model prog w) A (binaryOp .Add (.ref t) (.ref b)) Q E s := by
  obtain ⟨⟨cls, dd, data, sl⟩, ho, hc, n, hd⟩ := id ht
  obtain ⟨⟨cls2, dd2, data2, sl2⟩, ho2, hc2, n2, hd2⟩ := id hb
  simp only at hc hd hc2 hd2
  subst hc hd hc2 hd2
  have e : vs.toArray ++ ws.toArray = (vs ++ ws).toArray := by simp
  by_cases hw : ws = []
  · exact concat_meets ⟨_, ho, rfl⟩ ⟨_, ho2, rfl⟩ noFill_tuple_add seq_tuple_add PySem.F.slot_tuple_add PySem.F.entry_tuple_add (PySem.F.args_tuple_add_2 _ _)
      (tuple_addW1 t b vs.toArray ws.toArray n n2 dd dd2 sl sl2 (by simpa using hv) (by simp [hw])) ⟨ho, ho2, h1 hw⟩
  · refine concat_meets ⟨_, ho, rfl⟩ ⟨_, ho2, rfl⟩ noFill_tuple_add seq_tuple_add PySem.F.slot_tuple_add PySem.F.entry_tuple_add (PySem.F.args_tuple_add_2 _ _)
      (tuple_addW2 t b vs.toArray ws.toArray n n2 dd dd2 sl sl2 (by simpa using hv) (by simpa using hw) (by rw [List.size_toArray, List.size_toArray]; exact hsz)) ⟨ho, ho2, ?_⟩
    rw [e]
    exact h2 hw

/-! ### t[a:b], not the whole -/
/-- a slice's bound as a place among n (d where it is left out) -/
def sIx (n d : Nat) : Option Int → Nat
  | none => d
  | some v => if v < 0 then (v + (n : Int)).toNat else min v.toNat n
theorem sIx_none (n d : Nat) : sIx n d none = d := rfl
theorem sIx_nat (n d k : Nat) : sIx n d (some (k : Int)) = min k n := by
  show (if (k : Int) < 0 then ((k : Int) + (n : Int)).toNat else min (k : Int).toNat n) = min k n
  rw [if_neg (by omega), Int.toNat_natCast]
theorem sIx_le (n d : Nat) (hd : d ≤ n) (o : Option Int) : sIx n d o ≤ n := by
  cases o with
  | none => exact hd
  | some v =>
    show (if v < 0 then (v + (n : Int)).toNat else min v.toNat n) ≤ n
    by_cases hv : v < 0
    · rw [if_pos hv]; omega
    · rw [if_neg hv]; exact Nat.min_le_right _ _
theorem clip_eq (v : Int) (n d : Nat) : (if v < 0 then max (v + (n : Int)) 0 else min v (n : Int)) = ((sIx n d (some v) : Nat) : Int) := by
  show (if v < 0 then max (v + (n : Int)) 0 else min v (n : Int)) = (((if v < 0 then (v + (n : Int)).toNat else min v.toNat n) : Nat) : Int)
  by_cases hv : v < 0
  · simp only [if_pos hv]; omega
  · simp only [if_neg hv]; omega
theorem adjust_gen (lo hi : Option Int) (n : Nat) : Builtin.Slice.sliceAdjust lo hi 1 (n : Int) = (((sIx n 0 lo : Nat) : Int), ((sIx n n hi : Nat) : Int)) := by
  have h1 : ¬ ((1 : Int) < 0) := by omega
  unfold Builtin.Slice.sliceAdjust
  simp only [h1, if_false]
  refine Prod.ext ?_ ?_
  · cases lo with
    | none => rfl
    | some v => exact clip_eq v n 0
  · cases hi with
    | none => rfl
    | some v => exact clip_eq v n n
theorem places_gen (i j : Nat) : Builtin.Slice.slicePlaces (i : Int) (j : Int) 1 = j - i := by
  unfold Builtin.Slice.slicePlaces
  have h1 : (1 : Int) > 0 := by omega
  simp only [h1, if_true, Int.ediv_one]
  split <;> omega
theorem slicePart_ {v : Value} {o : Option Int} {Q : Option Int → Shared → Prop} (p : IsPart v o) (h : Q o s) : wpAny (model prog w) A (Builtin.Slice.slicePartIndex v) Q E s := by
  cases p with
  | none => exact slicePart_none h
  | int i t => exact slicePart_int h
theorem sliceApplied_gen {sl : Addr} {vl vu : Value} {lo hi : Option Int} {n : Nat} {Q : Int × Int × Nat → Shared → Prop} (hs : s.heap.IsSliceOf sl vl vu .none) (pl : IsPart vl lo) (pu : IsPart vu hi)
    (h : Q (((sIx n 0 lo : Nat) : Int), 1, sIx n n hi - sIx n 0 lo) s) : wpAny (model prog w) A (Builtin.Slice.sliceApplied (.ref sl) (pure (n : Int))) Q E s := by
  obtain ⟨os, hos, hcs, hds⟩ := id hs
  unfold Builtin.Slice.sliceApplied Builtin.Slice.sliceFields
  refine wpAny_bind (wpAny_bind (wpAny_field hos hds (x := vl) rfl (wpAny_bind (wpAny_field hos hds (x := vu) rfl (wpAny_bind (wpAny_field hos hds (x := .none) rfl (wpAny_pure ?_)))))))
  refine wpAny_bind (slicePart_none ?_)
  show wpAny _ _ (if ((1 : Int) == 0) = true then _ else _) _ _ s
  rw [if_neg (by decide)]
  refine wpAny_bind (slicePart_ pl (wpAny_bind (slicePart_ pu (wpAny_bind (wpAny_pure ?_)))))
  show wpAny _ _ (match Builtin.Slice.sliceAdjust lo hi 1 (n : Int) with | (lo, hi) => pure (lo, (1 : Int), Builtin.Slice.slicePlaces lo hi 1)) _ _ s
  rw [adjust_gen lo hi n]
  show wpAny _ _ (pure (((sIx n 0 lo : Nat) : Int), (1 : Int), Builtin.Slice.slicePlaces ((sIx n 0 lo : Nat) : Int) ((sIx n n hi : Nat) : Int) 1)) _ _ s
  rw [places_gen]
  exact wpAny_pure h
theorem pick_gen (xs : Array Value) (i k : Nat) : ((List.range k).filterMap fun (m : Nat) => xs[((i : Int) + (m : Int) * 1).toNat]?).toArray = ((xs.toList.drop i).take k).toArray := by
  have e : (fun (m : Nat) => xs[((i : Int) + (m : Int) * 1).toNat]?) = fun m => xs[i + m]? := by
    funext m
    have : ((i : Int) + (m : Int) * 1).toNat = i + m := by omega
    rw [this]
  rw [e]
  have := pick_run xs i k
  rw [List.filterMap_map] at this
  have e2 : ((fun x => xs[x]?) ∘ fun x => i + x) = fun m => xs[i + m]? := rfl
  rw [e2] at this
  rw [this]

theorem getItem_tuple_cut {t sl : Addr} {items : Array Value} {vl vu : Value} {lo hi : Option Int} {Q : Value → Shared → Prop} (ht : IsTup s.heap t items) (hs : s.heap.IsSliceOf sl vl vu .none) (pl : IsPart vl lo) (pu : IsPart vu hi)
    (hw : ¬ (sIx items.size 0 lo = 0 ∧ sIx items.size items.size hi = items.size))
    (h : Q (.ref s.heap.objs.size) { s with heap := s.heap.push { cls := .type "tuple", data := .seq ((items.toList.drop (sIx items.size 0 lo)).take (sIx items.size items.size hi - sIx items.size 0 lo)).toArray } })
    (hsz : items.size ≤ sizeLine) : wpAny (model prog w) A (getItem (.ref t) (.ref sl)) Q E s := by
  have htake : sizeOk (.seq ((items.toList.drop (sIx items.size 0 lo)).take (sIx items.size items.size hi - sIx items.size 0 lo)).toArray) := by
    show ((items.toList.drop (sIx items.size 0 lo)).take (sIx items.size items.size hi - sIx items.size 0 lo)).toArray.size ≤ sizeLine
    rw [List.size_toArray, List.length_take, List.length_drop, Array.length_toList]
    omega
  have hj : sIx items.size items.size hi ≤ items.size := sIx_le _ _ (Nat.le_refl _) hi
  obtain ⟨os, hos, hcs, hds⟩ := id hs
  have hTs : s.TypeIs (.ref sl) "slice" := ⟨os, hos, hcs⟩
  unfold getItem
  try with_reducible refine wpAny_holding ?_
  first | refine wpAny_bind (wpAny_pure ?_) | skip
  refine wpAny_bind (wpAny_sequenceKey ht.typeIs (by decide) ?_)
  refine wpAny_bind (wpAny_callSpecial?_slot (name := Str.ofString "__getitem__") ht.typeIs PyProof.Rows.slot_tuple_getitem
    (wpAny_call_entry PyProof.Rows.slot_tuple_getitem ht.typeIs entry_tuple_getitem ?_ (args_tuple_getitem _ _)))
  show wpAny _ _ (Builtin.Tuple.tupleItemsOf (.ref t) >>= _) _ _ s
  refine wpAny_bind (tupleItemsOf_ ht ?_)
  refine wpAny_bind (wpAny_typeOf hTs ?_)
  rw [if_pos (by decide)]
  refine wpAny_bind (sliceApplied_gen hs pl pu ?_)
  have hno : ¬ ((((sIx items.size 0 lo : Nat) : Int) == 0 && (1 : Int) == 1 && (sIx items.size items.size hi - sIx items.size 0 lo) == items.size) = true) := by
    intro q
    rw [Bool.and_eq_true, Bool.and_eq_true] at q
    have q1 : ((sIx items.size 0 lo : Nat) : Int) = 0 := eq_of_beq q.1.1
    have q2 : sIx items.size items.size hi - sIx items.size 0 lo = items.size := eq_of_beq q.2
    exact hw ⟨by omega, by omega⟩
  show wpAny _ _ (if (((sIx items.size 0 lo : Nat) : Int) == 0 && (1 : Int) == 1 && (sIx items.size items.size hi - sIx items.size 0 lo) == items.size) = true then _ else _) _ _ s
  rw [if_neg hno, pick_gen]
  first
    | exact wpAny_bind (m := Builtin.Tuple.tupleExact _) (wpAny_newObj_type (wpAny_pure ⟨_, rfl, wpAny_pure h⟩) htake)
    | exact wpAny_bind (m := Builtin.Tuple.tupleExact _) (wpAny_newObj_type (wpAny_bind (wpAny_pure (wpAny_pure ⟨_, rfl, wpAny_pure h⟩))) htake)
    | exact wpAny_bind (wpAny_bind (m := Builtin.Tuple.tupleExact _) (wpAny_newObj_type (wpAny_pure (wpAny_pure ⟨_, rfl, wpAny_pure h⟩)) htake))
    | exact wpAny_bind (wpAny_bind (m := Builtin.Tuple.tupleExact _) (wpAny_newObj_type (wpAny_pure ⟨_, rfl, wpAny_pure h⟩) htake))
end
end HT

namespace L2
open PySem PySem.Spec PyProof.Rows

/-! ### the parts of a slice -/
abbrev TO := St → Hp → (Option Int → Hp → Prop) → Prop
/-- a slice's part (left out, or an int) -/
def PO (X : Cx) (e : Option Expr) (t : TO) : Prop :=
  ∀ (pins : List (Addr × Obj)) (s : Shared) (σ : St) (H : Hp) (Q : Option Int → Hp → Prop), Inv X pins σ H s → t σ H Q →
    wpAny (model X.prog X.w) X.A (evalPart e X.env) (fun u s' => ∃ o H', Inv X pins σ H' s' ∧ IsPart u o ∧ Q o H') X.xe s
def tNoPart : TO := fun _ H Q => Q none H
def tPart (t : TE) : TO := fun σ H Q => t σ H fun x H1 => ∃ i, x = .int i ∧ Q (some i) H1

section
variable {X : Cx} {e : Expr} {te : TE} {lo hi : Option Expr} {tl th : TO} {pos p2 : Pos}

theorem po_none : PO X none tNoPart := by
  intro pins s σ H Q I h
  rw [evalPart_none]
  exact wpAny_pure ⟨none, H, I, .none, h⟩
theorem po_some (h : PE X e te) : PO X (some e) (tPart te) := by
  intro pins s σ H Q I hw
  rw [evalPart_some]
  refine thn (h pins s σ H _ I hw) fun u s1 ⟨x, H1, I1, r1, q1⟩ => ?_
  obtain ⟨i, rfl, q⟩ := q1
  obtain ⟨t, rfl⟩ := r1
  exact ⟨some i, H1, I1, .int i t, q⟩

/-- what a slice of a value is, by values: the slice object stands at sl -/
def SlR (X : Cx) (r : V → Option Int → Option Int → Hp → VK → Prop) : Prop :=
  ∀ (pins : List (Addr × Obj)) (s : Shared) (σ : St) (H : Hp) (x : V) (v vl vu : Value) (lo hi : Option Int) (sl : Addr) (Q : VK), Inv X pins σ H s → RelV x v → s.heap.IsSliceOf sl vl vu .none → IsPart vl lo → IsPart vu hi → r x lo hi H Q →
    ∃ T id, typeLookup (.type T) "__getitem__" = pure (some (.builtin id)) ∧ s.TypeIs v T ∧ wpAny (model X.prog X.w) X.A (getItem v (.ref sl)) (EP X pins σ Q) X.xe s
theorem SlR.or {r r' : V → Option Int → Option Int → Hp → VK → Prop} (h : SlR X r) (h' : SlR X r') : SlR X (fun x lo hi H Q => r x lo hi H Q ∨ r' x lo hi H Q) := by
  intro pins s σ H x v vl vu lo hi sl Q I rx hs pl pu q
  rcases q with q | q
  · exact h pins s σ H x v vl vu lo hi sl Q I rx hs pl pu q
  · exact h' pins s σ H x v vl vu lo hi sl Q I rx hs pl pu q
def tSl (r : V → Option Int → Option Int → Hp → VK → Prop) (te : TE) (tl th : TO) : TE := fun σ H Q => te σ H fun x H1 => tl σ H1 fun l H2 => th σ H2 fun u H3 => r x l u H3 Q
/-- a[lo:hi], any a -/
theorem pe_slice {r : V → Option Int → Option Int → Hp → VK → Prop} (hr : SlR X r) (he : PE X e te) (hl : PO X lo tl) (hu : PO X hi th) : PE X (.Subscript e (.Slice lo hi none p2) pos) (tSl r te tl th) := by
  intro pins s σ H Q I h
  refine Subscript_ (thn (he pins s σ H _ I h) fun v s1 ⟨x, H1, I1, r1, q1⟩ => ?_)
  refine wpAny_Slice (thn (hl pins s1 σ H1 _ I1 q1) fun vl s2 ⟨l, H2, I2, pl, q2⟩ => thn (hu pins s2 σ H2 _ I2 q2) fun vu s3 ⟨u, H3, I3, pu, q3⟩ => ?_)
  rw [evalPart_none]
  refine wpAny_pure ?_
  have I4 : Inv X pins σ H3 { s3 with heap := s3.heap.push { cls := .type "slice", data := .fields #[vl, vu, .none] } } := I3.kept (t' := s3.toks) fun b ob q => Heap.get?_push_of_some _ q
  obtain ⟨T, id, hT, ht, hg⟩ := hr pins { s3 with heap := s3.heap.push { cls := .type "slice", data := .fields #[vl, vu, .none] } } σ H3 x v vl vu l u s3.heap.objs.size Q I4 r1 (Heap.IsSliceOf.new ..) pl pu q3
  show wpAny (model X.prog X.w) X.A (subscriptTail e (.Slice lo hi none p2) v (.ref s3.heap.objs.size)) (EP X pins σ Q) X.xe { s3 with heap := s3.heap.push { cls := .type "slice", data := .fields #[vl, vu, .none] } }
  exact tail_any (ops := [.ref s3.heap.objs.size, v]) ht hT hg (by with_unfolding_all rfl)

/-- the items of xs[lo:hi] -/
def cutV (xs : List V) (lo hi : Option Int) : List V := (xs.drop (HT.sIx xs.length 0 lo)).take (HT.sIx xs.length xs.length hi - HT.sIx xs.length 0 lo)
theorem cutV_length (xs : List V) (lo hi : Option Int) : (cutV xs lo hi).length ≤ xs.length := by
  unfold cutV
  rw [List.length_take, List.length_drop]
  omega
/-- t[lo:hi], not the whole of it (the whole would be t itself) -/
def rSlT (K : PySem.W.Frag) : V → Option Int → Option Int → Hp → VK → Prop := fun x lo hi H Q => ∃ a xs, x = .ref a ∧ SqT K H a xs ∧
  ¬ (HT.sIx xs.length 0 lo = 0 ∧ HT.sIx xs.length xs.length hi = xs.length) ∧ ∀ p, H p = none → Q (.ref p) (upd H p (.tup (cutV xs lo hi)))
theorem sl_tup : SlR X (rSlT X.K) := by
  intro pins s σ H x v vl vu lo hi sl Q I rx hs pl pu h
  obtain ⟨a, xs, rfl, hx, hw, q⟩ := h
  cases rx
  obtain ⟨its, r, ht, hz⟩ := I.tuple hx
  have hlen : its.toArray.size = xs.length := by rw [List.size_toArray]; exact r.length.symm
  refine ⟨"tuple", _, PyProof.Rows.slot_tuple_getitem.lookup, ht.typeIs, ?_⟩
  refine HT.getItem_tuple_cut ht hs pl pu (by rw [hlen]; exact hw) ?_ (by rw [hlen]; exact hz)
  rw [hlen]
  refine ⟨.ref s.heap.objs.size, _, I.laid (t' := s.toks) (o := .tup (cutV xs lo hi)) (fun b ob q => Heap.get?_push_of_some _ q) (Nat.le_refl _) ?_, rfl, q _ (I.hok.fresh (Nat.le_refl _))⟩
  exact ⟨Nat.le_trans (cutV_length xs lo hi) hz, _, (r.drop (HT.sIx xs.length 0 lo)).take (HT.sIx xs.length xs.length hi - HT.sIx xs.length 0 lo), IsTup.new _ _⟩

/-! ### t < u, t + u -/
/-- t + u, t not empty: u empty gives t itself -/
def rCatT (K : PySem.W.Frag) : R2 := fun x y H Q => ∃ a b xs ys, x = .ref a ∧ y = .ref b ∧ SqT K H a xs ∧ SqT K H b ys ∧ xs ≠ [] ∧ xs.length + ys.length ≤ sizeLine ∧
  (ys = [] → Q (.ref a) H) ∧ (ys ≠ [] → ∀ p, H p = none → Q (.ref p) (upd H p (.tup (xs ++ ys))))
theorem Vals.nil_iff {xs : List V} {us : List Value} (r : Vals xs us) : us = [] ↔ xs = [] := by
  cases r with
  | nil => simp
  | cons _ _ => simp
theorem op_catT : OpR X (binaryOp .Add) (rCatT X.K) := by
  intro pins s σ H x y v u Q I rx ry h
  obtain ⟨a, b, xs, ys, rfl, rfl, ha, hb, hx, hz, q1, q2⟩ := h
  cases rx
  cases ry
  obtain ⟨its, r1, p1, _⟩ := I.tuple ha
  obtain ⟨its2, r2, p2, _⟩ := I.tuple hb
  refine HT.cat_tup p1 p2 (fun z => hx (r1.nil_iff.mp z)) (fun z => ⟨.ref a, H, I, rfl, q1 (r2.nil_iff.mp z)⟩) (fun z => ?_) (by rw [← r1.length, ← r2.length]; exact hz)
  refine ⟨.ref s.heap.objs.size, _, I.laid (t' := s.toks) (o := .tup (xs ++ ys)) (fun b ob q => Heap.get?_push_of_some _ q) (Nat.le_refl _) ?_, rfl, q2 (fun w => z (r2.nil_iff.mpr w)) _ (I.hok.fresh (Nat.le_refl _))⟩
  exact ⟨by rw [List.length_append]; exact hz, _, r1.append r2, IsTup.new _ _⟩
end
end L2

namespace L2
open PySem PySem.Spec PyProof.Rows

/-! ### places -/
/-- the place that an index of any sign means -/
def ixN (n : Nat) (i : Int) : Option Nat := if 0 ≤ i then (if i < n then some i.toNat else none) else if -(n : Int) ≤ i then some (i + n).toNat else none
def atI {α : Type} (xs : List α) (i : Int) : Option α := (ixN xs.length i).bind fun j => xs[j]?
theorem ixN_seq {n : Nat} {i : Int} {j : Nat} (h : ixN n i = some j) : seqIndex? i n = some j ∧ j < n ∧ -(n : Int) ≤ i ∧ i < n := by
  unfold ixN at h
  by_cases h0 : 0 ≤ i
  · rw [if_pos h0] at h
    by_cases h1 : i < n
    · rw [if_pos h1] at h
      have e : i.toNat = j := Option.some.inj h
      exact ⟨by rw [seqIndex_of h0 h1, e], by omega, by omega, h1⟩
    · rw [if_neg h1] at h; cases h
  · rw [if_neg h0] at h
    by_cases h1 : -(n : Int) ≤ i
    · rw [if_pos h1] at h
      have e : (i + n).toNat = j := Option.some.inj h
      exact ⟨by rw [seqIndex_neg (by omega) h1, e], by omega, h1, by omega⟩
    · rw [if_neg h1] at h; cases h
theorem atI_get {α : Type} {xs : List α} {i : Int} {v : α} (h : atI xs i = some v) : ∃ j, seqIndex? i xs.length = some j ∧ xs[j]? = some v ∧ j < xs.length ∧ -(xs.length : Int) ≤ i ∧ i < xs.length := by
  unfold atI at h
  cases e : ixN xs.length i with
  | none => rw [e] at h; cases h
  | some j =>
    rw [e] at h
    obtain ⟨h1, h2, h3, h4⟩ := ixN_seq e
    exact ⟨j, h1, h, h2, h3, h4⟩
theorem atI_nat {α : Type} {xs : List α} {j : Nat} {v : α} (h : xs[j]? = some v) : atI xs (j : Int) = some v := by
  have hj : j < xs.length := (List.getElem?_eq_some_iff.mp h).1
  have e : ixN xs.length (j : Int) = some j := by
    unfold ixN
    rw [if_pos (by omega), if_pos (by omega)]; simp
  unfold atI; rw [e]; exact h
/-! ### what may be subscripted -/
/-- what stands as an index of a plain subscript -/
def PlainIx (b : Expr) : Prop := ∀ o i, subscripted b false o i = operate [o, i] (getItem o i)
/-- a subscript by values -/
def IxR (X : Cx) (r : R2) : Prop :=
  ∀ (value slice : Expr) (pins : List (Addr × Obj)) (s : Shared) (σ : St) (H : Hp) (x y : V) (v u : Value) (Q : VK), Inv X pins σ H s → RelV x v → RelV y u → r x y H Q →
    subscripted slice false v u = operate [v, u] (getItem v u) → wpAny (model X.prog X.w) X.A (subscriptTail value slice v u) (EP X pins σ Q) X.xe s
/-- a call of a builtin's method by values: the receiver, the arguments -/
def MtR (X : Cx) (id : String) (r : V → List V → Hp → VK → Prop) : Prop :=
  ∀ (pins : List (Addr × Obj)) (s : Shared) (σ : St) (H : Hp) (x : V) (xs : List V) (v : Value) (us : List Value) (Q : VK), Inv X pins σ H s → RelV x v → Vals xs us → r x xs H Q →
    wpAny (model X.prog X.w) X.A (call (.builtin id) (v :: us)) (EP X pins σ Q) X.xe s
section
variable {X : Cx} {a b : Expr} {ta tb : TE} {pos : Pos}
theorem IxR.or {r r' : R2} (h : IxR X r) (h' : IxR X r') : IxR X (fun x y H Q => r x y H Q ∨ r' x y H Q) := by
  intro value slice pins s σ H x y v u Q I rx ry q hs
  rcases q with q | q
  · exact h value slice pins s σ H x y v u Q I rx ry q hs
  · exact h' value slice pins s σ H x y v u Q I rx ry q hs
theorem MtR.or {id : String} {r r' : V → List V → Hp → VK → Prop} (h : MtR X id r) (h' : MtR X id r') : MtR X id (fun x xs H Q => r x xs H Q ∨ r' x xs H Q) := by
  intro pins s σ H x xs v us Q I rx rs q
  rcases q with q | q
  · exact h pins s σ H x xs v us Q I rx rs q
  · exact h' pins s σ H x xs v us Q I rx rs q
/-- a[b] -/
theorem pe_ix {r : R2} (hr : IxR X r) (ha : PE X a ta) (hb : PE X b tb) (hs : PlainIx b) : PE X (.Subscript a b pos) (tOp r ta tb) := by
  intro pins s σ H Q I h
  exact Subscript_ (binT ha hb I h fun v u s2 x y H2 I2 rx ry q => hr a b pins s2 σ H2 x y v u Q I2 rx ry q (hs _ _))

def rIxL (K : PySem.W.Frag) : R2 := fun x y H Q => ∃ p xs i v, x = .ref p ∧ y = .int i ∧ SqL K H p xs ∧ atI xs i = some v ∧ Q v H
def rIxT (K : PySem.W.Frag) : R2 := fun x y H Q => ∃ p xs i v, x = .ref p ∧ y = .int i ∧ SqT K H p xs ∧ atI xs i = some v ∧ Q v H
def rIxS : R2 := fun x y H Q => ∃ z i c, x = .str z ∧ y = .int i ∧ z.length ≤ sizeLine ∧ atI z.cps.toList i = some c ∧ Q (.str ⟨#[c]⟩) H
theorem ix_list : IxR X (rIxL X.K) := by
  intro value slice pins s σ H x y v u Q I rx ry h hs
  obtain ⟨p, xs, i, z, rfl, rfl, hq, he, q⟩ := h
  cases rx
  obtain ⟨t, rfl⟩ := ry
  obtain ⟨its, r, pl, hz⟩ := I.list hq
  obtain ⟨j, h1, h2, h3, h4, h5⟩ := atI_get he
  obtain ⟨w, ew, rw'⟩ := r.get h2
  have hl := r.length
  have hn := line63
  have fin : EP X pins σ Q w s := ⟨z, H, I, rw', q⟩
  by_cases h0 : 0 ≤ i
  · have hj : i.toNat = j := by
      rw [seqIndex_of h0 h5] at h1
      exact Option.some.inj h1
    exact item_listR pl.isList h0 (by omega) (by rw [hj]; simpa using ew) fin hs
  · have hj : (i + (its.toArray.size : Int)).toNat = j := by
      rw [seqIndex_neg (by omega) h4] at h1
      rw [List.size_toArray, ← hl]
      exact Option.some.inj h1
    exact subscriptTail_builtinR (x := w) pl.isList.typeIs slot_list_getitem.lookup
      (wpAny_getItem_list_neg (Q := fun r s' => r = w ∧ EP X pins σ Q r s') pl.isList (by omega) (by rw [List.size_toArray] <;> omega) (by omega) (by rw [hj]; simpa using ew) ⟨rfl, fin⟩) hs
theorem ix_tup : IxR X (rIxT X.K) := by
  intro value slice pins s σ H x y v u Q I rx ry h hs
  obtain ⟨p, xs, i, z, rfl, rfl, hq, he, q⟩ := h
  cases rx
  obtain ⟨t, rfl⟩ := ry
  obtain ⟨its, r, pl, hz⟩ := I.tuple hq
  obtain ⟨j, h1, h2, h3, h4, h5⟩ := atI_get he
  obtain ⟨w, ew, rw'⟩ := r.get h2
  have hl := r.length
  have hn := line63
  have fin : EP X pins σ Q w s := ⟨z, H, I, rw', q⟩
  exact subscriptTail_builtinR (x := w) pl.typeIs slot_tuple_getitem.lookup
    (getItem_tuple (j := j) (Q := fun r s' => r = w ∧ EP X pins σ Q r s') pl (by omega) (by omega) (by rw [List.size_toArray, ← hl]; exact h1) (by simpa using ew) ⟨rfl, fin⟩) hs
theorem ix_str : IxR X rIxS := by
  intro value slice pins s σ H x y v u Q I rx ry h hs
  obtain ⟨z, i, c, rfl, rfl, hz, he, q⟩ := h
  obtain ⟨t, rfl⟩ := rx
  obtain ⟨t', rfl⟩ := ry
  obtain ⟨j, h1, h2, h3, h4, h5⟩ := atI_get he
  have hl : z.cps.toList.length = z.length := by simp [Str.length]
  rw [hl] at h1 h4 h5
  have hn := line63
  exact tail_any (typeIs_str s z t) slot_str_getitem.lookup (getItem_str (c := c) (by
    have e1 : decide (i < -(2 ^ 63 : Int)) = false := decide_eq_false (by omega)
    have e2 : decide (i ≥ 2 ^ 63) = false := decide_eq_false (by omega)
    rw [e1, e2, Bool.or_false]) (by rw [h1]; simpa using h2) ⟨.str ⟨#[c]⟩, H, I.tok _, ⟨_, rfl⟩, q⟩) hs
/-! ### xs[i] = v, any sign -/
/-- the list's object behind a store -/
theorem mapSeq_set (its : List Value) (n j : Nat) (u : Value) : Obj.mapSeq (·.setIfInBounds j u) { cls := .type "list", data := .seq its.toArray n } = { cls := .type "list", data := .seq (its.set j u).toArray n } := by
  simp [Obj.mapSeq]
theorem Inv.lst {pins : List (Addr × Obj)} {σ : St} {H : Hp} {s : Shared} {p : Addr} {xs : List V} (I : Inv X pins σ H s) (h : H p = some (.lst xs)) :
    ∃ (its : List Value) (n : Nat), Vals xs its ∧ s.heap.get? p = some { cls := .type "list", data := .seq its.toArray n } ∧ xs.length ≤ sizeLine := by
  obtain ⟨z, its, n, r, e⟩ := I.hok p _ h
  exact ⟨its, n, r, e, z⟩
/-- the list at p is written by an update of its object -/
theorem Inv.lstUpd {pins : List (Addr × Obj)} {σ : St} {H : Hp} {s : Shared} {p : Addr} {xs ys : List V} {its its' : List Value} {n n' : Nat} {f : Obj → Obj} (I : Inv X pins σ H s) (h : H p = some (.lst xs))
    (ho : s.heap.get? p = some { cls := .type "list", data := .seq its.toArray n }) (hf : f { cls := .type "list", data := .seq its.toArray n } = { cls := .type "list", data := .seq its'.toArray n' }) (r : Vals ys its') (hz : ys.length ≤ sizeLine) (t : Nat) :
    Inv X pins σ (upd H p (.lst ys)) { s with heap := s.heap.update p f, toks := t } := by
  have e : (s.heap.update p f).get? p = some { cls := .type "list", data := .seq its'.toArray n' } := by
    rw [Heap.get?_update_self f ho (by rw [hf] <;> rfl), hf]
  refine I.write (x := p) (e := p) (by rw [h]; trivial) (.inl rfl) (fun b u hb q => (Heap.get?_update_other _ _ (Ne.symm hb)).trans q) ⟨_, e⟩ ?_
  exact ⟨hz, its', n', r, e⟩
def rSetL : V → V → V → Hp → (Hp → Prop) → Prop := fun o i v H Q => ∃ p xs k j, o = .ref p ∧ i = .int k ∧ H p = some (.lst xs) ∧ ixN xs.length k = some j ∧ Q (upd H p (.lst (xs.set j v)))
theorem set_list : PSet X rSetL := by
  intro pins s σ H o i v ov iv u Q I ro ri rv h
  obtain ⟨p, xs, k, j, rfl, rfl, hp, hj, q⟩ := h
  cases ro
  obtain ⟨t, rfl⟩ := ri
  obtain ⟨its, n, r, ho, hz⟩ := I.lst hp
  obtain ⟨h1, h2, h3, h4⟩ := ixN_seq hj
  have hl := r.length
  have hn := line63
  have I' : Inv X pins σ (upd H p (.lst (xs.set j v))) { s with heap := s.heap.update p (Obj.mapSeq (·.setIfInBounds j u)) } :=
    I.lstUpd hp ho (mapSeq_set its n j u) (r.set rv j) (by rw [List.length_set]; exact hz) s.toks
  by_cases h0 : 0 ≤ k
  · have hk : k.toNat = j := by
      rw [seqIndex_of h0 h4] at h1
      exact Option.some.inj h1
    exact PySem.W.ki_setAt ho h0 (by omega) (by rw [List.size_toArray, ← hl]; exact h4) (by rw [hk]; exact ⟨_, I', q⟩)
  · have hk : (k + (its.toArray.size : Int)).toNat = j := by
      rw [seqIndex_neg (by omega) h3] at h1
      rw [List.size_toArray, ← hl]
      exact Option.some.inj h1
    exact PySem.W.ki_setBack ho (by omega) (by rw [List.size_toArray, ← hl]; exact h3) (by omega) (by rw [hk]; exact ⟨_, I', q⟩)

/-! ### slices -/
theorem slice_bounds (lo hi : Option Int) (n : Nat) : (sliceBounds lo hi none n).1 = ((HT.sIx n 0 lo : Nat) : Int) ∧ (sliceBounds lo hi none n).2.1 = ((HT.sIx n n hi : Nat) : Int) ∧ (sliceBounds lo hi none n).2.2 = 1 := by
  refine ⟨?_, ?_, rfl⟩
  · cases lo with
    | none => simp [sliceBounds, HT.sIx]
    | some i =>
      simp only [sliceBounds, HT.sIx, Option.getD_none, show (1 : Int) > 0 by decide, if_true]
      by_cases h : i < 0
      · simp only [h, if_true] <;> omega
      · simp only [h, if_false] <;> omega
  · cases hi with
    | none => simp [sliceBounds, HT.sIx]
    | some i =>
      simp only [sliceBounds, HT.sIx, Option.getD_none, show (1 : Int) > 0 by decide, if_true]
      by_cases h : i < 0
      · simp only [h, if_true] <;> omega
      · simp only [h, if_false] <;> omega
theorem slicePick_cut (its : List Value) (lo hi : Option Int) : slicePick its.toArray lo hi none = ((its.drop (HT.sIx its.length 0 lo)).take (HT.sIx its.length its.length hi - HT.sIx its.length 0 lo)).toArray := by
  obtain ⟨h1, h2, h3⟩ := slice_bounds lo hi its.toArray.size
  unfold slicePick
  rw [h1, h2, h3]
  simp only [sliceRange_one, pick_run, List.size_toArray] <;> rfl
/-- xs[lo:hi] of a list: a new list -/
def rSlL (K : PySem.W.Frag) : V → Option Int → Option Int → Hp → VK → Prop := fun x lo hi H Q => ∃ a xs, x = .ref a ∧ SqL K H a xs ∧ ∀ p, H p = none → Q (.ref p) (upd H p (.lst (cutV xs lo hi)))
theorem sl_list : SlR X (rSlL X.K) := by
  intro pins s σ H x v vl vu lo hi sl Q I rx hs pl pu h
  obtain ⟨a, xs, rfl, hx, q⟩ := h
  cases rx
  obtain ⟨its, r, ht, hz⟩ := I.list hx
  have hlen := r.length
  refine ⟨"list", _, slot_list_getitem.lookup, ht.isList.typeIs, ?_⟩
  refine wpAny_getItem_list_slice ht.isList hs pl pu .none (by simp) ?_ (by rw [List.size_toArray] <;> omega)
  rw [slicePick_cut, ← hlen]
  refine ⟨.ref s.heap.objs.size, _, I.laid (t' := s.toks) (o := .lst (cutV xs lo hi)) (fun b ob q => Heap.get?_push_of_some _ q) (Nat.le_refl _) ?_, rfl, q _ (I.hok.fresh (Nat.le_refl _))⟩
  exact ⟨Nat.le_trans (cutV_length xs lo hi) hz, _, 0, (r.drop (HT.sIx xs.length 0 lo)).take (HT.sIx xs.length xs.length hi - HT.sIx xs.length 0 lo), Heap.get?_push_size _ rfl⟩

/-! ### in, not in: flat items -/
def flatV : V → Bool
  | .non => true
  | .bl _ => true
  | .int _ => true
  | .str _ => true
  | _ => false
/-- == of flat values -/
def eqV : V → V → Bool
  | .non, .non => true
  | .bl a, .bl b => a == b
  | .bl a, .int b => (if a then 1 else 0) == b
  | .int a, .bl b => a == (if b then 1 else 0)
  | .int a, .int b => a == b
  | .str a, .str b => a == b
  | _, _ => false
theorem eqAt_V {A : Around} {s : Shared} {y x : V} {u v : Value} (ry : RelV y u) (rx : RelV x v) (fy : flatV y = true) (fx : flatV x = true) : SeqAt.EqAt A s u v (eqV y x) := by
  cases y with
  | non =>
    cases ry
    cases x with
    | non => cases rx; exact SeqAt.EqAt.same _
    | bl b => cases rx; exact SeqAt.EqAt.none_bool b
    | int b => obtain ⟨t, rfl⟩ := rx; exact SeqAt.EqAt.none_int b t
    | str b => obtain ⟨t, rfl⟩ := rx; exact SeqAt.EqAt.none_str b t
    | _ => exact absurd (show false = true from fx) Bool.false_ne_true
  | bl a =>
    cases ry
    cases x with
    | non => cases rx; exact SeqAt.EqAt.bool_none a
    | bl b => cases rx; exact SeqAt.EqAt.bool_bool a b
    | int b => obtain ⟨t, rfl⟩ := rx; exact SeqAt.EqAt.bool_int a b t
    | str b => obtain ⟨t, rfl⟩ := rx; exact SeqAt.EqAt.bool_str a b t
    | _ => exact absurd (show false = true from fx) Bool.false_ne_true
  | int a =>
    obtain ⟨t', rfl⟩ := ry
    cases x with
    | non => cases rx; exact SeqAt.EqAt.int_none a t'
    | bl b => cases rx; exact SeqAt.EqAt.int_bool a t' b
    | int b => obtain ⟨t, rfl⟩ := rx; exact SeqAt.EqAt.int_int a t' b t
    | str b => obtain ⟨t, rfl⟩ := rx; exact SeqAt.EqAt.int_str a t' b t
    | _ => exact absurd (show false = true from fx) Bool.false_ne_true
  | str a =>
    obtain ⟨t', rfl⟩ := ry
    cases x with
    | non => cases rx; exact SeqAt.EqAt.str_none a t'
    | bl b => cases rx; exact SeqAt.EqAt.str_bool a t' b
    | int b => obtain ⟨t, rfl⟩ := rx; exact SeqAt.EqAt.str_int a t' b t
    | str b => obtain ⟨t, rfl⟩ := rx; exact SeqAt.EqAt.str_str a t' b t
    | _ => exact absurd (show false = true from fx) Bool.false_ne_true
  | _ => exact absurd (show false = true from fy) Bool.false_ne_true
/-- the items' answers, read off the values (a value's own answer does not lean on its token) -/
def eqU (x : V) (u : Value) : Bool := match u with
  | .none => eqV .non x
  | .bool b => eqV (.bl b) x
  | .int i _ => eqV (.int i) x
  | .str z _ => eqV (.str z) x
  | _ => false
theorem eqU_of {x y : V} {u : Value} (r : RelV y u) (f : flatV y = true) : eqU x u = eqV y x := by
  cases y with
  | non => cases r; rfl
  | bl b => cases r; rfl
  | int i => obtain ⟨t, rfl⟩ := r; rfl
  | str z => obtain ⟨t, rfl⟩ := r; rfl
  | _ => exact absurd (show false = true from f) Bool.false_ne_true
theorem any_eqU {x : V} : ∀ {xs : List V} {us : List Value}, Vals xs us → xs.all flatV = true → us.any (eqU x) = xs.any fun y => eqV y x
  | _, _, .nil, _ => rfl
  | y :: xs, u :: us, .cons r t, f => by
    rw [List.all_cons, Bool.and_eq_true] at f
    rw [List.any_cons, List.any_cons, eqU_of r f.1, any_eqU t f.2]
theorem mem_eqAt {A : Around} {s : Shared} {x : V} {v : Value} (rx : RelV x v) (fx : flatV x = true) : ∀ {xs : List V} {us : List Value}, Vals xs us → xs.all flatV = true → ∀ u ∈ us, SeqAt.EqAt A s u v (eqU x u)
  | _, _, .nil, _ => fun u hu => by cases hu
  | y :: xs, u :: us, .cons r t, f => fun u' hu => by
    rw [List.all_cons, Bool.and_eq_true] at f
    rcases List.mem_cons.mp hu with rfl | hu
    · rw [eqU_of r f.1]; exact eqAt_V r rx f.1 fx
    · exact mem_eqAt rx fx t f.2 u' hu
def inV (x : V) (xs : List V) : Bool := xs.any fun y => eqV y x
/-- x in a list or tuple of flat items -/
def rIn (K : PySem.W.Frag) (neg : Bool) : R2 := fun x y H Q => ∃ p xs, y = .ref p ∧ (SqL K H p xs ∨ SqT K H p xs) ∧ flatV x = true ∧ xs.all flatV = true ∧ Q (.bl (if neg then !inV x xs else inV x xs)) H
theorem op_in_seq : OpR X (compareOp .In) (rIn X.K false) := by
  intro pins s σ H x y v u Q I rx ry h
  obtain ⟨p, xs, rfl, hq, fx, fs, q⟩ := h
  cases ry
  rcases hq with hq | hq
  · obtain ⟨its, r, pl, hz⟩ := I.list hq
    refine SeqAt.in_listAt (eqU x) pl.isList (fun w hw => mem_eqAt rx fx r fs w (by simpa using hw)) ⟨.bl _, H, I, rfl, ?_⟩
    rw [show its.toArray.any (eqU x) = its.any (eqU x) by simp, any_eqU r fs]
    exact q
  · obtain ⟨its, r, pl, hz⟩ := I.tuple hq
    refine SeqAt.in_tupleAt (eqU x) pl (fun w hw => mem_eqAt rx fx r fs w (by simpa using hw)) ⟨.bl _, H, I, rfl, ?_⟩
    rw [show its.toArray.any (eqU x) = its.any (eqU x) by simp, any_eqU r fs]
    exact q
/-! ### len, list(x), tuple(x) of any list or tuple that is read -/
theorem call_len_seq : CallR X (.builtin "len") (fun xs H Q => ∃ p ys, xs = [.ref p] ∧ (SqL X.K H p ys ∨ SqT X.K H p ys) ∧ Q (.int ys.length) H) := by
  intro pins s σ H xs us Q I r h
  obtain ⟨p, ys, rfl, hq, q⟩ := h
  obtain ⟨u, rfl, rx⟩ := vals1 r
  cases rx
  have hn := line63
  rcases hq with hq | hq
  · obtain ⟨its, r', pl, hz⟩ := I.list hq
    have hlen := r'.length
    exact Calls.call_len_list pl.isList (by simp only [List.size_toArray] <;> omega) ⟨.int ys.length, H, I.tok _, ⟨s.toks + 1, by rw [List.size_toArray, hlen]⟩, q⟩
  · obtain ⟨its, r', pl, hz⟩ := I.tuple hq
    have hlen := r'.length
    exact len_tuple pl (by simp only [List.size_toArray] <;> omega) ⟨.int ys.length, H, I.tok _, ⟨s.toks + 1, by rw [List.size_toArray, hlen]⟩, q⟩
theorem CallR.or {f : Value} {r r' : List V → Hp → VK → Prop} (h : CallR X f r) (h' : CallR X f r') : CallR X f (fun xs H Q => r xs H Q ∨ r' xs H Q) := by
  intro pins s σ H xs us Q I rs q
  rcases q with q | q
  · exact h pins s σ H xs us Q I rs q
  · exact h' pins s σ H xs us Q I rs q
theorem call_list_of : CallR X (.type "list") (fun xs H Q => ∃ p ys, xs = [.ref p] ∧ (SqL X.K H p ys ∨ SqT X.K H p ys) ∧ ∀ l, H l = none → Q (.ref l) (upd H l (.lst ys))) := by
  intro pins s σ H xs us Q I r h
  obtain ⟨p, ys, rfl, hq, q⟩ := h
  obtain ⟨u, rfl, rx⟩ := vals1 r
  cases rx
  have fin : ∀ (its : List Value), Vals ys its → ys.length ≤ sizeLine → ∀ (h' : Heap) (c' : Nat), (∀ b o', s.heap.get? b = some o' → h'.get? b = some o') →
      h'.get? s.heap.objs.size = some { cls := .type "list", dict := none, data := .seq its.toArray c', slots := #[] } → EP X pins σ Q (.ref s.heap.objs.size) { s with heap := h' } := fun its r' hz h' c' kp e =>
    ⟨.ref s.heap.objs.size, _, I.laid (t' := s.toks) kp (Nat.le_refl _) (show ObjOk X.prog X.w _ h' _ (.lst ys) from ⟨hz, its, c', r', e⟩), rfl, q _ (I.hok.fresh (Nat.le_refl _))⟩
  rcases hq with hq | hq
  · obtain ⟨its, r', pl, hz⟩ := I.list hq
    have hlen := r'.length
    obtain ⟨o, ho, hc, n, hd⟩ := pl.isList
    exact call_list_seq p (.inl rfl) ho hc hd (fun h' c' kp e => fin its r' hz h' c' kp e) (by simp only [List.size_toArray] <;> omega)
  · obtain ⟨its, r', pl, hz⟩ := I.tuple hq
    have hlen := r'.length
    obtain ⟨o, ho, hc, n, hd⟩ := pl
    exact call_list_seq p (.inr rfl) ho hc hd (fun h' c' kp e => fin its r' hz h' c' kp e) (by simp only [List.size_toArray] <;> omega)
theorem call_tuple_of : CallR X (.type "tuple") (fun xs H Q => ∃ p ys, xs = [.ref p] ∧ ((SqL X.K H p ys ∧ ∀ l, H l = none → Q (.ref l) (upd H l (.tup ys))) ∨ (SqT X.K H p ys ∧ Q (.ref p) H))) := by
  intro pins s σ H xs us Q I r h
  obtain ⟨p, ys, rfl, h⟩ := h
  obtain ⟨u, rfl, rx⟩ := vals1 r
  cases rx
  rcases h with ⟨hq, q⟩ | ⟨hq, q⟩
  · obtain ⟨its, r', pl, hz⟩ := I.list hq
    have hlen := r'.length
    refine call_tuple_list pl.isList (fun h' kp => ?_) (by simp only [List.size_toArray] <;> omega)
    have I1 : Inv X pins σ H { s with heap := h' } := I.kept (t' := s.toks) kp
    have I2 : Inv X pins σ (upd H h'.objs.size (.tup ys)) { s with heap := h'.push { cls := .type "tuple", data := .seq its.toArray } } :=
      I1.laid (t' := s.toks) (fun b o e => Heap.get?_push_of_some _ e) (Nat.le_refl _) (show ObjOk X.prog X.w _ _ _ (.tup ys) from ⟨hz, its, r', IsTup.new _ _⟩)
    exact ⟨.ref h'.objs.size, _, I2, rfl, q _ (I1.hok.fresh (Nat.le_refl _))⟩
  · obtain ⟨its, r', pl, hz⟩ := I.tuple hq
    exact call_tuple_same pl ⟨.ref p, H, I, rfl, q⟩

/-! ### the call of a builtin's method: o.m(..) -/
/-- the value is of that builtin type -/
def tyV (K : PySem.W.Frag) (T : String) (x : V) (H : Hp) : Prop := match x with
  | .str _ => T = "str"
  | .int _ => T = "int"
  | .ref p => (T = "list" ∧ ∃ xs, SqL K H p xs) ∨ (T = "tuple" ∧ ∃ o, K.lookup p = some o ∧ o.cls = .type "tuple" ∧ o.dict = none) ∨
      (T = "dict" ∧ ((∃ kvs, H p = some (.dK kvs)) ∨ ∃ kvs, H p = some (.dT kvs))) ∨ (T = "set" ∧ ∃ S n, H p = some (.set S n))
  | _ => False
theorem tyV_is {pins : List (Addr × Obj)} {σ : St} {H : Hp} {s : Shared} {T : String} {x : V} {v : Value} (I : Inv X pins σ H s) (r : RelV x v) (ty : tyV X.K T x H) :
    s.TypeIs v T ∧ ∀ a, v = .ref a → ∃ ob, s.heap.get? a = some ob ∧ ob.dict = none := by
  cases x with
  | str z =>
    obtain ⟨t, rfl⟩ := r
    cases (show T = "str" from ty)
    exact ⟨typeIs_str s z t, fun _ e => nomatch e⟩
  | int i =>
    obtain ⟨t, rfl⟩ := r
    cases (show T = "int" from ty)
    exact ⟨typeIs_int s i t, fun _ e => nomatch e⟩
  | ref p =>
    cases r
    rcases ty with ⟨rfl, xs, hq⟩ | ⟨rfl, o, hk, hc, hd⟩ | ⟨rfl, hk⟩ | ⟨rfl, S, n, hk⟩
    · obtain ⟨its, _, pl, _⟩ := I.list hq
      refine ⟨pl.isList.typeIs, fun a e => ?_⟩
      cases e
      obtain ⟨o, n, e, c, hd, _⟩ := pl
      exact ⟨o, e, hd⟩
    · refine ⟨⟨o, I.kIn p o hk, hc⟩, fun a e => ?_⟩
      cases e
      exact ⟨o, I.kIn _ o hk, hd⟩
    · have z : ∃ o, s.heap.get? p = some o ∧ o.ExactDict := by
        rcases hk with ⟨kvs, hk⟩ | ⟨kvs, hk⟩
        · obtain ⟨_, _, _, _, o, _, _, e, ex, _⟩ := I.hok p _ hk
          exact ⟨o, e, ex⟩
        · obtain ⟨_, _, _, _, o, _, _, e, ex, _⟩ := I.hok p _ hk
          exact ⟨o, e, ex⟩
      obtain ⟨o, e, ex⟩ := z
      refine ⟨⟨o, e, ex.1⟩, fun a e2 => ?_⟩
      cases e2
      exact ⟨o, e, ex.2.1⟩
    · obtain ⟨o, _, _, _, e, ex, _⟩ := I.hok p _ hk
      refine ⟨⟨o, e, ex.1⟩, fun a e2 => ?_⟩
      cases e2
      exact ⟨o, e, ex.2.1⟩
  | _ => exact False.elim ty
def tBM0 (K : PySem.W.Frag) (T : String) (r : V → List V → Hp → VK → Prop) (to : TE) : TE := fun σ H Q => to σ H fun x H1 => tyV K T x H1 ∧ r x [] H1 Q
def tBM (K : PySem.W.Frag) (T : String) (r : V → List V → Hp → VK → Prop) (to : TE) (t : TA) : TE := fun σ H Q => to σ H fun x H1 => tyV K T x H1 ∧ t σ H1 fun xs H2 => r x xs H2 Q
variable {o e : Expr} {es : List Expr} {to : TE} {t : TA} {name : Str} {apos cpos : Pos} {T id : String} {r : V → List V → Hp → VK → Prop}
theorem pe_bm0 (pa : PlainAttrs T) (slot : Slot T name id) (hty : typeOf (.builtin id) = pure (.type "method_descriptor")) (hm : MtR X id r) (ho : PE X o to)
    (hbase : attributeBase o name X.env (eval o X.env) = eval o X.env := by rfl) (hline : (apos.endLine == cpos.line) = true := by rfl) : PE X (.Call (.Attribute o name apos) [] [] cpos) (tBM0 X.K T r to) := by
  intro pins s σ H Q I h
  refine wpAny_Call_method0_late hbase hline (thn (ho pins s σ H _ I h) fun v s1 ⟨x, H1, I1, r1, ty, q1⟩ => ?_)
  obtain ⟨h1, h2⟩ := tyV_is I1 r1 ty
  exact ⟨T, id, pa, slot, hty, h1, h2, Calls.callWith_builtin rfl (PySem.evalArgs_none (hm pins s1 σ H1 x [] v [] Q I1 r1 .nil q1))⟩
theorem pe_bm (pa : PlainAttrs T) (slot : Slot T name id) (hty : typeOf (.builtin id) = pure (.type "method_descriptor")) (hm : MtR X id r) (ho : PE X o to) (ha : PA X (e :: es) t)
    (hbase : attributeBase o name X.env (eval o X.env) = eval o X.env := by rfl)
    (hfew : ((backTo cpos (starEach (e :: es) X.env)).all (fun x => !x.1) && (backToKw cpos (keywordEach [] X.env)).all (fun x => x.1.isSome)
      && decide ((e :: es).length + ([] : List Keyword).length + (if ([] : List Keyword).isEmpty then 0 else 1) < 30)) = true := by rfl)
    (hline : (apos.endLine == cpos.line) = true := by rfl) (hs : starEach (e :: es) X.env = (false, eval e X.env) :: starEach es X.env := by rfl) (hplain : (backTo cpos (starEach es X.env)).any (·.1) = false := by rfl) :
    PE X (.Call (.Attribute o name apos) (e :: es) [] cpos) (tBM X.K T r to t) := by
  intro pins s σ H Q I h
  refine wpAny_Call_method_late hbase hfew hline rfl (thn (ho pins s σ H _ I h) fun v s1 ⟨x, H1, I1, r1, ty, q1⟩ => ?_)
  obtain ⟨h1, h2⟩ := tyV_is I1 r1 ty
  refine ⟨T, id, pa, slot, hty, h1, h2, ?_⟩
  have hA := ha cpos pins s1 σ H1 _ I1 q1
  rw [hs] at hA ⊢
  refine Calls.callWith_builtin (by show (false || (backTo cpos (starEach es X.env)).any (·.1)) = false; rw [hplain] <;> rfl) (Calls.evalArgs_plain ?_)
  exact thn hA fun us s2 ⟨vs, H2, I2, r2, q2⟩ => hm pins s2 σ H2 x vs v us Q I2 r1 r2 q2
/- xs.append(e), list.index on a module's tuple .. are MtR facts of 06m -/
end
end L2

namespace L2
open PySem PySem.Spec PyProof.Rows

def MtM (X : Cx) (id : String) (r : V → List V → Hp → VK → Prop) : Prop :=
  ∀ (pins : List (Addr × Obj)) (s : Shared) (σ : St) (H : Hp) (x : V) (xs : List V) (v : Value) (us : List Value) (Q : VK), Inv X pins σ H s → RelV x v → Vals xs us → r x xs H Q →
    wpAny (model X.prog X.w) X.A (call (.builtin id) (v :: us)) (EP X pins σ Q) X.xe s

/-! ### lists of values -/
theorem Vals.one : ∀ {x : V} {us : List Value}, Vals [x] us → ∃ u, us = [u] ∧ RelV x u
  | _, _, .cons r .nil => ⟨_, rfl, r⟩
theorem Vals.two : ∀ {x y : V} {us : List Value}, Vals [x, y] us → ∃ u v, us = [u, v] ∧ RelV x u ∧ RelV y v
  | _, _, _, .cons r (.cons q .nil) => ⟨_, _, rfl, r, q⟩
theorem Vals.zero : ∀ {us : List Value}, Vals [] us → us = []
  | _, .nil => rfl
theorem Vals.dropLast {xs : List V} {us : List Value} (h : Vals xs us) : Vals xs.dropLast us.dropLast := by
  induction h with
  | nil => exact .nil
  | cons r t ih =>
    cases t with
    | nil => exact .nil
    | cons q t' => exact .cons r ih
theorem Vals.eraseIdx : ∀ {xs : List V} {us : List Value} (i : Nat), Vals xs us → Vals (xs.eraseIdx i) (us.eraseIdx i)
  | _, _, _, .nil => .nil
  | _, _, 0, .cons _ t => t
  | _, _, i + 1, .cons r t => .cons r (Vals.eraseIdx i t)
theorem Vals.reverse {xs : List V} {us : List Value} (h : Vals xs us) : Vals xs.reverse us.reverse := by
  induction h with
  | nil => exact .nil
  | cons r t ih => rw [List.reverse_cons, List.reverse_cons]; exact Vals.append ih (.cons r .nil)
theorem erase_last {α : Type} (l : List α) : l.eraseIdx (l.length - 1) = l.dropLast := by
  induction l with
  | nil => rfl
  | cons a r ih =>
    cases r with
    | nil => rfl
    | cons b r =>
      have e : (a :: b :: r).length - 1 = ((b :: r).length - 1) + 1 := by
        have h1 : (a :: b :: r).length = r.length + 2 := rfl
        have h2 : (b :: r).length = r.length + 1 := rfl
        omega
      rw [e, List.eraseIdx_cons_succ, ih]
      all_goals rfl
section
variable {X : Cx} {pins : List (Addr × Obj)} {σ : St} {H : Hp} {s : Shared} {l b : Addr} {xs ys zs : List V}

/-! ### the two steps: a tracked list is rewritten, a new list is laid -/
theorem Inv.lset {its its' : List Value} {n : Nat} {f : Array Value → Array Value} {t' : Nat} (I : Inv X pins σ H s) (hH : H l = some (.lst xs))
    (e : s.heap.get? l = some { cls := .type "list", data := .seq its.toArray n }) (hf : f its.toArray = its'.toArray) (hv : Vals ys its') (hz : ys.length ≤ sizeLine) :
    Inv X pins σ (upd H l (.lst ys)) { s with heap := s.heap.update l (Obj.mapSeq f), toks := t' } := by
  have q := PySem.IsL.update e f
  rw [hf] at q
  refine I.write (x := l) (e := l) (by rw [hH]; exact trivial) (.inl rfl) (fun b' u hb hu => (Heap.get?_update_other s.heap (Obj.mapSeq f) (Ne.symm hb)).trans hu) ⟨_, q⟩ ?_
  exact ⟨hz, its', _, hv, q⟩
theorem Inv.lnew {its : List Value} {t' : Nat} (I : Inv X pins σ H s) (hv : Vals ys its) (hz : ys.length ≤ sizeLine) :
    Inv X pins σ (upd H s.heap.objs.size (.lst ys)) { s with heap := s.heap.push { cls := .type "list", data := .seq its.toArray }, toks := t' } :=
  I.laid (fun _ _ q => Heap.get?_push_of_some _ q) (Nat.le_refl _) ⟨hz, its, 0, hv, Heap.get?_push_size _ rfl⟩
theorem Inv.fresh (I : Inv X pins σ H s) : H s.heap.objs.size = none := I.hok.fresh (Nat.le_refl _)
theorem Inv.lstM (I : Inv X pins σ H s) (hH : H l = some (.lst xs)) : xs.length ≤ sizeLine ∧ ∃ (its : List Value) (n : Nat), Vals xs its ∧ xs.length = its.length ∧ s.heap.get? l = some { cls := .type "list", data := .seq its.toArray n } := by
  obtain ⟨z, its, n, r, e⟩ := I.hok l _ hH
  exact ⟨z, its, n, r, r.length, e⟩

theorem notLongL {n : Nat} (h : n ≤ sizeLine) : Builtin.List.listTooLong n = false := by
  unfold Builtin.List.listTooLong
  exact decide_eq_false (by omega)
end

section
variable {X : Cx}

/-! ### methods -/
def rAppend : V → List V → Hp → VK → Prop := fun x vs H Q => ∃ l xs y, x = .ref l ∧ vs = [y] ∧ H l = some (.lst xs) ∧ xs.length < sizeLine ∧ Q .non (upd H l (.lst (xs ++ [y])))
theorem mt_append : MtM X "list.append" rAppend := by
  intro pins s σ H x vs v us Q I rx rv h
  obtain ⟨l, xs, y, rfl, rfl, hH, hz, q⟩ := h
  cases rx
  obtain ⟨u, rfl, ru⟩ := rv.one
  obtain ⟨z, its, n, r, hl, e⟩ := I.lstM hH
  refine call_meets F.slot_list_append ⟨_, e, rfl⟩ F.entry_list_append (F.args_list_append_2 _ _) (PySem.list_append l its.toArray n u (by rw [List.size_toArray]; omega)) ⟨e, ?_⟩
  refine ⟨.non, _, I.lset (its' := its ++ [u]) hH e (by simp) (r.append (.cons ru .nil)) ?_, rfl, q⟩
  rw [List.length_append, List.length_singleton]
  omega

def rExtend : V → List V → Hp → VK → Prop := fun x vs H Q => ∃ l b xs zs, x = .ref l ∧ vs = [.ref b] ∧ H l = some (.lst xs) ∧ H b = some (.lst zs) ∧ xs.length + zs.length ≤ sizeLine ∧ Q .non (upd H l (.lst (xs ++ zs)))
theorem mt_extend : MtM X "list.extend" rExtend := by
  intro pins s σ H x vs v us Q I rx rv h
  obtain ⟨l, b, xs, zs, rfl, rfl, hH, hB, hz, q⟩ := h
  cases rx
  obtain ⟨u, rfl, ru⟩ := rv.one
  cases ru
  obtain ⟨z, its, n, r, hl, e⟩ := I.lstM hH
  obtain ⟨z2, its2, n2, r2, hl2, e2⟩ := I.lstM hB
  have hsz : its.toArray.size + its2.toArray.size ≤ sizeLine := by rw [List.size_toArray, List.size_toArray]; omega
  have hlong : ¬ (!its.toArray.isEmpty && Builtin.List.listTooLong (its.toArray.size + its2.toArray.size)) = true := by
    rw [notLongL hsz, Bool.and_false]
    exact Bool.false_ne_true
  refine call_meets F.slot_list_extend ⟨_, e, rfl⟩ F.entry_list_extend (F.args_list_extend_2 _ _)
    (AutoSeq1.list_extend_list_list_0 l its.toArray n b its2.toArray n2 hlong (by rw [List.size_toArray]; omega) (by omega)) ⟨e, e2, ?_⟩
  refine ⟨.non, _, I.lset (its' := its ++ its2) hH e (by simp) (r.append r2) ?_, rfl, q⟩
  rw [List.length_append]
  omega

def rPop : V → List V → Hp → VK → Prop := fun x vs H Q => ∃ l xs y, x = .ref l ∧ vs = [] ∧ H l = some (.lst xs) ∧ xs[xs.length - 1]? = some y ∧ Q y (upd H l (.lst xs.dropLast))
theorem mt_pop : MtM X "list.pop" rPop := by
  intro pins s σ H x vs v us Q I rx rv h
  obtain ⟨l, xs, y, rfl, rfl, hH, hy, q⟩ := h
  cases rx
  have hus := rv.zero
  subst hus
  obtain ⟨z, its, n, r, hl, e⟩ := I.lstM hH
  obtain ⟨u, hu, ru⟩ := r.get hy
  have hy' : its.toArray[its.toArray.size - 1]? = some u := by
    show its.toArray[its.length - 1]? = some u
    rw [← Array.getElem?_toList, ← hl]
    exact hu
  refine call_meets F.slot_list_pop ⟨_, e, rfl⟩ F.entry_list_pop (F.args_list_pop_1 _) (MeetsSeq.list_pop_last l its.toArray n u hy' (by rw [List.size_toArray]; omega)) ⟨e, ?_⟩
  refine ⟨y, _, I.lset (its' := its.dropLast) hH e ?_ r.dropLast ?_, ru, q⟩
  · show its.toArray.eraseIdxIfInBounds (its.toArray.size - 1) = its.dropLast.toArray
    rw [List.size_toArray, List.eraseIdxIfInBounds_toArray, erase_last]
  · rw [List.length_dropLast]
    omega

/-! ### list + list, list += list, list * int -/
def rCat : R2 := fun x y H Q => ∃ l b xs zs, x = .ref l ∧ y = .ref b ∧ H l = some (.lst xs) ∧ H b = some (.lst zs) ∧ xs.length + zs.length ≤ sizeLine ∧ ∀ p, H p = none → Q (.ref p) (upd H p (.lst (xs ++ zs)))
theorem op_cat : OpR X (binaryOp .Add) rCat := by
  intro pins s σ H x y v u Q I rx ry h
  obtain ⟨l, b, xs, zs, rfl, rfl, hH, hB, hz, q⟩ := h
  cases rx
  cases ry
  obtain ⟨z, its, n, r, hl, e⟩ := I.lstM hH
  obtain ⟨z2, its2, n2, r2, hl2, e2⟩ := I.lstM hB
  refine PySem.P.add_list e e2 ?_ (by rw [List.size_toArray, List.size_toArray]; omega)
  have ea : its.toArray ++ its2.toArray = (its ++ its2).toArray := by simp
  rw [ea]
  exact ⟨.ref _, _, I.lnew (t' := s.toks) (r.append r2) (by rw [List.length_append]; omega), rfl, q _ I.fresh⟩
/-! ### del xs[i] -/
end

/-! ### xs[a:b] = ys -/
section
variable {prog : Program} {w : World} {A : Around} {E : Value → Shared → Prop} {s : Shared}
set_option maxRecDepth 100000 in
end

section
variable {X : Cx}
end
end L2

namespace Att
open PySem PySem.W PySem.Calls PyProof.Rows

/-! ### the script -/
theorem ints_of_wellAll {P : Params} {h : Heap} : ∀ (ns : List Int) (vs : List Value), WellAll P h vs (ns.map WData.int) → IntsAre vs ns := by
  intro ns
  induction ns with
  | nil =>
    intro vs w
    rw [List.map_nil] at w
    cases w
    exact .nil
  | cons n ns ih =>
    intro vs w
    rw [List.map_cons] at w
    cases w with
    | cons a b =>
      cases a
      exact .cons _ _ (ih _ b)

theorem script_of {l : OpenLaw} {n : Nat} (hn : l.most = some n) {P : Params} {h : Heap} {args : List WData} {vals : List Value}
    (hpre : l.row.toRowW.claim.pre args = true) (hwl : WellAll P h vals args) :
    ∃ a vs ns, vals = [Value.ref a] ∧ args = [WData.list (ns.map WData.int)] ∧ h.get? a = some { cls := .type "list", data := .seq vs.toArray } ∧ IntsAre vs ns ∧ ns.length ≤ n := by
  have hsh : WShape.hasAll [] args [.list .int] = true := (pre_splitW hpre).1
  have hc : l.pre.holds [] { args := args } = true := (pre_splitW hpre).2
  obtain ⟨d, r, rfl, h1, h2⟩ := hasAllW_cons hsh
  obtain rfl := hasAllW_nil h2
  obtain ⟨xs, rfl, h3⟩ := hasW_list h1
  obtain ⟨ns, rfl⟩ := items_int h3
  have hlen : ns.length ≤ n := by
    unfold OpenLaw.pre at hc
    have h4 : (WTm.not (.lt (.lit (.int (n : Int))) (.len (.arg 0)))).holds [] { args := [.list (ns.map .int)] } = true := by
      have h4 := (holds_andW hc).1
      rw [hn] at h4
      exact h4
    have h5 := condW_of h4 (w_not (w_lt w_lit (w_len_list (w_arg rfl))))
    rw [List.length_map] at h5
    refine Nat.le_of_not_lt fun q => ?_
    have q' : (n : Int) < ((ns.length : Nat) : Int) := by omega
    first
      | (rw [decide_eq_true q'] at h5; exact absurd h5 (by decide))
      | (simp at h5; omega)
  cases hwl with
  | cons w1 w2 =>
    cases w2
    cases w1 with
    | list ho hall => exact ⟨_, _, ns, rfl, rfl, ho, ints_of_wellAll ns _ hall, hlen⟩

theorem post_true (l : OpenLaw) (args : List WData) : l.row.toRowW.claim.post args (.bool true) args = true :=
  postW_of (r := l.row.toRowW) (X := (true == true))
    (show WShape.has [] (.bool true) .bool = true by first | rfl | decide | simp [WShape.has, WShape.arms, WShape.armsAll])
    (show (WTm.eq .res (.lit (.bool true))).value [] { args := args, res := some (.bool true), after := args } = some (.bool (true == true)) from w_eq_bool (w_res rfl) w_lit) rfl

/-! ### the attachment: holds_open's last premise (the goal 'hc' behind k_head) from a wpAny of the law's body -/
/-- the same from a codeAny of the CALL (for a layer whose function contracts speak of calls) -/
theorem attach_call {l : OpenLaw} {n : Nat} {q : Program} {loose : List Str} {XP : (Str → Option Value) → Heap → Prop} {YP : World → Heap → Prop} {d : DefRec}
    (hn : l.most = some n) (hdf : d.params.defaults = [])
    (call : ∀ (w : World) (s₀ s₁ : Shared) (mg mb : Str → Option Value) (fa : Addr) (o : Obj) (pm cd doc : Value) (a : Addr) (vs : List Value) (ns : List Int),
      Ground q loose [] XP w s₀ mg mb s₁.heap → YP w s₁.heap →
      s₁.heap.get? fa = some o → o.data = .func (docDef d.name d.params d.body d.scope pm cd doc) → s₁.heap.CodeRec cd d.name → mg d.name = some (.ref fa) →
      s₁.heap.get? a = some { cls := .type "list", data := .seq vs.toArray } → IntsAre vs ns → ns.length ≤ n → s₁.gens = #[] →
      codeAny (model l.prog w) callerA (.call (.ref fa) ⟨[.ref a], []⟩) (fun r s' => r = .ok (.ret (.bool true)) ∧ OldK s₁.heap s'.heap ∧ s'.os = s₁.os ∧ AllBare s'.gens) s₁) :
    WalkO q loose XP YP l.row.toRowW d [] (fun f vs => PySem.call f vs) := by
  intro w s₀ s₁ mg mb G Y fa o pm cd doc dV kV ho hd hcd hD hmg hg args vals as hpre hlay hrd hwl hlo
  obtain rfl : dV = .none := Dflts.none hD hdf
  obtain rfl : kV = .none := Dflts.noKw hD
  obtain ⟨a, vs, ns, rfl, rfl, hobj, hints, hlen⟩ := script_of hn hpre hwl
  refine enter_call (codeAny_mono (call w s₀ s₁ mg mb fa o pm cd doc a vs ns G Y ho (fd_plain hd) hcd hmg hobj hints hlen hg) fun r s' hq => ?_)
  obtain ⟨rfl, h2, h3, h4⟩ := hq
  exact ⟨.inl ⟨.bool true, .bool true, [], rfl, fun _ => rfl, .bool true, post_true l _, fun _ => ⟨List.Pairwise.nil, fun _ hm => (nomatch hm)⟩⟩, h2, h3, h4⟩

/-! ### rules over ANY heap (no ledger) from facts about the written part K: the library's own take a ledger (News) for what they write -/
section
variable {prog : Program} {w : World} {A : Around} {E : Value → Shared → Prop} {s : Shared} {K : Frag}

/-! the whole heap as the ledger: makes every rule that writes through a ledger a rule over any heap -/
end
end Att

namespace L2
open PySem PySem.Spec PyProof.Rows

theorem vals_ints : ∀ {vs : List Value} {ns : List Int}, IntsAre vs ns → Vals (ns.map V.int) vs
  | _, _, .nil => .nil
  | _, _, .cons n t h => .cons ⟨t, rfl⟩ (vals_ints h)

/-- nothing is tracked but the script, known to the object (or it is an object of the module) -/
def Only (H : Hp) : Prop := ∀ b, H b = none ∨ ∃ o xs, H b = some (.frz o (.lst xs))

/-- THE HEAD: the law's promise, at the heap behind the top. F, the promise of the law's def, may use that base is part of the heap (so K.In base, base.Ns mainGlobals mg stand in Mod) -/
theorem law_call {P : Program} {w : World} {K : PySem.W.Frag} {mg mb : Str → Option Value} {CX : CXT} {k : Nat} {fa a : Addr} {fd : FuncData} {x : Str} {sp : Sp} {s₁ : Shared} {vs : List Value} {ns : List Int}
    (KX : K.In s₁.heap) (hns : s₁.heap.Ns mainGlobals mg) (hb : s₁.heap.Ns builtinsNs mb) (hbb : ∀ x : Str, x ≠ "__name__" → mb x = bootBuiltins x) (hlim : s₁.heap.NoLimit) (hg : s₁.gens = #[])
    (ha : s₁.heap.get? a = some { cls := .type "list", data := .seq vs.toArray }) (hi : IntsAre vs ns) (hl : ns.length ≤ sizeLine) (hr : Room k callerA)
    (F : ∀ base : Heap, K.In base → base.Ns mainGlobals mg → FnOk P w K mg base CX k fa fd [x] sp) (hbind : ∀ (s : Shared) (u : Value), BindsTo s fd ⟨[u], []⟩ [(x, u)])
    (hsp : ∀ H : Hp, Only H → SqL K H a (ns.map V.int) → sp [.ref a] H (fun v _ => v = .bl true) fun _ _ _ => False)
    (hCX : ∀ H e s', CX [] H s₁ (fun _ _ _ => False) e s' → False) :
    codeAny (model P w) callerA (.call (.ref fa) ⟨[.ref a], []⟩) (fun r s' => r = .ok (.ret (.bool true)) ∧ OldK s₁.heap s'.heap ∧ s'.os = s₁.os ∧ AllBare s'.gens) s₁ := by
  have rv := vals_ints hi
  have lenV := hi.length
  -- from an abstract heap in which nothing but the script may be tracked
  have core : ∀ H : Hp, Only H → SqL K H a (ns.map V.int) → HOk P w H s₁.heap → (∀ b, H b ≠ none → b = a) → (H a ≠ none → K.lookup a = none) →
      codeAny (model P w) callerA (.call (.ref fa) ⟨[.ref a], []⟩) (fun r s' => r = .ok (.ret (.bool true)) ∧ OldK s₁.heap s'.heap ∧ s'.os = s₁.os ∧ AllBare s'.gens) s₁ := by
    intro H hO hS hok hA hK
    have base_of : ∀ {b : Addr} {o : Obj}, s₁.heap.get? b = some o → H b = none → (hidT s₁.heap H).get? b = some o := fun e n => hidT_get e n
    have noA : ∀ {b : Addr} {o : Obj} {es : Array DictEntry} {ep : Nat}, s₁.heap.get? b = some o → o.data = .dict es ep → H b = none := fun {b o es ep} e d => by
      cases q : H b with
      | none => rfl
      | some u =>
        have e' : b = a := hA b (by rw [q]; simp)
        subst e'
        rw [ha] at e; cases e
        have d' : Data.seq vs.toArray _ = Data.dict es ep := d
        cases d'
    have nsK : ∀ {b : Addr} {m : Str → Option Value}, s₁.heap.Ns b m → (hidT s₁.heap H).Ns b m := fun {b m} ⟨o, es, ep, e, d, r⟩ => ⟨o, es, ep, base_of e (noA e d), d, r⟩
    have hKb : K.In (hidT s₁.heap H) := fun b o e => base_of (KX b o e) (by
      cases q : H b with
      | none => rfl
      | some u =>
        have e' : b = a := hA b (by rw [q]; simp)
        subst e'
        rw [hK (by rw [q]; simp)] at e; cases e)
    have hM : Mod K mg (hidT s₁.heap H) := ⟨hKb, nsK hns, ⟨mb, nsK hb, hbb⟩, let ⟨mc, h1, h2⟩ := hlim; ⟨mc, nsK h1, h2⟩⟩
    have e0 : Env0 P w K mg (hidT s₁.heap H) callerA [] s₁ H := ⟨rfl, hM, fun b o e => of_hidT e, Nat.le_of_eq (hidT_size _ _), trivial, fun b hb => absurd (show b ∈ ([] : List Addr) from hb) (by simp), hok, .of_eq hg⟩
    refine codeAny_mono ((F _ hKb (nsK hns)).run callerA [] s₁ H ⟨[.ref a], []⟩ [.ref a] [.ref a] _ _ hr e0 (hbind s₁ (.ref a)) (.cons rfl .nil) (hsp H hO hS)) fun r s' h => ?_
    cases r with
    | error e => exact (hCX H e s' h).elim
    | ok fl =>
      cases fl with
      | next => exact False.elim h
      | brk => exact False.elim h
      | cont => exact False.elim h
      | ret u =>
        obtain ⟨v, H', os, bare, un, hok', r', q⟩ := h
        have q' : v = .bl true := q
        subst q'
        obtain rfl : u = Value.bool true := r'
        refine ⟨rfl, OldK.of_keep fun b o e => ?_, os, bare⟩
        cases q : H b with
        | none => exact un.keep b o e q (by intro z; exact absurd (show b ∈ ([] : List Addr) from z) (by simp)) (by simp)
        | some u =>
          rcases hO b with z | ⟨ob, xs, z⟩
          · rw [q] at z; cases z
          · have z2 := un.frzs b ob _ z
            obtain ⟨e1, _⟩ := hok b _ z
            obtain ⟨e2, _⟩ := hok' b _ z2
            rw [e] at e1; cases e1
            exact e2
  cases hk : K.lookup a with
  | some o =>
    -- the script is one of the module's own objects
    have e := KX a o hk
    rw [ha] at e
    cases e
    refine core (fun _ => none) (fun _ => .inl rfl) (.inr ⟨_, vs.toArray, _, hk, rfl, rfl, rfl, by rw [List.size_toArray, lenV]; exact hl, by simpa using rv⟩) (fun b u z => by have z' : (none : Option HO) = some u := z; cases z') (fun b z => absurd rfl z) fun z => absurd rfl z
  | none =>
    refine core (fun b => if b = a then some (.frz { cls := .type "list", data := .seq vs.toArray } (.lst (ns.map V.int))) else none) (fun b => ?_) (.inl (.inr ⟨{ cls := .type "list", data := .seq vs.toArray }, if_pos rfl⟩)) (fun b u z => ?_) (fun b z => ?_) fun _ => hk
    · by_cases hb : b = a
      · exact .inr ⟨_, _, if_pos hb⟩
      · exact .inl (if_neg hb)
    · by_cases hb : b = a
      · have z' := (if_pos hb).symm.trans z
        cases z'
        subst hb
        exact ⟨ha, by rw [List.length_map]; exact hl, vs, _, rv, ha⟩
      · have z' := (if_neg hb).symm.trans z
        cases z'
    · by_cases hb : b = a
      · exact hb
      · exact absurd (if_neg hb) z
end L2

namespace L2
open PySem PySem.Spec PyProof.Rows

abbrev KOf {K : PySem.W.Frag} {h : Heap} (_ : K.In h) : PySem.W.Frag := K

/-- the goal that k_head leaves (case hc), from the law's promise. F gives the function object fd (K's own) once, then the promise over every base -/
theorem walk_of {l : PySem.W.OpenLaw} {n k : Nat} {q : Program} {loose : List Str} {XP : (Str → Option Value) → Heap → Prop} {YP : World → Heap → Prop} {d : DefRec} {K : Params → PySem.W.Frag} {CX : World → CXT} {sp : World → Sp} {x : Str}
    (hn : l.most = some n) (hn2 : n ≤ sizeLine) (hdf : d.params.defaults = []) (hr : Room k callerA)
    (hY : ∀ (w : World) (h : Heap), YP w h → (K w.params).In h)
    (F : ∀ (w : World) (mg : Str → Option Value) (fa : Addr) (h : Heap), (K w.params).In h → h.Ns mainGlobals mg → mg d.name = some (.ref fa) →
      ∃ fd : FuncData, (∀ (s : Shared) (u : Value), BindsTo s fd ⟨[u], []⟩ [(x, u)]) ∧
        ∀ base : Heap, (K w.params).In base → base.Ns mainGlobals mg → FnOk l.prog w (K w.params) mg base (CX w) k fa fd [x] (sp w))
    (hsp : ∀ (w : World) (H : Hp) (a : Addr) (ns : List Int), ns.length ≤ n → Only H → SqL (K w.params) H a (ns.map V.int) → sp w [.ref a] H (fun v _ => v = .bl true) fun _ _ _ => False)
    (hCX : ∀ (w : World) (H : Hp) (s : Shared) (e : Value) (s' : Shared), CX w [] H s (fun _ _ _ => False) e s' → False) :
    PySem.W.WalkO q loose XP YP l.row.toRowW d [] (fun f vs => PySem.call f vs) := by
  refine Att.attach_call hn hdf fun w s₀ s₁ mg mb fa o pm cd doc a vs ns G Y ho hd hcd hmg hobj hints hlen hg => ?_
  have KX := hY w _ Y
  obtain ⟨fd, hb, hF⟩ := F w mg fa _ KX G.T.g hmg
  exact law_call KX G.T.g G.T.b G.T.builtins G.T.nolimit hg hobj hints (Nat.le_trans hlen hn2) hr hF hb (fun H hO hS => hsp w H a ns hlen hO hS) fun H e s' => hCX w H s₁ e s'
end L2

/- THE LAST THEOREM (shape; LID, My.* are yours):
   My.Adr: a structure of the addresses that your layer names (classes, functions); My.Txt K t: a structure (Prop) of the equations over K;
   My.txt_mk : {K} {implicit addresses ..} (e1 : nsIn K mainGlobals "law" = some (some (.ref f))) (e2 : K.lookup f = some ⟨oc, od, .func (fnOf "law" "law" params body scope dV kV doc pm an cdv ct), sl⟩) (e3 : codeIn K cdv "law" = true) .. : ∃ t, My.Txt K t

set_option maxRecDepth 100000 in
set_option maxHeartbeats 0 in
theorem PySem.Challenge.cw_LID_holds : PySem.Challenge.rw_LID.Holds := by
  w_on; o_law; k_head; (case hw => w_witness2)
  k_fill
  refine L2.walk_of (l := PySem.Challenge.rw_LID) (n := 63) (k := 40) (x := "script") (CX := fun w => ..) (sp := fun _ => My.sp_law) rfl (by decide) rfl ⟨rfl, by decide, by decide⟩ (fun w h Y => PySem.W.kIn_of Y) ?F ?S ?C
  case F =>
    intro w mg fa h KX G hmg
    have T : ∃ t, My.Txt (L2.KOf KX) t := by
      dsimp only [L2.KOf]                          -- K must stand as «<heap const> w.params» for k_is
      refine' My.txt_mk ?e1 ?e2 ?e3 ..
      (case e1 => PySem.W.k_is)                    -- in the order: a name -> its address -> its object -> its parts
      (case e2 => PySem.W.k_is)
      ..
    obtain ⟨t, T⟩ := T
    have e0 := hmg.symm.trans (PySem.W.mg_of KX G T.law)
    cases e0                                       -- fa is the law's own address
    exact ⟨_, fun s u => .of_eq rfl, fun base kb nb => My.law_fn T kb nb⟩     -- if «.of_eq rfl» comes too early: refine' ⟨_, ?b, fun base kb nb => My.law_fn T kb nb⟩; exact fun s u => .of_eq rfl
  case S => exact fun w H a ns hl hO hS => ..
  case C => exact ..
(the tactic k_is has no namespace: write k_is) -/

/-! SHORT WORDS over the layer: a def of the text, its body, what a loop and a test want. -/
namespace L2
open PySem PySem.Spec PyProof.Rows

/-! ### the text by places -/
def defArgs (s : Stmt) : Arguments := match s with
  | .FunctionDef _ a _ _ _ _ _ _ _ _ => a
  | _ => { posonlyargs := [], args := [], vararg := none, kwonlyargs := [], kw_defaults := [], kwarg := none, defaults := [] }
def defBody (s : Stmt) : List Stmt := match s with
  | .FunctionDef _ _ b _ _ _ _ _ _ _ => b
  | _ => []
def defScope (s : Stmt) : Scope := match s with
  | .FunctionDef _ _ _ _ _ _ sc _ _ _ => sc
  | _ => { kind := .function, names := [], isGenerator := false, isCoroutine := false }

/-! ### no exception leaves a def -/
abbrev CX0 : CXT := fun _ _ _ _ _ _ => False
abbrev E0 : XK := fun _ _ _ => False
theorem pass0 {X : Cx} : Passes CX0 X E0 := fun _ _ _ _ _ _ _ h => h.elim

/-! ### a def (or method) of the text as it stands behind the top -/
structure Fun (K : PySem.W.Frag) (x qual : Str) (st : Stmt) (f : Addr) (fd : FuncData) : Prop where
  ex : ∃ (oc : Value) (od : Option Addr) (kV doc pm : Value) (an : Option Addr) (cdv ct : Value) (osl : Array (Option Value)),
    fd = PySem.W.fnOf x qual (defArgs st) (defBody st) (defScope st) .none kV doc pm an cdv ct ∧ K.lookup f = some ⟨oc, od, .func fd, osl⟩ ∧ PySem.W.codeIn K cdv qual = true
  kp : PySem.W.keepIn K (.ref f) = true
section
variable {P : Program} {w : World} {K : PySem.W.Frag} {mg : Str → Option Value} {base : Heap}
/-- THE RULE for a def: its body as a term of rules, and the reading of that term -/
theorem Fun.ok {x qual : Str} {st : Stmt} {f : Addr} {fd : FuncData} {N ps : List Str} {k : Nat} {sp : Sp} (F : Fun K x qual st f fd) (S : FnScope N ps (defScope st)) (len : ∀ vs H Q E, sp vs H Q E → vs.length = ps.length)
    (hbody : ∀ (cdv : Value) (A : Around) (outer : List Env) (s : Shared) (H : Hp) (vs : List V) (Q : VK) (E : XK), Room k (A.deeper (envOfC qual (defScope st) s.heap.objs.size f cdv)) → sp vs H Q E →
      ∃ t, PSs (cxOf CX0 P w K mg base N qual (defScope st) f cdv A outer s H E).nox (defBody st) t ∧ t { nx := fun _ H' => Q .non H', rt := Q } (start N vs) H) : FnOk P w K mg base CX0 (k + 1) f fd ps sp := by
  obtain ⟨oc, od, kV, doc, pm, an, cdv, ct, osl, rfl, lk, hcd⟩ := F.ex
  refine fn_of lk hcd S len fun A outer s H vs Q E hr hsp => ?_
  obtain ⟨t, h, q⟩ := hbody cdv A outer s H vs Q E hr hsp
  exact ⟨t, h.nox, q⟩
/-- how its arguments bind (no defaults): h is «fun _ _ _ _ _ _ us hl => match us, hl with | [_, _], _ => rfl», one _ a parameter -/
theorem Fun.binds {x qual : Str} {st : Stmt} {f : Addr} {fd : FuncData} {ps : List Str} (F : Fun K x qual st f fd)
    (h : ∀ (kV doc pm : Value) (an : Option Addr) (cdv ct : Value) (us : List Value), us.length = ps.length → bindArgs (PySem.W.fnOf x qual (defArgs st) (defBody st) (defScope st) .none kV doc pm an cdv ct) ⟨us, []⟩ = pure (ps.zip us)) : Binds K fd ps [] := by
  obtain ⟨oc, od, kV, doc, pm, an, cdv, ct, osl, rfl, lk, hcd⟩ := F.ex
  exact .all (h kV doc pm an cdv ct)
theorem fun_mk {x qual : Str} {st : Stmt} {f : Addr} {oc : Value} {od an : Option Addr} {osl : Array (Option Value)} {kV doc pm cdv ct : Value} (l : K.lookup f = some ⟨oc, od, .func (PySem.W.fnOf x qual (defArgs st) (defBody st) (defScope st) .none kV doc pm an cdv ct), osl⟩)
    (c : PySem.W.codeIn K cdv qual = true) (k : PySem.W.keepIn K (.ref f) = true) : Fun K x qual st f (PySem.W.fnOf x qual (defArgs st) (defBody st) (defScope st) .none kV doc pm an cdv ct) := ⟨⟨oc, od, kV, doc, pm, an, cdv, ct, osl, rfl, l, c⟩, k⟩
end
/-! ### expressions in short: the name that stands in the i-th slot -/
section
variable {X : Cx}
theorem pv (i : Nat) {x : Str} {pos : Pos} (hN : X.N[i]? = some x := by rfl) (hv : Vis X.env.scope x := by first | exact Or.inl rfl | exact Or.inr (Or.inl rfl) | exact Or.inr (Or.inr rfl)) (hd : (x == ("__debug__" : Str)) = false := by decide)
    (hcd : (x == ("__classdict__" : Str)) = false := by decide) : PE X (.Name x pos) (tVar i) := pe_var hN hv hd hcd
end

/-! ### tests -/
theorem ite2 {c A B : Prop} [Decidable c] (h1 : c → A) (h2 : ¬ c → B) : if c then A else B := by
  by_cases h : c
  · rw [if_pos h]
    exact h1 h
  · rw [if_neg h]
    exact h2 h
/-! ### heaps -/
/-- all that was tracked is as it was -/
def Same (H H' : Hp) : Prop := ∀ b o, H b = some o → H' b = some o
theorem Same.refl (H : Hp) : Same H H := fun _ _ h => h
theorem Same.trans {H H1 H2 : Hp} (a : Same H H1) (b : Same H1 H2) : Same H H2 := fun c o h => b c o (a c o h)
theorem Same.free {H H' : Hp} (e : Same H H') {l : Addr} (h : H' l = Option.none) : H l = Option.none := by
  cases q : H l with
  | none => rfl
  | some o =>
    rw [e l o q] at h
    cases h
theorem Same.seq {K : PySem.W.Frag} {H H' : Hp} {a : Addr} {xs : List V} (e : Same H H') (h : SqL K H a xs) : SqL K H' a xs := by
  rcases h with (h | ⟨o, h⟩) | h
  · exact .inl (.inl (e _ _ h))
  · exact .inl (.inr ⟨o, e _ _ h⟩)
  · exact .inr h

end L2

set_option Elab.async false
set_option linter.all false
set_option maxRecDepth 100000
set_option maxHeartbeats 1000000
/-! A comprehension over the hand layer: its block's context, its rule. -/
namespace L2
open PySem PySem.Spec PyProof.Rows

/-- the cells that a comprehension's block takes over -/
def clOf (cells : List (Str × Addr)) (names : List (Str × NameKind)) (acc : List (Str × Addr)) : List (Str × Addr) :=
  match names with
  | [] => acc
  | (n, k) :: r => clOf cells r (if k == .free then (n, (cells.lookup n).getD 0) :: acc else acc)

theorem clOf_sub {cells : List (Str × Addr)} : ∀ {names : List (Str × NameKind)} {acc : List (Str × Addr)}, (∀ y ∈ names, y.2 = .free → ∃ c, cells.lookup y.1 = some c) → (∀ x c, acc.lookup x = some c → cells.lookup x = some c) →
    ∀ x c, (clOf cells names acc).lookup x = some c → cells.lookup x = some c
  | [], acc, _, h, x, c, e => h x c e
  | (n, k) :: r, acc, hf, h, x, c, e => by
    unfold clOf at e
    refine clOf_sub (fun y hy => hf y (List.mem_cons_of_mem _ hy)) ?_ x c e
    intro x' c' e'
    by_cases hk : k = .free
    · subst hk
      obtain ⟨d, hd⟩ := hf (n, .free) List.mem_cons_self rfl
      have hd' : cells.lookup n = some d := hd
      simp only [beq_self_eq_true, if_true, List.lookup_cons] at e'
      cases hx : x' == n with
      | true =>
        rw [hx] at e'
        have e2 : x' = n := by simpa using hx
        subst e2
        simp only [hd', Option.getD_some] at e'
        rw [hd']; exact e'
      | false =>
        rw [hx] at e'
        exact h x' c' e'
    · have hb : (k == NameKind.free) = false := by simpa using hk
      simp only [hb, Bool.false_eq_true, if_false] at e'
      exact h x' c' e'

theorem clOf_has {cells : List (Str × Addr)} : ∀ {names : List (Str × NameKind)} {acc : List (Str × Addr)} {x : Str}, ((∃ c, acc.lookup x = some c) ∨ (x, NameKind.free) ∈ names) → ∃ c, (clOf cells names acc).lookup x = some c
  | [], acc, x, h => by
    rcases h with h | h
    · exact h
    · cases h
  | (n, k) :: r, acc, x, h => by
    unfold clOf
    refine clOf_has ?_
    by_cases hk : k = .free
    · subst hk
      simp only [beq_self_eq_true, if_true, List.lookup_cons]
      cases hx : x == n with
      | true => exact .inl ⟨_, rfl⟩
      | false =>
        rcases h with h | h
        · exact .inl h
        · rcases List.mem_cons.mp h with h | h
          · cases h
            simp at hx
          · exact .inr h
    · have hb : (k == NameKind.free) = false := by simpa using hk
      simp only [hb, Bool.false_eq_true, if_false]
      rcases h with h | h
      · exact .inl h
      · rcases List.mem_cons.mp h with h | h
        · cases h
          exact absurd rfl hk
        · exact .inr h

theorem closure_forIn {env : Env} : ∀ {names : List (Str × NameKind)} {acc : List (Str × Addr)}, (∀ y ∈ names, y.2 = .free → ∃ c, env.cells.lookup y.1 = some c) →
    (forIn names acc fun (x : Str × NameKind) (r : List (Str × Addr)) => (if x.2 == .free then (do let a ← cellOf env x.1; pure (ForInStep.yield ((x.1, a) :: r))) else pure (ForInStep.yield r) : Sem (ForInStep (List (Str × Addr))))) = (pure (clOf env.cells names acc) : Sem (List (Str × Addr)))
  | [], acc, _ => rfl
  | (n, k) :: r, acc, hf => by
    rw [List.forIn_cons]
    have ih := fun acc' => closure_forIn (env := env) (names := r) (acc := acc') fun y hy => hf y (List.mem_cons_of_mem _ hy)
    by_cases hk : k = .free
    · subst hk
      obtain ⟨c, hc⟩ := hf (n, .free) List.mem_cons_self rfl
      have hc' : env.cells.lookup n = some c := hc
      simp only [beq_self_eq_true, if_true, cellOf, hc', pure_bind, clOf, Option.getD_some]
      exact ih _
    · have hb : (k == NameKind.free) = false := by simpa using hk
      simp only [hb, Bool.false_eq_true, if_false, pure_bind, clOf]
      exact ih _

theorem closure_of {scope : Scope} {env : Env} (h : ∀ y ∈ scope.names, y.2 = .free → ∃ c, env.cells.lookup y.1 = some c) : closureFor scope env = pure (clOf env.cells scope.names []) := by
  have q := closure_forIn (env := env) (acc := []) h
  unfold closureFor
  exact (congrArg (fun m : Sem (List (Str × Addr)) => m >>= fun cs => pure cs) q).trans (by simp)
end L2

set_option Elab.async false
set_option linter.all false
set_option maxRecDepth 100000
set_option maxHeartbeats 4000000
namespace L2
open PySem PySem.Spec PyProof.Rows

/-- the context of a comprehension's block: entered at s₀, H₀ behind the list's making; fp: the iterator's records -/
def cxComp (X : Cx) (N' : List Str) (scope : Scope) (fp : List Addr) (s₀ : Shared) (H₀ : Hp) : Cx :=
  { X with N := N', s₀ := s₀, H₀ := H₀, env := compEnvC scope (clOf X.env.cells scope.names []) s₀.heap.objs.size X.env, outer := X.stack, ex := fp, fn := fun _ => false, pn := [], xe := fun _ _ => False }

/-- the written facts of a comprehension's scope -/
structure CompScope (X : Cx) (N' : List Str) (scope : Scope) : Prop where
  kind : scope.kind = .function
  nd : N'.Nodup
  nocell : ∀ y ∈ scope.names, y.2 ≠ .cell
  loc : ∀ y ∈ scope.names, y.2 = .local → scope.names.lookup y.1 = some .local
  fre : ∀ y ∈ scope.names, y.2 = .free → X.env.kindOf y.1 = some .cell
  own : ∀ x, (x, NameKind.free) ∈ scope.names → (relabel scope X.env).names.lookup x ≠ some .local

theorem relabel_back {scope : Scope} {env : Env} {x : Str} (hc : ∀ y ∈ scope.names, y.2 ≠ .cell) (h : (relabel scope env).names.lookup x = some .cell ∨ (relabel scope env).names.lookup x = some .free) : (x, NameKind.free) ∈ scope.names := by
  have key : ∀ (l : List (Str × NameKind)), (∀ y ∈ l, y.2 ≠ .cell) → ∀ k, (k = .cell ∨ k = .free) →
      (l.map fun (n, k) => if (k == NameKind.free && env.scope.kind == .function && env.kindOf n == some .cell) then (n, NameKind.cell) else (n, k)).lookup x = some k → (x, NameKind.free) ∈ l := by
    intro l
    induction l with
    | nil => intro _ k _ e; cases e
    | cons y r ih =>
      obtain ⟨n, kk⟩ := y
      intro hc k hk e
      have hr : ∀ y ∈ r, y.2 ≠ .cell := fun y hy => hc y (List.mem_cons_of_mem _ hy)
      have hkk : kk ≠ .cell := hc (n, kk) List.mem_cons_self
      rw [List.map_cons] at e
      by_cases hq : (kk == NameKind.free && env.scope.kind == .function && env.kindOf n == some .cell) = true
      · simp only [hq, if_true, List.lookup_cons] at e
        have hf : kk = .free := by
          have := (Bool.and_eq_true _ _ ▸ (Bool.and_eq_true _ _ ▸ hq).1).1
          simpa using this
        cases hx : x == n with
        | true =>
          have : x = n := by simpa using hx
          subst this; subst hf
          exact List.mem_cons_self
        | false =>
          rw [hx] at e
          exact List.mem_cons_of_mem _ (ih hr k hk e)
      · have hq' : (kk == NameKind.free && env.scope.kind == .function && env.kindOf n == some .cell) = false := by simpa using hq
        simp only [hq', Bool.false_eq_true, if_false] at e
        rw [List.lookup_cons] at e
        cases hx : x == n with
        | true =>
          have hx' : x = n := by simpa using hx
          subst hx'
          rw [hx] at e
          have e' : kk = k := by simpa using e
          rcases hk with hk | hk
          · exact absurd (e'.trans hk) hkk
          · rw [e', hk]; exact List.mem_cons_self
        | false =>
          have e2 : (r.map fun (n, k) => if (k == NameKind.free && env.scope.kind == .function && env.kindOf n == some .cell) then (n, NameKind.cell) else (n, k)).lookup x = some k := by
            rw [hx] at e
            exact e
          exact List.mem_cons_of_mem _ (ih hr k hk e2)
  rcases h with h | h
  · exact key _ hc _ (.inl rfl) h
  · exact key _ hc _ (.inr rfl) h

section
variable {X : Cx} {pins : List (Addr × Obj)} {σ : St} {H : Hp} {s : Shared} {N' : List Str} {scope : Scope} {fp : List Addr}

/-- what is to hold of the slots at the entry: each one that has a value is a captured name of the def around, with its value there -/
def Caught (X : Cx) (N' : List Str) (scope : Scope) (σ σ' : St) : Prop :=
  σ'.length = N'.length ∧ ∀ (i : Nat) (x : Str) (v : V), N'[i]? = some x → σ'[i]? = some (some v) → (x, NameKind.free) ∈ scope.names ∧ ∃ (j : Nat), X.N[j]? = some x ∧ σ[j]? = some (some v)

theorem comp_ok (S : CompScope X N' scope) (I : Inv X pins σ H s) (hf : ∀ b ∈ fp, FpOk X pins H b) (hlt : ∀ b ∈ fp, b < s.heap.objs.size) : (cxComp X N' scope fp s H).Ok := by
  have hfree : ∀ y ∈ scope.names, y.2 = .free → ∃ c, X.env.cells.lookup y.1 = some c := fun y hy hk => I.ok.has y.1 (.inl (S.fre y hy hk))
  have sub := clOf_sub (cells := X.env.cells) (names := scope.names) (acc := []) hfree (fun x c e => by cases e)
  refine ⟨I.ok.mod, S.kind, I.ok.glob, I.ok.blt, Nat.le_refl _, fun x y c e1 e2 => I.ok.inj x y c (sub x c e1) (sub y c e2), fun x hx => ?_, fun x c hz => ?_, I.ok.hd, I.ok.frames, .inl rfl, fun b hb => ?_, I.bs, Nat.le_trans I.ok.bsz I.sz, fun b o e hb => ?_, fun b hb hs => ?_, I.stack, I.stkFree⟩
  · exact clOf_has (.inr (relabel_back S.nocell hx))
  · exact absurd (show false = true from hz) Bool.false_ne_true
  · obtain ⟨_, hL, _, _, hc, _⟩ := hf b hb
    refine ⟨fun e => ?_, fun x c e => hc x c (sub x c e)⟩
    have e' : b = s.heap.objs.size := e
    exact absurd (hlt b hb) (by rw [e']; exact Nat.lt_irrefl _)
  · obtain ⟨_, _, _, h2, _⟩ := hf b hb
    rcases h2 with h2 | h2
    · exact I.ok.noex b o e h2
    · exact absurd (Nat.lt_of_lt_of_le (Heap.lt_size e) (Nat.le_trans I.ok.bsz h2)) (Nat.lt_irrefl _)
  · obtain ⟨_, hL, hfs, _⟩ := hf b hb
    rcases List.mem_cons.mp (I.stkSub b hs) with z | z
    · exact hL z
    · exact hfs z
/-- the block is entered: its names are new, the captured ones stand in their cells -/
theorem comp_inv (S : CompScope X N' scope) (I : Inv X pins σ H s) (hf : ∀ b ∈ fp, FpOk X pins H b) (hlt : ∀ b ∈ fp, b < s.heap.objs.size) {σ' : St} (hc : Caught X N' scope σ σ') {h1 : Heap} {tk : Nat}
    (hn : h1.Ns s.heap.objs.size (fun _ => none)) (hk : ∀ b o, s.heap.get? b = some o → h1.get? b = some o) : Inv (cxComp X N' scope fp s H) [] σ' H { s with heap := h1, toks := tk } := by
  have hfree : ∀ y ∈ scope.names, y.2 = .free → ∃ c, X.env.cells.lookup y.1 = some c := fun y hy hk => I.ok.has y.1 (.inl (S.fre y hy hk))
  have sub := clOf_sub (cells := X.env.cells) (names := scope.names) (acc := []) hfree (fun x c e => by cases e)
  refine ⟨comp_ok S I hf hlt, rfl, I.bare, Un.kept hk, ⟨_, hn, fun i x v e1 e2 e3 => ?_⟩, fun x c e => ?_, I.fresh, fun x c e => I.freeC x c (sub x c e), fun p hp => absurd (show p ∈ ([] : List (Addr × Obj)) from hp) (by simp), I.hok.kept hk, hc.1⟩
  · obtain ⟨hx, j, j1, j2⟩ := hc.2 i x v e1 e2
    obtain ⟨m, _, hl⟩ := I.loc
    have hkc : X.env.kindOf x = some .cell := S.fre (x, .free) hx rfl
    obtain ⟨u, r, l⟩ := hl j x v j1 j2 (.inr (.inl hkc))
    refine ⟨u, r, .inr ?_⟩
    rcases l with ⟨k, _⟩ | ⟨_, c, ec, z⟩
    · rw [hkc] at k; cases k
    · obtain ⟨c', ec'⟩ := clOf_has (cells := X.env.cells) (names := scope.names) (acc := []) (x := x) (.inr hx)
      have ec2 := sub x c' ec'
      rw [ec] at ec2
      cases ec2
      refine ⟨?_, c, ec', z.keeps hk⟩
      have e3' : Vis (relabel scope X.env) x := e3
      rcases e3' with q | q | q
      · exfalso
        exact S.own x hx q
      · exact .inl q
      · exact .inr q
  · obtain ⟨v, z⟩ := I.cell x c (sub x c e)
    exact ⟨v, z.keeps hk⟩
end
end L2

set_option Elab.async false
set_option linter.all false
set_option maxRecDepth 100000
set_option maxHeartbeats 4000000
namespace L2
open PySem PySem.Spec PyProof.Rows

/-- the tests of a comprehension -/
def PIfs (X : Cx) (ifs : List Expr) (t : TT) : Prop :=
  ∀ (pins : List (Addr × Obj)) (s : Shared) (σ : St) (H : Hp) (Q : Bool → Hp → Prop), Inv X pins σ H s → t σ H Q →
    wpAny (model X.prog X.w) X.A (forIn ifs true fun c r => if r = true then (do let ok ← isTrue c X.env (eval c X.env); pure (ForInStep.yield ok)) else pure (ForInStep.yield r)) (TP X pins σ Q) X.xe s
theorem pifs_nil {X : Cx} : PIfs X [] (fun _ H Q => Q true H) := by
  intro pins s σ H Q I h
  rw [List.forIn_nil]
  exact wpAny_pure ⟨H, I, h⟩
/-- a comprehension: W is what holds between two turns (the turn's number, a measure, the block's names, the list so far, the heap) -/
def tComp (wi : TI) (g : TG) (tc : TT) (te : TE) (σc : St → St) : TE := fun σ H Q => wi σ H fun J H1 => ∀ acc, H1 acc = none →
  ∃ W : Nat → Nat → St → List V → Hp → Prop, (∃ m, W 0 m (σc σ) [] (upd H1 acc (.lst []))) ∧ ∀ i m σ2 ys H2, W i m σ2 ys H2 → H2 acc = some (.lst ys) ∧
    ((J.stop i H2 ∧ Q (.ref acc) H2) ∨ (J.go i H2 ∧ ys.length < sizeLine ∧ ∀ x H3, J.yld i H2 x H3 → g x σ2 H3 fun σ4 H4 => tc σ4 H4 fun b H5 =>
      if b = true then te σ4 H5 fun y H6 => H6 acc = some (.lst ys) ∧ ∃ m', m' < m ∧ W (i + 1) m' σ4 (ys ++ [y]) (upd H6 acc (.lst (ys ++ [y]))) else ∃ m', m' < m ∧ W (i + 1) m' σ4 ys H5))

theorem turn_of_list {prog : Program} {w : World} {A : Around} {R : Result → Shared → Prop} {s : Shared} {elt target iter : Expr} {ifs : List Expr} {scope : Scope} {pos : Pos} {it acc : Value} {env : Env} (I : Nat → Shared → Prop)
    (turn : ∀ n s, I n s → wpAny (model prog w) A (pyNext it) (fun r s₁ => (r = none ∧ R (.ok .next) s₁) ∨ ∃ v, r = some v ∧
        wpAny (model prog w) A (letOwnedTupleGo target it v) (fun _ s₂ => wpAny (model prog w) A (assign target env v) (fun _ s₃ =>
          wpAny (model prog w) A (forIn ifs true fun c r => if r = true then (do let ok ← isTrue c env (eval c env); pure (ForInStep.yield ok)) else pure (ForInStep.yield r)) (fun ok s₄ =>
            if ok = true then wpAny (model prog w) A (eval elt env) (fun x s₅ => wpAny (model prog w) A (call (.builtin "list.append") [acc, x]) (fun _ s₆ => ∃ m, m < n ∧ I m s₆) (fun _ _ => False) s₅) (fun _ _ => False) s₄
            else ∃ m, m < n ∧ I m s₄) (fun _ _ => False) s₃) (fun _ _ => False) s₂) (fun _ _ => False) s₁) (fun _ _ => False) s)
    (n : Nat) (h : I n s) : codeAny (model prog w) A (.compLoop (.ListComp elt [⟨target, iter, ifs, 0⟩] scope pos) 0 it acc env) R s := by
  have no : ∀ {α : Type} {t : Sem α} {Q : α → Shared → Prop} {E : Value → Shared → Prop} {s : Shared}, wpAny (model prog w) A t Q (fun _ _ => False) s → wpAny (model prog w) A t Q E s := fun h => wpAny_mono h (fun _ _ q => q) fun _ _ f => f.elim
  refine codeAny_loop rfl I (fun n s hI => ?_) n h
  show wpAny _ A ((compTurn (.ListComp elt [⟨target, iter, ifs, 0⟩] scope pos) 0 it acc env).onRaise (fun x => do noteFrame x env; theTreesLotGoes x)) _ _ s
  refine wpAny_noted ?_
  rw [compTurn_list]
  refine wpAny_bind (wpAny_standAt (wpAny_bind (no (thn (turn n s hI) fun r s₁ h₁ => ?_))))
  rcases h₁ with ⟨rfl, h₁⟩ | ⟨v, rfl, h₁⟩
  · exact wpAny_pure h₁
  · refine wpAny_bind (no (thn h₁ fun _ s₂ h₂ => wpAny_bind (no (thn h₂ fun _ s₃ h₃ => wpAny_bind (no (thn h₃ fun ok s₄ h₄ => ?_))))))
    cases ok with
    | false => exact wpAny_pure ⟨rfl, h₄⟩
    | true => exact wpAny_bind (wpAny_bind (no (thn h₄ fun x s₅ h₅ => wpAny_bind (no (thn h₅ fun _ s₆ h₆ => wpAny_pure (wpAny_pure ⟨rfl, h₆⟩))))))

theorem hok_but {P : Program} {w : World} {H : Hp} {h h' : Heap} {C : Addr} (ok : HOk P w H h) (hC : H C = none) (hs : Heap.SameBut C h h') : HOk P w H h' := fun b o e =>
  (ok b o e).stay (fun c u hc q => (hs.2 c (by
    rintro rfl
    rcases hc with rfl | hc
    · rw [hC] at e; cases e
    · rw [hC] at hc; cases hc)).trans q) (fun _ q => q) fun _ _ q => q

theorem pe_comp {X : Cx} {tg iter elt : Expr} {ifs : List Expr} {scope : Scope} {pos : Pos} {N' : List Str} {wi : TI} {g : TG} {tc : TT} {te : TE} {σc : St → St}
    (S : CompScope X N' scope) (hcalm : X.calm = true) (hσ : ∀ σ : St, σ.length = X.N.length → Caught X N' scope σ (σc σ)) (hi : PI X tg iter wi)
    (hg : ∀ fp s₀ H₀, PG (cxComp X N' scope fp s₀ H₀) tg g) (hc : ∀ fp s₀ H₀, PIfs (cxComp X N' scope fp s₀ H₀) ifs tc) (he : ∀ fp s₀ H₀, PE (cxComp X N' scope fp s₀ H₀) elt te)
    (hs : ∀ x, foldedSetIterable iter X.env x = pure x := by intro _; rfl) : PE X (.ListComp elt [⟨tg, iter, ifs, 0⟩] scope pos) (tComp wi g tc te σc) := by
  intro pins s σ H Q I h
  have hfree : ∀ y ∈ scope.names, y.2 = .free → ∃ c, X.env.cells.lookup y.1 = some c := fun y hy hk => I.ok.has y.1 (.inl (S.fre y hy hk))
  have sub := clOf_sub (cells := X.env.cells) (names := scope.names) (acc := []) hfree (fun x c e => by cases e)
  rw [eval_ListComp]
  refine wpAny_comprehension_free (use := none) rfl hs (closure_of hfree) S.kind S.loc (thn (hi pins s σ H _ I h) fun v s1 h1 => thn h1 fun itv s2 h2 => ?_)
  obtain ⟨it, fp, tn, J, H2, rfl, I2, T, st2, f2, h2⟩ := h2
  obtain ⟨W, ⟨m0, w0⟩, turn⟩ := h2 s2.heap.objs.size I2.fresh
  have lt2 : ∀ b ∈ fp, b < s2.heap.objs.size := fun b hb => by
    obtain ⟨o, ho, _⟩ := T.obj _ _ st2 b hb
    exact Heap.lt_size ho
  refine wpAny_newObj_type (wpAny_newFunctionEnv S.nocell (by intro y hy; simp at hy) (fun h₁ hns₁ hsb₁ => ?_) S.kind)
  dsimp only at hns₁ hsb₁ ⊢
  -- the state behind the list's making: the block's entry
  have I3 : Inv X pins σ (upd H2 s2.heap.objs.size (.lst [])) { s2 with heap := s2.heap.push { cls := .type "list", data := .seq ([] : List Value).toArray } } := I2.lnew (t' := s2.toks) (ys := []) .nil (Nat.zero_le _)
  generalize hs3 : ({ s2 with heap := s2.heap.push { cls := .type "list", data := .seq ([] : List Value).toArray } } : Shared) = s3 at I3
  have e3 : s2.heap.push { cls := .type "list", data := .seq ([] : List Value).toArray } = s3.heap := by rw [← hs3]
  have sz3 : s3.heap.objs.size = s2.heap.objs.size + 1 := by rw [← e3, Heap.size_push]
  have up23 : ∀ b o, s2.heap.get? b = some o → s3.heap.get? b = some o := fun b o e => by rw [← e3]; exact Heap.get?_push_of_some _ e
  have f3 : ∀ b ∈ fp, FpOk X pins (upd H2 s2.heap.objs.size (.lst [])) b := fun b hb => by
    obtain ⟨q1, q2⟩ := f2 b hb
    exact ⟨by rw [upd_ne (Nat.ne_of_lt (lt2 b hb))]; exact q1, q2⟩
  have lt3 : ∀ b ∈ fp, b < s3.heap.objs.size := fun b hb => by rw [sz3]; exact Nat.lt_succ_of_lt (lt2 b hb)
  rw [e3] at hns₁ hsb₁ ⊢
  have up1 : ∀ b o, s3.heap.get? b = some o → h₁.get? b = some o := fun b o e => hsb₁.extBut b o (Nat.ne_of_lt (Heap.lt_size e)) (Heap.get?_push_of_some _ e)
  have hns0 : h₁.Ns s3.heap.objs.size (fun _ => none) := by
    have q := hns₁
    simpa using q
  have I4 : Inv (cxComp X N' scope fp s3 (upd H2 s2.heap.objs.size (.lst []))) [] (σc σ) (upd H2 s2.heap.objs.size (.lst [])) { s3 with heap := h₁, toks := s2.toks } := comp_inv S I3 f3 lt3 (hσ σ I.len) hns0 up1
  have st4 : tn 0 h₁ := T.keep _ _ _ st2 fun b hb o e => up1 b o (up23 b o e)
  generalize hX : cxComp X N' scope fp s3 (upd H2 s2.heap.objs.size (.lst [])) = X' at I4
  have xP : X'.prog = X.prog := by rw [← hX]; rfl
  have xw : X'.w = X.w := by rw [← hX]; rfl
  have xK : X'.K = X.K := by rw [← hX]; rfl
  have xA : X'.A = X.A := by rw [← hX]; rfl
  have xc : X'.calm = true := by rw [← hX]; exact hcalm
  have xx : X'.xe = fun _ _ => False := by rw [← hX]; rfl
  have xe : X'.env = compEnvC scope (clOf X.env.cells scope.names []) s3.heap.objs.size X.env := by rw [← hX]; rfl
  have hg' : PG X' tg g := by rw [← hX]; exact hg _ _ _
  have hc' : PIfs X' ifs tc := by rw [← hX]; exact hc _ _ _
  have he' : PE X' elt te := by rw [← hX]; exact he _ _ _
  have ex0 : X'.ex = fp := by rw [← hX]; rfl
  have fs0 : X'.fs = frs X.stack := by rw [← hX]; rfl
  have pn0 : X'.pn = [] := by rw [← hX]; rfl
  have s00 : X'.s₀ = s3 := by rw [← hX]; rfl
  have H00 : X'.H₀ = upd H2 s2.heap.objs.size (.lst []) := by rw [← hX]; rfl
  have ok4 := I4.ok
  have stat : ∀ {H' : Hp}, (∀ b ∈ fp, H' b = none) → ∀ b ∈ fp, FpOk X' [] H' b := fun {H'} hn b hb => by
    obtain ⟨_, q1, q2, q3, q4, q5⟩ := f3 b hb
    refine ⟨hn b hb, (ok4.exf b (by rw [ex0]; exact hb)).1, ok4.exfs b (by rw [ex0]; exact hb), .inl (by rw [ex0]; exact hb), (ok4.exf b (by rw [ex0]; exact hb)).2, fun p hp => ?_⟩
    rw [pn0] at hp
    exact absurd (show p ∈ ([] : List (Addr × Obj)) from hp) (by simp)
  -- behind the block
  have fin : ∀ (s' : Shared) (σ' : St) (H' : Hp), Inv X' [] σ' H' s' → Q (.ref s2.heap.objs.size) H' → compPost (model X.prog X.w) X.A X.xe none (EP X pins σ Q) (.ref s2.heap.objs.size) s3.heap.objs.size (.ok .next) s' := fun s' σ' H' I' q => by
    have hC : X'.env.locals = s3.heap.objs.size := by rw [xe]; rfl
    obtain ⟨m, hm, _⟩ := id I'.loc
    rw [hC] at hm
    refine ⟨m, hm, fun h' hs' => ⟨.ref s2.heap.objs.size, H', ?_, rfl, q⟩⟩
    have un := I'.base
    rw [fs0, ex0, s00, H00] at un
    have neC : ∀ b o, s3.heap.get? b = some o → b ≠ s3.heap.objs.size := fun b o e => Nat.ne_of_lt (Heap.lt_size e)
    have un' : Un (frs X.stack) fp (upd H2 s2.heap.objs.size (.lst [])) H' s3.heap h' :=
      ⟨fun b o e n hb hx => (hs'.2 b (neC b o e)).trans (un.keep b o e n hb hx), fun b o e n hb hx => let ⟨sl, z⟩ := un.slot b o e n hb hx; ⟨sl, (hs'.2 b (neC b o e)).trans z⟩, un.free,
        fun b o e hx => let ⟨o', z⟩ := un.there b o e hx; ⟨o', (hs'.2 b (neC b o e)).trans z⟩, un.tups, un.frzs, un.tbls⟩
    have hfr : H' s3.heap.objs.size = none := by rw [← hC]; exact I'.free
    have hok' : HOk X.prog X.w H' s'.heap := by rw [← xP, ← xw]; exact I'.hok
    refine I3.call' (s' := { s' with heap := h' }) (ch := fp) ?_ un' (hok_but hok' hfr hs') I'.bare fun b hb => ?_
    · have z := I'.os
      rw [s00] at z
      exact z
    · obtain ⟨_, q1, q2, q3, q4, q5⟩ := f3 b hb
      exact ⟨q3, q1, q4, q5⟩
  have loop : codeAny (model X.prog X.w) X.A (.compLoop (.ListComp elt [⟨tg, iter, ifs, 0⟩] scope pos) 0 (.ref it) (.ref s2.heap.objs.size) (compEnvC scope (clOf X.env.cells scope.names []) s3.heap.objs.size X.env))
      (compPost (model X.prog X.w) X.A X.xe none (EP X pins σ Q) (.ref s2.heap.objs.size) s3.heap.objs.size) { s3 with heap := h₁, toks := s2.toks } := by
    refine turn_of_list (fun n s' => ∃ i σ' ys H', Inv X' [] σ' H' s' ∧ tn i s'.heap ∧ (∀ b ∈ fp, H' b = none) ∧ W i n σ' ys H') ?_ m0 ⟨0, _, [], _, I4, st4, fun b hb => (f3 b hb).1, w0⟩
    rintro n s5 ⟨i, σ5, ys, H5, I5, st5, fr5, w5⟩
    obtain ⟨hacc, hh⟩ := turn i n σ5 ys H5 w5
    rcases hh with ⟨stop, q⟩ | ⟨go, hsz, step⟩
    · have d := T.done X' xP xw xK xc i [] s5 σ5 H5 (fun _ _ => False) I5 (stat fr5) st5 stop
      rw [xA] at d
      exact thn d fun r s6 ⟨hr, I6⟩ => .inl ⟨hr, fin s6 σ5 H5 I6 q⟩
    · have d := T.item X' xP xw xK xc i [] s5 σ5 H5 (fun _ _ => False) I5 (stat fr5) st5 go
      rw [xA] at d
      refine thn d fun r s6 ⟨u, hr, h6⟩ => .inr ⟨u, hr, thn h6 fun _ s7 ⟨x, H7, I7, r7, y7, st7, fr7⟩ => ?_⟩
      have I7' := I7.pinned (stat fr7) (T.obj _ _ st7)
      have a1 := hg' _ s7 σ5 H7 x u _ I7' r7 (step x H7 y7)
      rw [xP, xw, xA, xe, xx] at a1
      refine thn a1 fun _ s8 ⟨σ8, H8, I8, q8⟩ => ?_
      have a2 := hc' _ s8 σ8 H8 _ I8 q8
      rw [xP, xw, xA, xe, xx] at a2
      refine thn a2 fun ok s9 ⟨H9, I9, q9⟩ => ?_
      have back : ∀ {σz : St} {Hz : Hp} {sz : Shared}, Inv X' ([] ++ pinsAt fp s7.heap) σz Hz sz → tn (i + 1) sz.heap ∧ ∀ b ∈ fp, Hz b = none := fun {σz Hz sz} Iz => by
        refine ⟨T.keep _ _ _ st7 fun b hb o e => (Iz.pin (b, o) (List.mem_append_right _ (List.mem_append_right _ (mem_pinsAt hb e)))).1, fun b hb => ?_⟩
        obtain ⟨o, e, _⟩ := T.obj _ _ st7 b hb
        exact (Iz.pin (b, o) (List.mem_append_right _ (List.mem_append_right _ (mem_pinsAt hb e)))).2.1
      cases ok with
      | false =>
        obtain ⟨m', hm, w'⟩ := q9
        rw [if_neg Bool.false_ne_true]
        exact ⟨m', hm, i + 1, σ8, ys, H9, I9.unpinned, (back I9).1, (back I9).2, w'⟩
      | true =>
        rw [if_pos rfl] at q9 ⊢
        have a3 := he' _ s9 σ8 H9 _ I9 q9
        rw [xP, xw, xA, xe, xx] at a3
        refine thn a3 fun y sa ⟨yv, Ha, Ia, ra, hacc', m', hm, w'⟩ => ?_
        have a4 := mt_append (X := X') _ sa σ8 Ha (.ref s2.heap.objs.size) [yv] (.ref s2.heap.objs.size) [y] (fun v H' => H' = upd Ha s2.heap.objs.size (.lst (ys ++ [yv]))) Ia rfl (.cons ra .nil) ⟨_, ys, yv, rfl, rfl, hacc', hsz, rfl⟩
        rw [xP, xw, xA, xx] at a4
        refine thn a4 fun _ sb ⟨_, Hb, Ib, _, eb⟩ => ?_
        subst eb
        exact ⟨m', hm, i + 1, σ8, ys ++ [yv], _, Ib.unpinned, (back Ib).1, (back Ib).2, w'⟩
  have es : ({ s2 with heap := h₁, toks := s2.toks + ([] : List (Str × Value)).length } : Shared) = { s3 with heap := h₁, toks := s2.toks } := by rw [← hs3]; rfl
  refine codeAny_compStart_list ?_ ?_
  · exact es ▸ loop
  · exact T.self _ 0 _ _ _ st4 (es ▸ loop)
end L2

set_option Elab.async false
set_option linter.all false
set_option maxRecDepth 100000
set_option maxHeartbeats 4000000
namespace L2
open PySem PySem.Spec PyProof.Rows
/-- x = [..]: the store goes ahead of what the block lets go -/
theorem ps_comp {X : Cx} {tg iter elt : Expr} {ifs : List Expr} {scope : Scope} {pos spos py : Pos} {N' : List Str} {wi : TI} {g : TG} {tc : TT} {te : TE} {σc : St → St} {i0 : Nat} {y0 : Str}
    (hN0 : X.N.Nodup) (hi0 : X.N[i0]? = some y0) (hx0 : Loc X.env.scope y0)
    (S : CompScope X N' scope) (hcalm : X.calm = true) (hσ : ∀ σ : St, σ.length = X.N.length → Caught X N' scope σ (σc σ)) (hi : PI X tg iter wi)
    (hg : ∀ fp s₀ H₀, PG (cxComp X N' scope fp s₀ H₀) tg g) (hc : ∀ fp s₀ H₀, PIfs (cxComp X N' scope fp s₀ H₀) ifs tc) (he : ∀ fp s₀ H₀, PE (cxComp X N' scope fp s₀ H₀) elt te)
    (hs : ∀ x, foldedSetIterable iter X.env x = pure x := by intro _; rfl) (hsw : swapsWith (.ListComp elt [⟨tg, iter, ifs, 0⟩] scope pos) (some (.Name y0 py)) spos.line X.env = pure true := by rfl)
    (hf0 : X.fn y0 = true ∨ X.env.scope.names.lookup y0 = some .local := by first | exact .inl rfl | exact .inr rfl | assumption) :
    PS X (.Assign [.Name y0 py] (.ListComp elt [⟨tg, iter, ifs, 0⟩] scope pos) spos) (tAsg (tComp wi g tc te σc) (gName i0)) := by
  intro pins s σ H D I h
  have hfree : ∀ y ∈ scope.names, y.2 = .free → ∃ c, X.env.cells.lookup y.1 = some c := fun y hy hk => I.ok.has y.1 (.inl (S.fre y hy hk))
  have sub := clOf_sub (cells := X.env.cells) (names := scope.names) (acc := []) hfree (fun x c e => by cases e)
  rw [exec_Assign_Name_used _ _ _ _ hsw]
  refine wpAny_bind (wpAny_standAt (wpAny_bind ?_))
  show wpAny _ X.A (do let _ ← comprehension (.ListComp elt [⟨tg, iter, ifs, 0⟩] scope pos) scope X.env _ (newList []) false (eval iter X.env) (some (assign (.Name y0 py) X.env))) _ _ s
  refine wpAny_bind (wpAny_mono (wpAny_comprehension_free (use := some (assign (.Name y0 py) X.env)) (Q := fun _ s' => ∃ σ' H', Inv X pins σ' H' s' ∧ D.nx σ' H') rfl hs (closure_of hfree) S.kind S.loc (?_)) (fun _ s' hq => wpAny_pure (wpAny_pure hq)) fun _ _ e => e)
  refine (thn (hi pins s σ H _ I h) fun v s1 h1 => thn h1 fun itv s2 h2 => ?_)
  obtain ⟨it, fp, tn, J, H2, rfl, I2, T, st2, f2, h2⟩ := h2
  obtain ⟨W, ⟨m0, w0⟩, turn⟩ := h2 s2.heap.objs.size I2.fresh
  have lt2 : ∀ b ∈ fp, b < s2.heap.objs.size := fun b hb => by
    obtain ⟨o, ho, _⟩ := T.obj _ _ st2 b hb
    exact Heap.lt_size ho
  refine wpAny_newObj_type (wpAny_newFunctionEnv S.nocell (by intro y hy; simp at hy) (fun h₁ hns₁ hsb₁ => ?_) S.kind)
  dsimp only at hns₁ hsb₁ ⊢
  -- the state behind the list's making: the block's entry
  have I3 : Inv X pins σ (upd H2 s2.heap.objs.size (.lst [])) { s2 with heap := s2.heap.push { cls := .type "list", data := .seq ([] : List Value).toArray } } := I2.lnew (t' := s2.toks) (ys := []) .nil (Nat.zero_le _)
  generalize hs3 : ({ s2 with heap := s2.heap.push { cls := .type "list", data := .seq ([] : List Value).toArray } } : Shared) = s3 at I3
  have e3 : s2.heap.push { cls := .type "list", data := .seq ([] : List Value).toArray } = s3.heap := by rw [← hs3]
  have sz3 : s3.heap.objs.size = s2.heap.objs.size + 1 := by rw [← e3, Heap.size_push]
  have up23 : ∀ b o, s2.heap.get? b = some o → s3.heap.get? b = some o := fun b o e => by rw [← e3]; exact Heap.get?_push_of_some _ e
  have f3 : ∀ b ∈ fp, FpOk X pins (upd H2 s2.heap.objs.size (.lst [])) b := fun b hb => by
    obtain ⟨q1, q2⟩ := f2 b hb
    exact ⟨by rw [upd_ne (Nat.ne_of_lt (lt2 b hb))]; exact q1, q2⟩
  have lt3 : ∀ b ∈ fp, b < s3.heap.objs.size := fun b hb => by rw [sz3]; exact Nat.lt_succ_of_lt (lt2 b hb)
  rw [e3] at hns₁ hsb₁ ⊢
  have up1 : ∀ b o, s3.heap.get? b = some o → h₁.get? b = some o := fun b o e => hsb₁.extBut b o (Nat.ne_of_lt (Heap.lt_size e)) (Heap.get?_push_of_some _ e)
  have hns0 : h₁.Ns s3.heap.objs.size (fun _ => none) := by
    have q := hns₁
    simpa using q
  have I4 : Inv (cxComp X N' scope fp s3 (upd H2 s2.heap.objs.size (.lst []))) [] (σc σ) (upd H2 s2.heap.objs.size (.lst [])) { s3 with heap := h₁, toks := s2.toks } := comp_inv S I3 f3 lt3 (hσ σ I.len) hns0 up1
  have st4 : tn 0 h₁ := T.keep _ _ _ st2 fun b hb o e => up1 b o (up23 b o e)
  generalize hX : cxComp X N' scope fp s3 (upd H2 s2.heap.objs.size (.lst [])) = X' at I4
  have xP : X'.prog = X.prog := by rw [← hX]; rfl
  have xw : X'.w = X.w := by rw [← hX]; rfl
  have xK : X'.K = X.K := by rw [← hX]; rfl
  have xA : X'.A = X.A := by rw [← hX]; rfl
  have xc : X'.calm = true := by rw [← hX]; exact hcalm
  have xx : X'.xe = fun _ _ => False := by rw [← hX]; rfl
  have xe : X'.env = compEnvC scope (clOf X.env.cells scope.names []) s3.heap.objs.size X.env := by rw [← hX]; rfl
  have hg' : PG X' tg g := by rw [← hX]; exact hg _ _ _
  have hc' : PIfs X' ifs tc := by rw [← hX]; exact hc _ _ _
  have he' : PE X' elt te := by rw [← hX]; exact he _ _ _
  have ex0 : X'.ex = fp := by rw [← hX]; rfl
  have fs0 : X'.fs = frs X.stack := by rw [← hX]; rfl
  have pn0 : X'.pn = [] := by rw [← hX]; rfl
  have s00 : X'.s₀ = s3 := by rw [← hX]; rfl
  have H00 : X'.H₀ = upd H2 s2.heap.objs.size (.lst []) := by rw [← hX]; rfl
  have ok4 := I4.ok
  have stat : ∀ {H' : Hp}, (∀ b ∈ fp, H' b = none) → ∀ b ∈ fp, FpOk X' [] H' b := fun {H'} hn b hb => by
    obtain ⟨_, q1, q2, q3, q4, q5⟩ := f3 b hb
    refine ⟨hn b hb, (ok4.exf b (by rw [ex0]; exact hb)).1, ok4.exfs b (by rw [ex0]; exact hb), .inl (by rw [ex0]; exact hb), (ok4.exf b (by rw [ex0]; exact hb)).2, fun p hp => ?_⟩
    rw [pn0] at hp
    exact absurd (show p ∈ ([] : List (Addr × Obj)) from hp) (by simp)
  -- behind the block
  have fin : ∀ (s' : Shared) (σ' : St) (H' : Hp), Inv X' [] σ' H' s' → gName i0 (.ref s2.heap.objs.size) σ H' D.nx → compPost (model X.prog X.w) X.A X.xe (some (assign (.Name y0 py) X.env)) (fun _ s' => ∃ σ' H', Inv X pins σ' H' s' ∧ D.nx σ' H') (.ref s2.heap.objs.size) s3.heap.objs.size (.ok .next) s' := fun s' σ' H' I' q => by
    have hC : X'.env.locals = s3.heap.objs.size := by rw [xe]; rfl
    obtain ⟨m, hm, _⟩ := id I'.loc
    rw [hC] at hm
    have un := I'.base
    rw [fs0, ex0, s00, H00] at un
    have hfr : H' s3.heap.objs.size = none := by rw [← hC]; exact I'.free
    have hok' : HOk X.prog X.w H' s'.heap := by rw [← xP, ← xw]; exact I'.hok
    have IX : Inv X pins σ H' s' := by
      refine I3.call' (s' := s') (ch := fp) ?_ un hok' I'.bare fun b hb => ?_
      · have z := I'.os
        rw [s00] at z
        exact z
      · obtain ⟨_, q1, q2, q3, q4, q5⟩ := f3 b hb
        exact ⟨q3, q1, q4, q5⟩
    have lt : ∀ b o, s3.heap.get? b = some o → b ≠ s3.heap.objs.size := fun b o e => Nat.ne_of_lt (Heap.lt_size e)
    have cok : FpOk X pins H' s3.heap.objs.size := I3.fpOk (Nat.le_refl _) hfr
    obtain ⟨oC, esC, epC, hoC, hrC⟩ := id hm
    have IP := IX.pinned (fp := [s3.heap.objs.size]) (fun b hb => by rw [List.mem_singleton.mp hb]; exact cok) (fun b hb => by
      rw [List.mem_singleton.mp hb]
      exact ⟨oC, hoC, fun v g => by simp_all⟩)
    refine wpAny_assign_Name (store_ok IP hN0 hi0 hx0 (v := .ref s2.heap.objs.size) rfl (fun sa Ia => ?_) hf0)
    have hoA : sa.heap.get? s3.heap.objs.size = some oC := (Ia.pin (s3.heap.objs.size, oC) (List.mem_append_right _ (List.mem_append_right _ (mem_pinsAt (by simp) hoC)))).1
    refine ⟨m, hm.at' fun o e => ?_, fun h' hs' => ⟨_, H', ?_, q⟩⟩
    · rw [hoC] at e
      injection e with e
      exact e ▸ hoA
    · obtain ⟨q0, q1, q2, q3, q4, q5⟩ := cok
      have Iu := Ia.unpinned
      have oth : ∀ b o, b ∉ [s3.heap.objs.size] → sa.heap.get? b = some o → h'.get? b = some o := fun b o hb e => (hs'.2 b (by simpa using hb)).trans e
      refine Iu.step (g' := sa.gens) (t' := sa.toks) (d' := sa.drawn) (ch := [s3.heap.objs.size]) (fun b hb => ?_) (fun b o _ _ hb e _ => oth b o hb e) (fun b o _ _ hb e _ => ⟨o.slots, oth b o hb e⟩) (fun b o _ _ n => n) (fun b o hb e => ⟨o, oth b o hb e⟩) (fun _ _ e => e) (fun _ _ _ e => e) (fun b ps e => ⟨#[], by rw [e]; simp⟩) (fun m' hm' => hm'.at' fun o e => oth _ o (by simpa using Ne.symm q1) e) (hok_but Iu.hok q0 hs') Iu.bare
      rw [List.mem_singleton.mp hb]
      exact ⟨q3, q1, q4, q5⟩
  have loop : codeAny (model X.prog X.w) X.A (.compLoop (.ListComp elt [⟨tg, iter, ifs, 0⟩] scope pos) 0 (.ref it) (.ref s2.heap.objs.size) (compEnvC scope (clOf X.env.cells scope.names []) s3.heap.objs.size X.env))
      (compPost (model X.prog X.w) X.A X.xe (some (assign (.Name y0 py) X.env)) (fun _ s' => ∃ σ' H', Inv X pins σ' H' s' ∧ D.nx σ' H') (.ref s2.heap.objs.size) s3.heap.objs.size) { s3 with heap := h₁, toks := s2.toks } := by
    refine turn_of_list (fun n s' => ∃ i σ' ys H', Inv X' [] σ' H' s' ∧ tn i s'.heap ∧ (∀ b ∈ fp, H' b = none) ∧ W i n σ' ys H') ?_ m0 ⟨0, _, [], _, I4, st4, fun b hb => (f3 b hb).1, w0⟩
    rintro n s5 ⟨i, σ5, ys, H5, I5, st5, fr5, w5⟩
    obtain ⟨hacc, hh⟩ := turn i n σ5 ys H5 w5
    rcases hh with ⟨stop, q⟩ | ⟨go, hsz, step⟩
    · have d := T.done X' xP xw xK xc i [] s5 σ5 H5 (fun _ _ => False) I5 (stat fr5) st5 stop
      rw [xA] at d
      exact thn d fun r s6 ⟨hr, I6⟩ => .inl ⟨hr, fin s6 σ5 H5 I6 q⟩
    · have d := T.item X' xP xw xK xc i [] s5 σ5 H5 (fun _ _ => False) I5 (stat fr5) st5 go
      rw [xA] at d
      refine thn d fun r s6 ⟨u, hr, h6⟩ => .inr ⟨u, hr, thn h6 fun _ s7 ⟨x, H7, I7, r7, y7, st7, fr7⟩ => ?_⟩
      have I7' := I7.pinned (stat fr7) (T.obj _ _ st7)
      have a1 := hg' _ s7 σ5 H7 x u _ I7' r7 (step x H7 y7)
      rw [xP, xw, xA, xe, xx] at a1
      refine thn a1 fun _ s8 ⟨σ8, H8, I8, q8⟩ => ?_
      have a2 := hc' _ s8 σ8 H8 _ I8 q8
      rw [xP, xw, xA, xe, xx] at a2
      refine thn a2 fun ok s9 ⟨H9, I9, q9⟩ => ?_
      have back : ∀ {σz : St} {Hz : Hp} {sz : Shared}, Inv X' ([] ++ pinsAt fp s7.heap) σz Hz sz → tn (i + 1) sz.heap ∧ ∀ b ∈ fp, Hz b = none := fun {σz Hz sz} Iz => by
        refine ⟨T.keep _ _ _ st7 fun b hb o e => (Iz.pin (b, o) (List.mem_append_right _ (List.mem_append_right _ (mem_pinsAt hb e)))).1, fun b hb => ?_⟩
        obtain ⟨o, e, _⟩ := T.obj _ _ st7 b hb
        exact (Iz.pin (b, o) (List.mem_append_right _ (List.mem_append_right _ (mem_pinsAt hb e)))).2.1
      cases ok with
      | false =>
        obtain ⟨m', hm, w'⟩ := q9
        rw [if_neg Bool.false_ne_true]
        exact ⟨m', hm, i + 1, σ8, ys, H9, I9.unpinned, (back I9).1, (back I9).2, w'⟩
      | true =>
        rw [if_pos rfl] at q9 ⊢
        have a3 := he' _ s9 σ8 H9 _ I9 q9
        rw [xP, xw, xA, xe, xx] at a3
        refine thn a3 fun y sa ⟨yv, Ha, Ia, ra, hacc', m', hm, w'⟩ => ?_
        have a4 := mt_append (X := X') _ sa σ8 Ha (.ref s2.heap.objs.size) [yv] (.ref s2.heap.objs.size) [y] (fun v H' => H' = upd Ha s2.heap.objs.size (.lst (ys ++ [yv]))) Ia rfl (.cons ra .nil) ⟨_, ys, yv, rfl, rfl, hacc', hsz, rfl⟩
        rw [xP, xw, xA, xx] at a4
        refine thn a4 fun _ sb ⟨_, Hb, Ib, _, eb⟩ => ?_
        subst eb
        exact ⟨m', hm, i + 1, σ8, ys ++ [yv], _, Ib.unpinned, (back Ib).1, (back Ib).2, w'⟩
  have es : ({ s2 with heap := h₁, toks := s2.toks + ([] : List (Str × Value)).length } : Shared) = { s3 with heap := h₁, toks := s2.toks } := by rw [← hs3]; rfl
  refine codeAny_compStart_list ?_ ?_
  · exact es ▸ loop
  · exact T.self _ 0 _ _ _ st4 (es ▸ loop)
end L2

set_option Elab.async false
set_option linter.all false
set_option maxRecDepth 100000
set_option maxHeartbeats 4000000
/-! Rules of our own over the hand layer: texts' signs walked, isinstance, all, slices, sums of tuples, tables of the module. -/
namespace L2
open PySem PySem.Spec PyProof.Rows

/-! ### the signs of a text -/
/-! ### isinstance -/
/-- the kind of a value, by its name -/
def tyN (H : Hp) : V → Option String
  | .non => some "NoneType"
  | .bl _ => some "bool"
  | .int _ => some "int"
  | .str _ => some "str"
  | .ref a => match H a with
    | some (.lst _) => some "list"
    | some (.tup _) => some "tuple"
    | some (.dK _) => some "dict"
    | _ => none
  | _ => none
def isiB (t c : String) : Bool := t == c || (t == "bool" && c == "int")
theorem tyOf_of {K : PySem.W.Frag} {H : Hp} {x : V} {t : String} (h : tyN H x = some t) : TyOf K H x (.type t) := by
  cases x with
  | non => cases h; exact .non
  | bl b => cases h; exact .bl b
  | int i => cases h; exact .int i
  | str z => cases h; exact .str z
  | ref a =>
    unfold tyN at h
    dsimp only at h
    split at h
    · rename_i e; cases h; exact .lst e
    · rename_i e; cases h; exact .tup e
    · rename_i e; cases h; exact .dK e
    · cases h
  | byt _ => cases h
  | flt _ => cases h
  | ty _ => cases h
theorem tyN_mem {H : Hp} {x : V} {t : String} (h : tyN H x = some t) : t ∈ ["NoneType", "bool", "int", "str", "list", "tuple", "dict"] := by
  cases x with
  | ref a =>
    unfold tyN at h
    dsimp only at h
    split at h <;> first | (cases h; simp) | cases h
  | _ => first | (cases h; simp) | cases h
theorem kit_of {K : PySem.W.Frag} {t c : String} (ht : t ∈ ["NoneType", "bool", "int", "str", "list", "tuple", "dict"]) (hc : c ∈ ["str", "int", "bool", "tuple", "list"]) : PySem.W.kitOne K (.type t) (.type c) = some (isiB t c) := by
  simp only [List.mem_cons, List.not_mem_nil, or_false] at ht hc
  rcases hc with rfl | rfl | rfl | rfl | rfl <;> rcases ht with rfl | rfl | rfl | rfl | rfl | rfl | rfl <;> rfl
theorem call_isi {X : Cx} : CallR X (.builtin "isinstance") (fun xs H Q => ∃ x c t, xs = [x, .ty c] ∧ tyN H x = some t ∧ c ∈ ["str", "int", "bool", "tuple", "list"] ∧ Q (.bl (isiB t c)) H) := by
  intro pins s σ H xs us Q I r h
  obtain ⟨x, c, t, rfl, ht, hc, q⟩ := h
  obtain ⟨u, v, rfl, ru, rv⟩ := r.two
  obtain rfl : v = Value.type c := rv
  exact isinst_ok I ru (tyOf_of ht) (kit_of (tyN_mem ht) hc) fun tk => ⟨.bl _, H, I.tok tk, rfl, q⟩
/-! ### all(xs), xs a list of truths -/
/-! ### texts -/
/-! ### tuples -/
theorem same_of_new {H : Hp} {p : Addr} (h : H p = none) (o : HO) : Same H (upd H p o) := fun b u q => by rw [upd_ne (ne_of_none q h)]; exact q
theorem cutV_whole {xs : List V} {lo hi : Option Int} (h : HT.sIx xs.length 0 lo = 0 ∧ HT.sIx xs.length xs.length hi = xs.length) : cutV xs lo hi = xs := by
  unfold cutV
  rw [h.1, h.2, List.drop_zero, Nat.sub_zero, List.take_length]
/-- the whole of a tuple is the tuple itself -/
theorem getItem_tup_all {P : Program} {w : World} {A : Around} {E : Value → Shared → Prop} {s : Shared} {t sl : Addr} {items : Array Value} {vl vu : Value} {lo hi : Option Int} {Q : Value → Shared → Prop} (ht : IsTup s.heap t items) (hs : s.heap.IsSliceOf sl vl vu .none) (pl : IsPart vl lo) (pu : IsPart vu hi)
    (hw : HT.sIx items.size 0 lo = 0 ∧ HT.sIx items.size items.size hi = items.size) (h : Q (.ref t) s) : wpAny (model P w) A (getItem (.ref t) (.ref sl)) Q E s := by
  obtain ⟨os, hos, hcs, hds⟩ := id hs
  have hTs : s.TypeIs (.ref sl) "slice" := ⟨os, hos, hcs⟩
  unfold getItem
  try with_reducible refine wpAny_holding ?_
  first | refine wpAny_bind (wpAny_pure ?_) | skip
  refine wpAny_bind (wpAny_sequenceKey ht.typeIs (by decide) ?_)
  refine wpAny_bind (wpAny_callSpecial?_slot (name := Str.ofString "__getitem__") ht.typeIs PyProof.Rows.slot_tuple_getitem (wpAny_call_entry PyProof.Rows.slot_tuple_getitem ht.typeIs entry_tuple_getitem ?_ (args_tuple_getitem _ _)))
  show wpAny _ _ (Builtin.Tuple.tupleItemsOf (.ref t) >>= _) _ _ s
  refine wpAny_bind (tupleItemsOf_ ht ?_)
  refine wpAny_bind (wpAny_typeOf hTs ?_)
  rw [if_pos (by decide)]
  refine wpAny_bind (HT.sliceApplied_gen hs pl pu ?_)
  show wpAny _ _ (if (((HT.sIx items.size 0 lo : Nat) : Int) == 0 && (1 : Int) == 1 && (HT.sIx items.size items.size hi - HT.sIx items.size 0 lo) == items.size) = true then _ else _) _ _ s
  rw [if_pos (by rw [hw.1, hw.2]; simp)]
  refine wpAny_bind (m := Builtin.Tuple.tupleIsExact (.ref t)) ?_
  unfold Builtin.Tuple.tupleIsExact
  refine wpAny_bind (wpAny_typeOf ht.typeIs (wpAny_pure ?_))
  rw [if_pos (by decide)]
  first
    | exact wpAny_bind (wpAny_rule (wpAny_pure ⟨_, rfl, wpAny_pure h⟩))
    | exact wpAny_bind (wpAny_bind (wpAny_rule (wpAny_pure (wpAny_pure ⟨_, rfl, wpAny_pure h⟩))))
    | exact wpAny_bind (wpAny_rule (wpAny_bind (wpAny_pure (wpAny_pure ⟨_, rfl, wpAny_pure h⟩))))
/-- t[lo:hi] of a tuple that is tracked -/
def rSlTw : V → Option Int → Option Int → Hp → VK → Prop := fun x lo hi H Q => ∃ a xs, x = .ref a ∧ H a = some (.tup xs) ∧ ∀ p H', Same H H' → H' p = some (.tup (cutV xs lo hi)) → Q (.ref p) H'
theorem sl_tupW {X : Cx} : SlR X rSlTw := by
  intro pins s σ H x v vl vu lo hi sl Q I rx hs pl pu h
  obtain ⟨a, xs, rfl, hx, q⟩ := h
  by_cases hw : HT.sIx xs.length 0 lo = 0 ∧ HT.sIx xs.length xs.length hi = xs.length
  · cases rx
    obtain ⟨its, r, ht, hz⟩ := I.tuple (SqT.of hx)
    have hlen : its.toArray.size = xs.length := by rw [List.size_toArray]; exact r.length.symm
    refine ⟨"tuple", _, PyProof.Rows.slot_tuple_getitem.lookup, ht.typeIs, ?_⟩
    exact getItem_tup_all ht hs pl pu (by rw [hlen]; exact hw) ⟨.ref a, H, I, rfl, q a H (Same.refl H) (by rw [cutV_whole hw]; exact hx)⟩
  · exact sl_tup pins s σ H (.ref a) v vl vu lo hi sl Q I rx hs pl pu ⟨a, xs, rfl, SqT.of hx, hw, fun p hp => q p _ (same_of_new hp _) upd_same⟩
/-- t + u, both tracked -/
def rCatTw : R2 := fun x y H Q => ∃ a b xs ys, x = .ref a ∧ y = .ref b ∧ H a = some (.tup xs) ∧ H b = some (.tup ys) ∧ xs.length + ys.length ≤ sizeLine ∧ ∀ p H', Same H H' → H' p = some (.tup (xs ++ ys)) → Q (.ref p) H'
theorem op_catTw {X : Cx} : OpR X (binaryOp .Add) rCatTw := by
  intro pins s σ H x y v u Q I rx ry h
  obtain ⟨a, b, xs, ys, rfl, rfl, ha, hb, hz, q⟩ := h
  by_cases hx : xs = []
  · cases rx
    cases ry
    subst hx
    obtain ⟨its, r1, p1, _⟩ := I.tuple (SqT.of ha)
    obtain ⟨its2, r2, p2, _⟩ := I.tuple (SqT.of hb)
    obtain ⟨⟨cls, dd, data, sl⟩, ho, hc, n, hd⟩ := id p1
    obtain ⟨⟨cls2, dd2, data2, sl2⟩, ho2, hc2, n2, hd2⟩ := id p2
    simp only at hc hd hc2 hd2
    subst hc hd hc2 hd2
    obtain rfl := r1.zero
    exact concat_meets ⟨_, ho, rfl⟩ ⟨_, ho2, rfl⟩ noFill_tuple_add seq_tuple_add PySem.F.slot_tuple_add PySem.F.entry_tuple_add (PySem.F.args_tuple_add_2 _ _)
      (tuple_addW0 a b #[] its2.toArray n n2 dd dd2 sl sl2 rfl) ⟨ho, ho2, ⟨.ref b, H, I.tok _, rfl, q b H (Same.refl H) hb⟩⟩
  · exact op_catT pins s σ H (.ref a) (.ref b) v u Q I rx ry ⟨a, b, xs, ys, rfl, rfl, SqT.of ha, SqT.of hb, hx, hz, fun e => q a H (Same.refl H) (by rw [e, List.append_nil]; exact ha), fun _ p hp => q p _ (same_of_new hp _) upd_same⟩
end L2

set_option Elab.async false
set_option linter.all false
set_option maxRecDepth 100000
set_option maxHeartbeats 4000000
namespace L2
open PySem PySem.Spec PyProof.Rows

/-! ### t[::-1] -/
theorem fm_congr {α β : Type} {f g : α → Option β} : ∀ {l : List α}, (∀ x ∈ l, f x = g x) → l.filterMap f = l.filterMap g
  | [], _ => rfl
  | x :: r, h => by rw [List.filterMap_cons, List.filterMap_cons, h x List.mem_cons_self, fm_congr fun y hy => h y (List.mem_cons_of_mem _ hy)]
theorem rev_pick (xs : List Value) : ((List.range xs.length).filterMap fun (k : Nat) => xs.toArray[(((xs.length : Nat) : Int) - 1 + (k : Int) * (-1)).toNat]?).toArray = xs.reverse.toArray := by
  congr 1
  have e : ∀ k ∈ List.range xs.length, xs.toArray[(((xs.length : Nat) : Int) - 1 + (k : Int) * (-1)).toNat]? = xs.reverse[k]? := fun k hk => by
    have hk' := List.mem_range.mp hk
    have : (((xs.length : Nat) : Int) - 1 + (k : Int) * (-1)).toNat = xs.length - 1 - k := by omega
    rw [this, List.getElem?_toArray, List.getElem?_reverse hk']
  rw [fm_congr e]
  apply List.ext_getElem?
  intro i
  have key : ∀ (l : List Value), (List.range l.length).filterMap (fun k => l[k]?) = l := fun l => by
    have : (List.range l.length).filterMap (fun k => l[k]?) = (List.range l.length).map (fun k => l.getD k .none) := by
      rw [← List.filterMap_eq_map]
      refine fm_congr fun k hk => ?_
      have hk' := List.mem_range.mp hk
      rw [List.getElem?_eq_getElem hk', Function.comp, List.getD_eq_getElem?_getD, List.getElem?_eq_getElem hk']
      rfl
    rw [this]
    apply List.ext_getElem
    · simp
    · intro j h1 h2
      rw [List.getElem_map, List.getElem_range, List.getD_eq_getElem?_getD, List.getElem?_eq_getElem h2]
      rfl
  have k2 := key xs.reverse
  rw [List.length_reverse] at k2
  rw [k2]

theorem getItem_tup_rev {P : Program} {w : World} {A : Around} {E : Value → Shared → Prop} {s : Shared} {t sl : Addr} {its : List Value} {tk : Tok} {Q : Value → Shared → Prop} (ht : IsTup s.heap t its.toArray) (hs : s.heap.IsSliceOf sl .none .none (.int (-1) tk))
    (hsz : its.length ≤ sizeLine) (h : Q (.ref s.heap.objs.size) { s with heap := s.heap.push { cls := .type "tuple", data := .seq its.reverse.toArray } }) : wpAny (model P w) A (getItem (.ref t) (.ref sl)) Q E s := by
  obtain ⟨os, hos, hcs, hds⟩ := id hs
  have hTs : s.TypeIs (.ref sl) "slice" := ⟨os, hos, hcs⟩
  have hfit : sizeOk (.seq its.reverse.toArray) := by
    show its.reverse.toArray.size ≤ sizeLine
    rw [List.size_toArray, List.length_reverse]
    exact hsz
  unfold getItem
  try with_reducible refine wpAny_holding ?_
  first | refine wpAny_bind (wpAny_pure ?_) | skip
  refine wpAny_bind (wpAny_sequenceKey ht.typeIs (by decide) ?_)
  refine wpAny_bind (wpAny_callSpecial?_slot (name := Str.ofString "__getitem__") ht.typeIs PyProof.Rows.slot_tuple_getitem (wpAny_call_entry PyProof.Rows.slot_tuple_getitem ht.typeIs entry_tuple_getitem ?_ (args_tuple_getitem _ _)))
  show wpAny _ _ (Builtin.Tuple.tupleItemsOf (.ref t) >>= _) _ _ s
  refine wpAny_bind (tupleItemsOf_ ht ?_)
  refine wpAny_bind (wpAny_typeOf hTs ?_)
  rw [if_pos (by decide)]
  refine wpAny_bind ?_
  unfold Builtin.Slice.sliceApplied Builtin.Slice.sliceFields
  refine wpAny_bind (wpAny_bind (wpAny_field hos hds (x := .none) rfl (wpAny_bind (wpAny_field hos hds (x := .none) rfl (wpAny_bind (wpAny_field hos hds (x := .int (-1) tk) rfl (wpAny_pure ?_)))))))
  refine wpAny_bind (slicePart_int ?_)
  show wpAny _ _ (if ((-1 : Int) == 0) = true then _ else _) _ _ s
  rw [if_neg (by decide)]
  refine wpAny_bind (slicePart_none (wpAny_bind (slicePart_none (wpAny_bind (wpAny_pure ?_)))))
  have adj : Builtin.Slice.sliceAdjust none none (-1) ((its.toArray.size : Nat) : Int) = (((its.length : Nat) : Int) - 1, -1) := by
    unfold Builtin.Slice.sliceAdjust
    simp
  have plc : Builtin.Slice.slicePlaces (((its.length : Nat) : Int) - 1) (-1) (-1) = its.length := by
    unfold Builtin.Slice.slicePlaces
    have h1 : ¬ ((-1 : Int) > 0) := by omega
    have h2 : - (-1 : Int) = 1 := by decide
    simp only [h1, if_false, h2, Int.ediv_one]
    split <;> omega
  show wpAny _ _ (match Builtin.Slice.sliceAdjust none none (-1) ((its.toArray.size : Nat) : Int) with | (lo, hi) => pure (lo, (-1 : Int), Builtin.Slice.slicePlaces lo hi (-1))) _ _ s
  rw [adj]
  show wpAny _ _ (pure (((its.length : Nat) : Int) - 1, (-1 : Int), Builtin.Slice.slicePlaces (((its.length : Nat) : Int) - 1) (-1) (-1))) _ _ s
  rw [plc]
  refine wpAny_pure ?_
  show wpAny _ _ (if ((((its.length : Nat) : Int) - 1) == 0 && (-1 : Int) == 1 && its.length == its.toArray.size) = true then _ else _) _ _ s
  rw [if_neg (by intro z; rw [Bool.and_eq_true, Bool.and_eq_true] at z; exact absurd z.1.2 (by decide)), rev_pick]
  first
    | exact wpAny_bind (m := Builtin.Tuple.tupleExact _) (wpAny_newObj_type (wpAny_pure ⟨_, rfl, wpAny_pure h⟩) hfit)
    | exact wpAny_bind (wpAny_bind (m := Builtin.Tuple.tupleExact _) (wpAny_newObj_type (wpAny_pure (wpAny_pure ⟨_, rfl, wpAny_pure h⟩)) hfit))
    | exact wpAny_bind (wpAny_bind (m := Builtin.Tuple.tupleExact _) (wpAny_newObj_type (wpAny_pure ⟨_, rfl, wpAny_pure h⟩) hfit))

def tRev (te ts : TE) : TE := fun σ H Q => te σ H fun x H1 => ts σ H1 fun y H2 => y = .int (-1) ∧ ∃ a xs, x = .ref a ∧ H2 a = some (.tup xs) ∧ ∀ p, H2 p = none → Q (.ref p) (upd H2 p (.tup xs.reverse))
theorem pe_rev {X : Cx} {e st : Expr} {te ts : TE} {p2 pos : Pos} (he : PE X e te) (hst : PE X st ts) : PE X (.Subscript e (.Slice none none (some st) p2) pos) (tRev te ts) := by
  intro pins s σ H Q I h
  refine Subscript_ (thn (he pins s σ H _ I h) fun v s1 ⟨x, H1, I1, r1, q1⟩ => ?_)
  refine wpAny_Slice ?_
  rw [evalPart_none]
  refine wpAny_pure (wpAny_pure ?_)
  rw [evalPart_some]
  refine thn (hst pins s1 σ H1 _ I1 q1) fun vs s2 ⟨y, H2, I2, ry, ey, a, xs, ex, hx, q2⟩ => ?_
  subst ey
  subst ex
  obtain ⟨tk, rfl⟩ := ry
  cases r1
  have I4 : Inv X pins σ H2 { s2 with heap := s2.heap.push { cls := .type "slice", data := .fields #[.none, .none, .int (-1) tk] } } := I2.kept (t' := s2.toks) fun b ob g => Heap.get?_push_of_some _ g
  obtain ⟨its, r, ht, hz⟩ := I4.tuple (SqT.of hx)
  have hlen := r.length
  show wpAny (model X.prog X.w) X.A (subscriptTail e (.Slice none none (some st) p2) (.ref a) (.ref s2.heap.objs.size)) (EP X pins σ Q) X.xe { s2 with heap := s2.heap.push { cls := .type "slice", data := .fields #[.none, .none, .int (-1) tk] } }
  refine tail_any (ops := [.ref a, .ref s2.heap.objs.size]) ht.typeIs PyProof.Rows.slot_tuple_getitem.lookup (getItem_tup_rev ht (Heap.IsSliceOf.new ..) (by omega) ?_) (by with_unfolding_all rfl)
  refine ⟨.ref _, _, I4.laid (t' := s2.toks) (o := .tup xs.reverse) (fun b ob g => Heap.get?_push_of_some _ g) (Nat.le_refl _) ⟨by rw [List.length_reverse]; exact hz, _, r.reverse, IsTup.new _ _⟩, rfl, ?_⟩
  exact q2 _ I4.fresh

/-! ### {} -/
theorem Inv.wide {X : Cx} {pins : List (Addr × Obj)} {σ : St} {H : Hp} {s : Shared} (I : Inv X pins σ H s) : sysModules < s.heap.objs.size := by
  have h : mainGlobals < s.heap.objs.size := (I.mod.glob.keeps I.bk).lt
  exact Nat.lt_trans (by decide) h
end L2

set_option Elab.async false
set_option linter.all false
set_option maxRecDepth 100000
set_option maxHeartbeats 4000000
namespace L2
open PySem PySem.Spec PyProof.Rows

/-! ### a table of the module: text keys, its things tuples of texts -/
/-- the dict at a: for each text what the table says -/
structure TabK (w : World) (K : PySem.W.Frag) (a : Addr) (tab : Str → Option (List Str)) : Prop where
  ex : ∃ (es : Array DictEntry) (n : Nat), K.lookup a = some ⟨.type "dict", none, .dict es n, #[]⟩ ∧ PySem.W.KeysLit w.params es.toList ∧
    ∀ x, match tab x with
      | some ks => ∃ b, findBy Value.isStrOf es x = some (.ref b) ∧ ∃ (o : Obj) (its : Array Value) (m : Nat), K.lookup b = some o ∧ o.cls = .type "tuple" ∧ o.data = .seq its m ∧ its.size ≤ sizeLine ∧ Vals (ks.map V.str) its.toList
      | none => findBy Value.isStrOf es x = none
  lo : (a == sysModules) = false

end L2

set_option Elab.async false
set_option linter.all false
set_option maxRecDepth 100000
set_option maxHeartbeats 4000000
/-! Defs of a text in short: where they stand, what they promise; heaps that grow beside one list. -/
namespace L2
open PySem PySem.Spec PyProof.Rows

/-! ### a def of the text: as it stands, as it promises -/
structure Src (K : PySem.W.Frag) (mg : Str → Option Value) (x : Str) (st : Stmt) (ps : List Str) : Prop where
  ex : ∃ (f : Addr) (fd : FuncData), Fun K x x st f fd ∧ mg x = some (.ref f) ∧ Binds K fd ps []
structure Def (P : Program) (w : World) (K : PySem.W.Frag) (mg : Str → Option Value) (base : Heap) (k : Nat) (x : Str) (ps : List Str) (sp : Sp) : Prop where
  ex : ∃ (f : Addr) (fd : FuncData), FnOk P w K mg base CX0 k f fd ps sp ∧ mg x = some (.ref f) ∧ PySem.W.keepIn K (.ref f) = true ∧ Binds K fd ps []
section
variable {P : Program} {w : World} {K : PySem.W.Frag} {mg : Str → Option Value} {base : Heap} {x : Str} {st : Stmt} {ps N : List Str} {k j : Nat} {sp sp' : Sp}
theorem Src.ok (S : Src K mg x st ps) (F : FnScope N ps (defScope st)) (len : ∀ vs H Q E, sp vs H Q E → vs.length = ps.length)
    (hbody : ∀ (f : Addr) (cdv : Value) (A : Around) (outer : List Env) (s : Shared) (H : Hp) (vs : List V) (Q : VK) (E : XK), Room k (A.deeper (envOfC x (defScope st) s.heap.objs.size f cdv)) → sp vs H Q E →
      ∃ t, PSs (cxOf CX0 P w K mg base N x (defScope st) f cdv A outer s H E).nox (defBody st) t ∧ t { nx := fun _ H' => Q .non H', rt := Q } (start N vs) H) : Def P w K mg base (k + 1) x ps sp := by
  obtain ⟨f, fd, F0, hm, hb⟩ := S.ex
  exact ⟨f, fd, F0.ok F len (hbody f), hm, F0.kp, hb⟩
theorem Def.mono (D : Def P w K mg base j x ps sp) (h : j ≤ k) : Def P w K mg base k x ps sp := by
  obtain ⟨f, fd, F, r⟩ := D.ex
  exact ⟨f, fd, F.mono h, r⟩
theorem Def.imp (D : Def P w K mg base k x ps sp) (h : ∀ vs H Q E, sp' vs H Q E → sp vs H Q E) : Def P w K mg base k x ps sp' := by
  obtain ⟨f, fd, F, r⟩ := D.ex
  exact ⟨f, fd, F.imp h, r⟩
/-- a promise that nobody can ask for -/
theorem Src.no (S : Src K mg x st ps) (h : ∀ vs H Q E, ¬ sp vs H Q E) : Def P w K mg base k x ps sp := by
  obtain ⟨f, fd, F0, hm, hb⟩ := S.ex
  exact ⟨f, fd, ⟨fun vs H Q E q => absurd q (h vs H Q E), fun A outer s H args us vs Q E _ _ _ _ q => absurd q (h vs H Q E)⟩, hm, F0.kp, hb⟩
end
/-! ### arguments without a star, seen at a glance -/
def plainE : Expr → Bool
  | .Starred _ _ => false
  | _ => true
theorem star_cons {e : Expr} {es : List Expr} {env : Env} (h : plainE e = true) : starEach (e :: es) env = (false, eval e env) :: starEach es env := by
  cases e <;> first | rfl | cases h
theorem star_all {env : Env} {pos : Pos} : ∀ {es : List Expr}, es.all plainE = true → (backTo pos (starEach es env)).any (·.1) = false
  | [], _ => rfl
  | e :: es, h => by
    rw [List.all_cons, Bool.and_eq_true] at h
    rw [star_cons h.1]
    have ih := star_all (env := env) (pos := pos) h.2
    show (false || (backTo pos (starEach es env)).any (·.1)) = false
    rw [ih]; rfl
theorem pac {X : Cx} {e : Expr} {es : List Expr} {te : TE} {t : TA} (ha : PE X e te) (hr : PA X es t) (h : plainE e = true := by rfl) : PA X (e :: es) (tCons te t) := pa_cons ha hr (star_cons h)
/-- written constants -/
def constV : Expr → Option V
  | .Constant (.str x) _ _ => some (.str x)
  | .Constant (.int i) _ _ => some (.int i)
  | .Constant (.bool b) _ _ => some (.bl b)
  | .Constant .none _ _ => some .non
  | _ => none
theorem pe_const {X : Cx} {e : Expr} {v : V} (h : constV e = some v) : PE X e (tC v) ∧ plainE e = true := by
  unfold constV at h
  split at h
  · cases h; exact ⟨pe_str, rfl⟩
  · cases h; exact ⟨pe_int, rfl⟩
  · cases h; exact ⟨pe_bl, rfl⟩
  · cases h; exact ⟨pe_non, rfl⟩
  · cases h
theorem pa_const {X : Cx} : ∀ {es : List Expr} (vs : List V), es.map constV = vs.map some → PA X es (fun _ H Q => Q vs H)
  | [], [], _ => pa_nil
  | [], _ :: _, h => by cases h
  | _ :: _, [], h => by cases h
  | e :: es, v :: vs, h => by
    rw [List.map_cons, List.map_cons] at h
    injection h with h1 h2
    obtain ⟨a, b⟩ := pe_const (X := X) h1
    exact pac a (pa_const vs h2) b
/-- a cut: what holds between two statements -/
def tCut (t u : TS) : TS := fun D σ H => ∃ M : St → Hp → Prop, t { D with nx := M } σ H ∧ ∀ σ' H', M σ' H' → u D σ' H'
theorem pss_cut {X : Cx} {st : Stmt} {rest : List Stmt} {t u : TS} (h1 : PS X st t) (h2 : PSs X rest u) : PSs X (st :: rest) (tCut t u) := by
  intro pins s σ H D I h
  obtain ⟨M, a, b⟩ := h
  refine wpAny_execs_cons (thn (h1 pins s σ H { D with nx := M } I a) fun f s1 q => ?_)
  cases f with
  | next =>
    obtain ⟨σ', H', I', q⟩ := q
    exact h2 pins s1 σ' H' D I' (b σ' H' q)
  | ret v => exact q
  | brk => exact q
  | cont => exact q
def tCutT (t : TT) : TT := fun σ H Q => ∃ M : Bool → Hp → Prop, t σ H M ∧ ∀ v H', M v H' → Q v H'
theorem pt_cut {X : Cx} {e : Expr} {t : TT} (h : PT X e t) : PT X e (tCutT t) := by
  intro pins s σ H Q I hq
  obtain ⟨M, a, b⟩ := hq
  exact thn (h pins s σ H M I a) fun u s1 ⟨H', I', q⟩ => ⟨H', I', b u H' q⟩

def tDef (sp : Sp) (t : TA) : TE := fun σ H Q => t σ H fun vs H1 => sp vs H1 Q E0
theorem pe_def {X : Cx} {k : Nat} {x : Str} {ps : List Str} {sp : Sp} {p pos : Pos} {e : Expr} {es : List Expr} {t : TA} (D : Def X.prog X.w X.K X.mg X.base k x ps sp) (hr : Room k X.A) (hg : Gl X x) (ha : PA X (e :: es) t)
    (hdb : (x == ("__debug__" : Str)) = false := by decide) (hpl : (e :: es).all plainE = true := by rfl) :
    PE X (.Call (.Name x p) (e :: es) [] pos) (tDef sp t) := by
  obtain ⟨f, fd, F, hm, hk, hb⟩ := D.ex
  intro pins s σ H Q I h
  have q := pe_call (p := p) (pos := pos) F hr hg hm hk hb .nil (pass0 (X := X)) ha hdb (star_cons (by rw [List.all_cons, Bool.and_eq_true] at hpl; exact hpl.1)) (star_all (by rw [List.all_cons, Bool.and_eq_true] at hpl; exact hpl.2)) pins s σ H Q I
  refine q ?_
  have e2 : tCall sp [] E0 t = tDef sp t := by
    funext σ H Q
    unfold tCall tDef
    simp only [List.append_nil]
  rw [e2]
  exact h

theorem pe_cB {X : Cx} {x : Str} {p pos : Pos} {e : Expr} {es : List Expr} {t : TA} {id : String} {r : List V → Hp → VK → Prop} (hc : CallR X (.builtin id) r) (hg : Gl X x) (hm : X.mg x = none) (hv : bootBuiltins x = some (.builtin id)) (ha : PA X (e :: es) t)
    (hn : x ≠ "__name__" := by decide) (hdb : (x == ("__debug__" : Str)) = false := by decide) (hpl : (e :: es).all plainE = true := by rfl) : PE X (.Call (.Name x p) (e :: es) [] pos) (tCB r t) :=
  pe_callB hc hg hm hv ha hn hdb (star_cons (by rw [List.all_cons, Bool.and_eq_true] at hpl; exact hpl.1)) (star_all (by rw [List.all_cons, Bool.and_eq_true] at hpl; exact hpl.2))
theorem pe_cT {X : Cx} {x : Str} {p pos : Pos} {e : Expr} {es : List Expr} {t : TA} {id : String} {r : List V → Hp → VK → Prop} (hc : CallR X (.type id) r) (hg : Gl X x) (hm : X.mg x = none) (hv : bootBuiltins x = some (.type id)) (ha : PA X (e :: es) t)
    (hn : x ≠ "__name__" := by decide) (hdb : (x == ("__debug__" : Str)) = false := by decide) (hpl : (e :: es).all plainE = true := by rfl) : PE X (.Call (.Name x p) (e :: es) [] pos) (tCB r t) :=
  pe_callTy hc hg hm hv ha hn hdb (star_cons (by rw [List.all_cons, Bool.and_eq_true] at hpl; exact hpl.1)) (star_all (by rw [List.all_cons, Bool.and_eq_true] at hpl; exact hpl.2))

/-! ### comprehensions in short -/
/-- k own names, then the captured ones, by their slots around -/
def captS (k : Nat) (js : List Nat) (σ : St) : St := List.replicate k none ++ js.map fun j => (σ[j]?).join
theorem capt {X : Cx} {N' : List Str} {scope : Scope} (k : Nat) (js : List Nat) (hl : k + js.length = N'.length) (hn : js.map (fun j => X.N[j]?) = (N'.drop k).map some) (hf : ∀ x ∈ N'.drop k, (x, NameKind.free) ∈ scope.names) :
    ∀ σ : St, σ.length = X.N.length → Caught X N' scope σ (captS k js σ) := by
  intro σ _
  refine ⟨by unfold captS; rw [List.length_append, List.length_replicate, List.length_map]; exact hl, fun i x v h1 h2 => ?_⟩
  unfold captS at h2
  by_cases hi : i < k
  · rw [List.getElem?_append_left (by simpa using hi), List.getElem?_replicate, if_pos hi] at h2
    cases h2
  · rw [List.getElem?_append_right (by simpa using hi), List.length_replicate, List.getElem?_map] at h2
    cases hj : js[i - k]? with
    | none => rw [hj] at h2; cases h2
    | some j =>
      rw [hj] at h2
      have h3 : (σ[j]?).join = some v := by simpa using h2
      have e1 : (N'.drop k)[i - k]? = some x := by rw [List.getElem?_drop]; rw [show k + (i - k) = i by omega]; exact h1
      have e2 := congrArg (fun l => l[i - k]?) hn
      simp only [List.getElem?_map, hj, e1, Option.map_some] at e2
      refine ⟨hf x (List.mem_of_getElem? e1), j, Option.some.inj e2, ?_⟩
      cases hs : σ[j]? with
      | none => rw [hs] at h3; cases h3
      | some o =>
        rw [hs] at h3
        have : o = some v := h3
        rw [this]
theorem comp_scope {X : Cx} {N' : List Str} {scope : Scope} (sc : Scope) (hsc : X.env.scope = sc) (a : scope.kind = .function) (b : N'.Nodup) (c : ∀ y ∈ scope.names, y.2 ≠ .cell) (d : ∀ y ∈ scope.names, y.2 = .local → scope.names.lookup y.1 = some .local)
    (e : ∀ y ∈ scope.names, y.2 = .free → sc.names.lookup y.1 = some .cell)
    (f : ∀ y ∈ scope.names, y.2 = .free → (scope.names.map fun (n, k) => if (k == .free && sc.kind == .function && sc.names.lookup n == some .cell) then (n, NameKind.cell) else (n, k)).lookup y.1 ≠ some .local) : CompScope X N' scope := by
  subst hsc
  exact ⟨a, b, c, d, e, fun x hx => f (x, .free) hx rfl⟩

/-! ### the built-in names -/
theorem bt_len : bootBuiltins "len" = some (.builtin "len") := PySem.boot_len
theorem bt_isinstance : bootBuiltins "isinstance" = some (.builtin "isinstance") := by decide +kernel
theorem bt_list : bootBuiltins "list" = some (.type "list") := by decide +kernel
theorem bt_tuple : bootBuiltins "tuple" = some (.type "tuple") := by decide +kernel
theorem bt_str : bootBuiltins "str" = some (.type "str") := by decide +kernel
theorem bt_int : bootBuiltins "int" = some (.type "int") := by decide +kernel
theorem pe_ty {X : Cx} {x : Str} {n : String} {pos : Pos} (hm : X.mg x = none) (hv : bootBuiltins x = some (.type n)) (hg : Gl X x) (hn : x ≠ "__name__" := by decide) (hd : (x == ("__debug__" : Str)) = false := by decide) : PE X (.Name x pos) (tC (.ty n)) :=
  pe_bltn hg hm hv rfl hn hd

/-! ### a place of a list -/
theorem at_in {α : Type} {xs : List α} {k : Int} (h0 : 0 ≤ k) (h1 : k < (xs.length : Int)) : ∃ v, atI xs k = some v ∧ xs[k.toNat]? = some v := by
  have hk : k.toNat < xs.length := by omega
  have z : k = ((k.toNat : Nat) : Int) := by omega
  refine ⟨xs[k.toNat], ?_, List.getElem?_eq_getElem hk⟩
  have q := atI_nat (xs := xs) (j := k.toNat) (v := xs[k.toNat]) (List.getElem?_eq_getElem hk)
  rw [← z] at q
  exact q
theorem at_mem {α : Type} {xs : List α} {k : Int} (h0 : 0 ≤ k) (h1 : k < (xs.length : Int)) : ∃ v, atI xs k = some v ∧ v ∈ xs := by
  obtain ⟨v, a, b⟩ := at_in h0 h1
  exact ⟨v, a, List.mem_of_getElem? b⟩
/-- an item of a list of texts -/
theorem at_str {ns : List Str} {k : Int} (h0 : 0 ≤ k) (h1 : k < (ns.length : Int)) : ∃ x, atI (ns.map V.str) k = some (.str x) ∧ x ∈ ns := by
  obtain ⟨v, a, b⟩ := at_mem (xs := ns.map V.str) h0 (by rw [List.length_map]; exact h1)
  obtain ⟨x, hx, rfl⟩ := List.mem_map.mp b
  exact ⟨x, a, hx⟩

/-! ### heaps: all is kept but the list at p -/
def But (p : Addr) (H H' : Hp) : Prop := ∀ b o, b ≠ p → H b = some o → H' b = some o
/-- the list at p holds one number of the generator's -/
def Gen (p : Addr) (H : Hp) : Prop := ∃ n : Int, H p = some (.lst [.int n]) ∧ 0 ≤ n ∧ n < 2147483629
structure Ext (p : Addr) (H H' : Hp) : Prop where
  but : But p H H'
  gen : Gen p H'
theorem Ext.refl {p : Addr} {H : Hp} (g : Gen p H) : Ext p H H := ⟨fun _ _ _ h => h, g⟩
theorem Ext.trans {p : Addr} {H H1 H2 : Hp} (a : Ext p H H1) (b : Ext p H1 H2) : Ext p H H2 := ⟨fun c o hc h => b.but c o hc (a.but c o hc h), b.gen⟩
theorem Gen.same {p : Addr} {H H' : Hp} (g : Gen p H) (s : Same H H') : Gen p H' := let ⟨n, h, r⟩ := g; ⟨n, s _ _ h, r⟩
theorem Same.ext {p : Addr} {H H' : Hp} (g : Gen p H) (s : Same H H') : Ext p H H' := ⟨fun b o _ h => s b o h, g.same s⟩
theorem Ext.new {p q : Addr} {H : Hp} (g : Gen p H) (h : H q = none) (o : HO) : Ext p H (upd H q o) := Same.ext g (same_of_new h o)
theorem Gen.ne {p q : Addr} {H : Hp} (g : Gen p H) (h : H q = none) : q ≠ p := fun e => by
  obtain ⟨n, hp, _⟩ := g
  rw [← e, h] at hp; cases hp
theorem Ext.free {p q : Addr} {H H' : Hp} (e : Ext p H H') (h : H' q = none) : H q = none := by
  have hne := e.gen.ne h
  cases hq : H q with
  | none => rfl
  | some o => rw [e.but q o hne hq] at h; cases h
/-- a list of names is no generator's -/
theorem Gen.neS {p a : Addr} {H : Hp} {xs : List V} (g : Gen p H) (h : H a = some (.lst xs)) (hx : ∀ n : Int, xs ≠ [.int n]) : a ≠ p := by
  obtain ⟨n, hp, _⟩ := g
  exact ne_of h hp (by intro z; exact hx n (by injection z))
theorem strs_ne {ns : List Str} (n : Int) : ns.map V.str ≠ [.int n] := by
  cases ns with
  | nil => intro z; cases z
  | cons x r => intro z; simp at z
theorem Ext.lst {p a : Addr} {H H' : Hp} {ns : List Str} (g : Gen p H) (e : Ext p H H') (h : H a = some (.lst (ns.map V.str))) : H' a = some (.lst (ns.map V.str)) := e.but a _ (g.neS h strs_ne) h
theorem Ext.tup {p a : Addr} {H H' : Hp} {xs : List V} (g : Gen p H) (e : Ext p H H') (h : H a = some (.tup xs)) : H' a = some (.tup xs) := by
  obtain ⟨n, hp, _⟩ := g
  exact e.but a _ (ne_of h hp (by intro z; cases z)) h
end L2

set_option Elab.async false
set_option linter.all false
set_option maxRecDepth 100000
set_option maxHeartbeats 4000000
/-! Texts of small letters: what the two sides ask of a name. -/
namespace L2
open PySem PySem.Spec PyProof.Rows

def small (c : Nat) : Bool := decide (97 ≤ c) && decide (c ≤ 122)
/-- all signs are small letters -/
def Lt (x : Str) : Prop := ∀ c ∈ x.cps.toList, small c = true
/-- a name: one to six small letters -/
def nmS (x : Str) : Bool := decide (1 ≤ x.length ∧ x.length ≤ 6) && x.cps.toList.all small
theorem Lt.one {c : Nat} (h : small c = true) : Lt ⟨#[c]⟩ := fun d hd => by
  have : d = c := by simpa using hd
  rw [this]; exact h
theorem cps_append (x y : Str) : (x ++ y).cps = x.cps ++ y.cps := rfl
theorem len_append (x y : Str) : (x ++ y).length = x.length + y.length := by
  show (x.cps ++ y.cps).size = x.cps.size + y.cps.size
  simp
theorem Lt.append {x y : Str} (a : Lt x) (b : Lt y) : Lt (x ++ y) := fun c hc => by
  rw [cps_append] at hc
  simp at hc
  rcases hc with h | h
  · exact a c (by simpa using h)
  · exact b c (by simpa using h)
theorem nm_of {x : Str} (h : Lt x) (h1 : 1 ≤ x.length) (h2 : x.length ≤ 6) : nmS x = true := by
  unfold nmS
  rw [decide_eq_true ⟨h1, h2⟩, Bool.true_and, List.all_eq_true]
  exact h
abbrev abc : Str := "abcdefghijklmnopqrstuvwxyz"
theorem abc_list : abc.cps.toList = [97, 98, 99, 100, 101, 102, 103, 104, 105, 106, 107, 108, 109, 110, 111, 112, 113, 114, 115, 116, 117, 118, 119, 120, 121, 122] := by decide +kernel
theorem abc_len : abc.length = 26 := by decide +kernel
theorem abc_at {k : Int} (h0 : 0 ≤ k) (h1 : k < 26) : ∃ c, atI abc.cps.toList k = some c ∧ small c = true := by
  obtain ⟨c, a, b⟩ := at_mem (xs := abc.cps.toList) h0 (by rw [abc_list]; exact h1)
  refine ⟨c, a, ?_⟩
  rw [abc_list] at b
  have : ∀ d ∈ [97, 98, 99, 100, 101, 102, 103, 104, 105, 106, 107, 108, 109, 110, 111, 112, 113, 114, 115, 116, 117, 118, 119, 120, 121, 122], small d = true := by decide
  exact this c b
end L2

set_option Elab.async false
set_option linter.all false
set_option maxRecDepth 100000
set_option maxHeartbeats 4000000
/-! A comprehension read at once: what it walks stays, each turn gives a thing as told. -/
namespace L2
open PySem PySem.Spec PyProof.Rows

/-- heaps that may follow one another through a comprehension -/
structure Rel (H : Hp) (Rl : Hp → Prop) : Prop where
  here : Rl H
  put : ∀ H1 a o, H a = none → Rl H1 → Rl (upd H1 a o)
theorem Rel.same (H : Hp) : Rel H (Same H) := ⟨Same.refl H, fun H1 a o ha s b u hb => by rw [upd_ne (ne_of_none hb ha)]; exact s b u hb⟩
theorem Rel.ext {p : Addr} {H : Hp} (g : Gen p H) : Rel H (Ext p H) := ⟨Ext.refl g, fun H1 a o ha e => by
  have hap : p ≠ a := fun z => by obtain ⟨n, h, _⟩ := g; rw [z, ha] at h; cases h
  refine ⟨fun b u hb h => ?_, ?_⟩
  · rw [upd_ne (ne_of_none h ha)]; exact e.but b u hb h
  · obtain ⟨n, h, r⟩ := e.gen
    exact ⟨n, by rw [upd_ne hap]; exact h, r⟩⟩

theorem paired_app {α β : Type} {R : α → β → Prop} : ∀ {a b : List α} {c d : List β}, Paired R a c → Paired R b d → Paired R (a ++ b) (c ++ d)
  | _, _, _, _, .nil, s => s
  | _, _, _, _, .cons r t, s => .cons r (paired_app t s)
theorem walk_by {J : It} {te : TE} {cs σ0 : St} {H : Hp} {Qf : Addr → Hp → Prop} {Rl : Hp → Prop} (R : Rel H Rl) (items : List V) (Pv : V → V → Prop) (hz : items.length ≤ 10000)
    (hgo : ∀ i H2, Rl H2 → i < items.length → J.go i H2) (hstop : ∀ H2, Rl H2 → J.stop items.length H2) (hyld : ∀ i H2 x H3, Rl H2 → i < items.length → J.yld i H2 x H3 → H3 = H2 ∧ items[i]? = some x)
    (hσ : σ0 = none :: cs)
    (step : ∀ x acc ys H2 (k : VK), x ∈ items → H acc = none → H2 acc = some (.lst ys) → Rl H2 → (∀ y H3, Pv x y → Rl H3 → H3 acc = some (.lst ys) → k y H3) → te (some x :: cs) H2 k)
    (fin : ∀ acc ys H', H acc = none → Rl H' → H' acc = some (.lst ys) → Paired Pv items ys → Qf acc H') :
    ∀ acc, H acc = none → ∃ W : Nat → Nat → St → List V → Hp → Prop, (∃ m, W 0 m σ0 [] (upd H acc (.lst []))) ∧ ∀ i m σ2 ys H2, W i m σ2 ys H2 → H2 acc = some (.lst ys) ∧
    ((J.stop i H2 ∧ Qf acc H2) ∨ (J.go i H2 ∧ ys.length < sizeLine ∧ ∀ x H3, J.yld i H2 x H3 → gName 0 x σ2 H3 fun σ4 H4 => (fun (_ : St) (H : Hp) (Q : Bool → Hp → Prop) => Q true H) σ4 H4 fun b H5 =>
      if b = true then te σ4 H5 fun y H6 => H6 acc = some (.lst ys) ∧ ∃ m', m' < m ∧ W (i + 1) m' σ4 (ys ++ [y]) (upd H6 acc (.lst (ys ++ [y]))) else ∃ m', m' < m ∧ W (i + 1) m' σ4 ys H5)) := by
  intro acc hacc
  subst hσ
  refine ⟨fun i m σ2 ys H2 => m = items.length - i ∧ i ≤ items.length ∧ (∃ x0, σ2 = x0 :: cs) ∧ Paired Pv (items.take i) ys ∧ H2 acc = some (.lst ys) ∧ Rl H2,
    ⟨_, rfl, Nat.zero_le _, ⟨_, rfl⟩, (by rw [List.take_zero]; exact .nil), upd_same, R.put _ _ _ hacc R.here⟩, ?_⟩
  rintro i _ σ2 ys H2 ⟨rfl, hi, ⟨x0, rfl⟩, hp, ha, hr⟩
  refine ⟨ha, ?_⟩
  by_cases hlt : i < items.length
  · refine .inr ⟨hgo i H2 hr hlt, ?_, fun x H3 hy => ?_⟩
    · have := Paired.length hp
      rw [List.length_take] at this
      have : ys.length ≤ 10000 := by omega
      exact Nat.lt_of_le_of_lt this (by decide)
    obtain ⟨rfl, hx⟩ := hyld i H2 x H3 hr hlt hy
    refine step x acc ys H3 _ (List.mem_of_getElem? hx) hacc ha hr fun y H4 hv hr4 ha4 => ?_
    refine ⟨ha4, _, (by omega : items.length - (i + 1) < items.length - i), rfl, hlt, ⟨_, rfl⟩, ?_, upd_same, R.put _ _ _ hacc hr4⟩
    rw [List.take_add_one, hx]
    exact paired_app hp (.cons hv .nil)
  · obtain rfl : i = items.length := by omega
    rw [List.take_length] at hp
    exact .inl ⟨hstop H2 hr, fin acc ys H2 hacc hr ha hp⟩
theorem paired_map {f : V → V} : ∀ {xs ys : List V}, Paired (fun x y => y = f x) xs ys → ys = xs.map f
  | _, _, .nil => rfl
  | _, _, .cons e t => by rw [List.map_cons, ← paired_map t, e]
/-- over a tuple, all that was is kept, each turn told by a function -/
theorem walk_tup {K : PySem.W.Frag} {a : Addr} {xs : List V} {te : TE} {cs σ0 : St} {H : Hp} {Qf : Addr → Hp → Prop} (f : V → V) (ha : H a = some (.tup xs)) (hz : xs.length ≤ 10000) (hσ : σ0 = none :: cs)
    (step : ∀ x H2 (k : VK), x ∈ xs → Same H H2 → (∀ H3, Same H2 H3 → k (f x) H3) → te (some x :: cs) H2 k)
    (fin : ∀ acc H', H acc = none → Same H H' → H' acc = some (.lst (xs.map f)) → Qf acc H') :
    ∀ acc, H acc = none → ∃ W : Nat → Nat → St → List V → Hp → Prop, (∃ m, W 0 m σ0 [] (upd H acc (.lst []))) ∧ ∀ i m σ2 ys H2, W i m σ2 ys H2 → H2 acc = some (.lst ys) ∧
    (((Itt K a).stop i H2 ∧ Qf acc H2) ∨ ((Itt K a).go i H2 ∧ ys.length < sizeLine ∧ ∀ x H3, (Itt K a).yld i H2 x H3 → gName 0 x σ2 H3 fun σ4 H4 => (fun (_ : St) (H : Hp) (Q : Bool → Hp → Prop) => Q true H) σ4 H4 fun b H5 =>
      if b = true then te σ4 H5 fun y H6 => H6 acc = some (.lst ys) ∧ ∃ m', m' < m ∧ W (i + 1) m' σ4 (ys ++ [y]) (upd H6 acc (.lst (ys ++ [y]))) else ∃ m', m' < m ∧ W (i + 1) m' σ4 ys H5)) :=
  walk_by (Rel.same H) xs (fun x y => y = f x) hz (fun i H2 s hi => ⟨xs, _, SqT.of (s _ _ ha), List.getElem?_eq_getElem hi⟩) (fun H2 s => ⟨xs, SqT.of (s _ _ ha), Nat.le_refl _⟩)
    (fun i H2 x H3 s _ y => ⟨y.1, y.2 xs (SqT.of (s _ _ ha))⟩) hσ (fun x acc ys H2 k hx hn hl s hk => step x H2 k hx s fun H3 s3 => hk _ _ rfl (s.trans s3) (s3 _ _ hl))
    fun acc ys H' hn s hl hp => fin acc H' hn s (by rw [← paired_map hp]; exact hl)
end L2

set_option Elab.async false
set_option linter.all false
set_option maxRecDepth 100000
set_option maxHeartbeats 4000000
/-! A comprehension over pairs; one within another. -/
namespace L2
open PySem PySem.Spec PyProof.Rows
theorem comp_scope0 {X : Cx} {N' : List Str} {scope : Scope} (a : scope.kind = .function) (b : N'.Nodup) (c : ∀ y ∈ scope.names, y.2 ≠ .cell) (d : ∀ y ∈ scope.names, y.2 = .local → scope.names.lookup y.1 = some .local) (e : ∀ y ∈ scope.names, y.2 ≠ .free) : CompScope X N' scope :=
  ⟨a, b, c, d, fun y hy z => absurd z (e y hy), fun x hx => absurd rfl (e (x, .free) hx)⟩
theorem walk_pairs {K : PySem.W.Frag} {n : Nat} {J : It} {te : TE} {cs σ0 : St} {H : Hp} {Qf : Addr → Hp → Prop} {Rl : Hp → Prop} (R : Rel H Rl) (items : List V) (Pv : V → V → Prop) (hz : items.length ≤ 10000)
    (hgo : ∀ i H2, Rl H2 → i < items.length → J.go i H2) (hstop : ∀ H2, Rl H2 → J.stop items.length H2) (hyld : ∀ i H2 x H3, Rl H2 → i < items.length → J.yld i H2 x H3 → H3 = H2 ∧ items[i]? = some x)
    (hn : n = 2) (hσ : σ0 = none :: none :: cs) (hpair : ∀ v ∈ items, ∃ t x y, v = .ref t ∧ ∀ H2, Rl H2 → H2 t = some (.tup [x, y]))
    (step : ∀ t x y acc ys H2 (k : VK), .ref t ∈ items → H2 t = some (.tup [x, y]) → H acc = none → H2 acc = some (.lst ys) → Rl H2 → (∀ z H3, Pv (.ref t) z → Rl H3 → H3 acc = some (.lst ys) → k z H3) → te (some x :: some y :: cs) H2 k)
    (fin : ∀ acc ys H', H acc = none → Rl H' → H' acc = some (.lst ys) → Paired Pv items ys → Qf acc H') :
    ∀ acc, H acc = none → ∃ W : Nat → Nat → St → List V → Hp → Prop, (∃ m, W 0 m σ0 [] (upd H acc (.lst []))) ∧ ∀ i m σ2 ys H2, W i m σ2 ys H2 → H2 acc = some (.lst ys) ∧
    ((J.stop i H2 ∧ Qf acc H2) ∨ (J.go i H2 ∧ ys.length < sizeLine ∧ ∀ x H3, J.yld i H2 x H3 → gTup K n (gCons (gName 0) (gCons (gName 1) gNil)) x σ2 H3 fun σ4 H4 => (fun (_ : St) (H : Hp) (Q : Bool → Hp → Prop) => Q true H) σ4 H4 fun b H5 =>
      if b = true then te σ4 H5 fun y H6 => H6 acc = some (.lst ys) ∧ ∃ m', m' < m ∧ W (i + 1) m' σ4 (ys ++ [y]) (upd H6 acc (.lst (ys ++ [y]))) else ∃ m', m' < m ∧ W (i + 1) m' σ4 ys H5)) := by
  intro acc hacc
  subst hσ
  subst hn
  refine ⟨fun i m σ2 ys H2 => m = items.length - i ∧ i ≤ items.length ∧ (∃ x0 x1, σ2 = x0 :: x1 :: cs) ∧ Paired Pv (items.take i) ys ∧ H2 acc = some (.lst ys) ∧ Rl H2,
    ⟨_, rfl, Nat.zero_le _, ⟨_, _, rfl⟩, (by rw [List.take_zero]; exact .nil), upd_same, R.put _ _ _ hacc R.here⟩, ?_⟩
  rintro i _ σ2 ys H2 ⟨rfl, hi, ⟨x0, x1, rfl⟩, hp, ha, hr⟩
  refine ⟨ha, ?_⟩
  by_cases hlt : i < items.length
  · refine .inr ⟨hgo i H2 hr hlt, ?_, fun x H3 hy => ?_⟩
    · have := Paired.length hp
      rw [List.length_take] at this
      have : ys.length ≤ 10000 := by omega
      exact Nat.lt_of_le_of_lt this (by decide)
    obtain ⟨rfl, hx⟩ := hyld i H2 x H3 hr hlt hy
    obtain ⟨t, y1, y2, rfl, ht⟩ := hpair x (List.mem_of_getElem? hx)
    refine ⟨t, _, rfl, SqT.of (ht _ hr), rfl, _, _, rfl, _, _, rfl, rfl, ?_⟩
    refine step t y1 y2 acc ys H3 _ (List.mem_of_getElem? hx) (ht _ hr) hacc ha hr fun y H4 hv hr4 ha4 => ?_
    refine ⟨ha4, _, (by omega : items.length - (i + 1) < items.length - i), rfl, hlt, ⟨_, _, rfl⟩, ?_, upd_same, R.put _ _ _ hacc hr4⟩
    rw [List.take_add_one, hx]
    exact paired_app hp (.cons hv .nil)
  · obtain rfl : i = items.length := by omega
    rw [List.take_length] at hp
    exact .inl ⟨hstop H2 hr, fin acc ys H2 hacc hr ha hp⟩
end L2

set_option Elab.async false
set_option linter.all false
set_option maxRecDepth 100000
set_option maxHeartbeats 4000000
/-! TABLE[x] of a table of the module; for over zip; a walk over one of two kinds. -/
namespace L2
open PySem PySem.Spec PyProof.Rows
open PySem.AutoSeq1 in
theorem extend_tupG (l : Addr) (items : Array Value) (n : Nat) (b : Addr) (items2 : Array Value) (n2 : Nat) (od : Option Addr) (osl : Array (Option Value)) (hs0 : ¬ (!items.isEmpty && Builtin.List.listTooLong (items.size + items2.size)) = true) (hs1 : items.size ≤ sizeLine) (hs2 : items.size + items2.size ≤ sizeLine + 1) :
    Meets (Builtin.«list.extend» ⟨[.ref l, .ref b], []⟩) (fun _ R s => s.heap.get? l = some { cls := .type "list", data := .seq items n } ∧ s.heap.get? b = some ⟨.type "tuple", od, .seq items2 n2, osl⟩ ∧
      R (.ok (.ret Value.none)) { s with heap := s.heap.update l (Obj.mapSeq fun x => x ++ items2), toks := s.toks }) :=
  .of_wp fun prog w A R s h => by
    obtain ⟨hp, g, d, tk, os⟩ := s
    obtain ⟨hl, hb, h⟩ := h
    have f1 := idx_int
    have f2 := PySem.AutoSeq1.sub_tuple_tuple
    have f3 := PySem.AutoSeq1.sub_list_list
    have f4 := PySem.AutoSeq1.sub_tuple_list
    have f5 := PySem.AutoSeq1.sub_list_tuple
    have hz' : (items ++ items2).size ≤ sizeLine + 1 := by rw [Array.size_append]; exact hs2
    wp_walk using (wpAny_updateSeq hl rfl (hz := hs1) (_hz' := hz')), wpAny_loadPart' hl, wpAny_loadPart' hb
    exact ⟨_, rfl, h⟩
/-- xs.extend(t) of a tuple -/
def rExtendT : V → List V → Hp → VK → Prop := fun x vs H Q => ∃ l b xs zs, x = .ref l ∧ vs = [.ref b] ∧ H l = some (.lst xs) ∧ H b = some (.tup zs) ∧ xs.length + zs.length ≤ sizeLine ∧ Q .non (upd H l (.lst (xs ++ zs)))
theorem mt_extendT {X : Cx} : MtM X "list.extend" rExtendT := by
  intro pins s σ H x vs v us Q I rx rv h
  obtain ⟨l, b, xs, zs, rfl, rfl, hH, hB, hz, q⟩ := h
  cases rx
  obtain ⟨u, rfl, ru⟩ := rv.one
  cases ru
  obtain ⟨z, its, n, r, hl, e⟩ := I.lstM hH
  obtain ⟨_, its2, r2, ⟨⟨oc, od, odt, osl⟩, e2, hc2, n2, hd2⟩⟩ := I.hok b _ hB
  have l1 := r.length
  have l2 := r2.length
  have hsz : its.toArray.size + its2.toArray.size ≤ sizeLine := by rw [List.size_toArray, List.size_toArray]; omega
  have hlong : ¬ (!its.toArray.isEmpty && Builtin.List.listTooLong (its.toArray.size + its2.toArray.size)) = true := by
    rw [notLongL hsz, Bool.and_false]
    exact Bool.false_ne_true
  obtain rfl : oc = Value.type "tuple" := hc2
  obtain rfl : odt = Data.seq its2.toArray n2 := hd2
  refine call_meets PySem.F.slot_list_extend ⟨_, e, rfl⟩ PySem.F.entry_list_extend (PySem.F.args_list_extend_2 _ _)
    (extend_tupG l its.toArray n b its2.toArray n2 od osl hlong (by rw [List.size_toArray]; omega) (by omega)) ⟨e, e2, ?_⟩
  refine ⟨.non, _, I.lset (its' := its ++ its2) hH e (by simp) (r.append r2) ?_, rfl, q⟩
  rw [List.length_append]
  omega
end L2

set_option Elab.async false
set_option linter.all false
set_option maxRecDepth 100000
set_option maxHeartbeats 4000000
/-! A module's table of tuples that have no dict of their own: their methods may be called. -/
namespace L2
open PySem PySem.Spec PyProof.Rows
def TupN (K : PySem.W.Frag) (b : Addr) (ks : List Str) : Prop := ∃ (o : Obj) (its : Array Value) (m : Nat), K.lookup b = some o ∧ o.cls = .type "tuple" ∧ o.dict = none ∧ o.data = .seq its m ∧ its.size ≤ sizeLine ∧ Vals (ks.map V.str) its.toList
structure TabN (w : World) (K : PySem.W.Frag) (a : Addr) (tab : Str → Option (List Str)) : Prop where
  ex : ∃ (es : Array DictEntry) (n : Nat), K.lookup a = some ⟨.type "dict", none, .dict es n, #[]⟩ ∧ PySem.W.KeysLit w.params es.toList ∧
    ∀ x, match tab x with
      | some ks => ∃ b, findBy Value.isStrOf es x = some (.ref b) ∧ TupN K b ks
      | none => findBy Value.isStrOf es x = none
  lo : (a == sysModules) = false
theorem TupN.sq {K : PySem.W.Frag} {b : Addr} {ks : List Str} (h : TupN K b ks) {H : Hp} : SqT K H b (ks.map V.str) := let ⟨o, its, m, a, b, _, c, d, e⟩ := h; .inr ⟨o, its, m, a, b, c, d, e⟩
theorem TupN.ty {K : PySem.W.Frag} {b : Addr} {ks : List Str} (h : TupN K b ks) {H : Hp} : tyV K "tuple" (.ref b) H := let ⟨o, its, m, a, b, n, _⟩ := h; .inr (.inl ⟨rfl, o, a, b, n⟩)
def rTabN (K : PySem.W.Frag) (a : Addr) (tab : Str → Option (List Str)) : R2 := fun x y H Q => x = .ref a ∧ ∃ k ks, y = .str k ∧ tab k = some ks ∧ ∀ b, TupN K b ks → Q (.ref b) H
theorem ix_tabN {X : Cx} {a : Addr} {tab : Str → Option (List Str)} (T : TabN X.w X.K a tab) : IxR X (rTabN X.K a tab) := by
  intro value slice pins s σ H x y v u Q I rx ry h hs
  obtain ⟨rfl, k, ks, rfl, hk, q⟩ := h
  cases rx
  obtain ⟨t, rfl⟩ := ry
  obtain ⟨es, m, lk, keys, look⟩ := T.ex
  have hm := PySem.W.mapOf_K (prog := X.prog) (w := X.w) I.kIn lk keys
  have lx := look k
  rw [hk] at lx
  obtain ⟨b, fb, hb⟩ := lx
  exact subscriptTail_builtinR hm.typeIs PySem.F.slot_dict_getitem.lookup (wpAny_getItem_of (knd := strKind X.prog X.w) (strKind_is X.prog X.w k t) hm fb ⟨rfl, ⟨.ref b, H, I.tok _, rfl, q b hb⟩⟩) hs
end L2

set_option Elab.async false
set_option linter.all false
set_option maxRecDepth 100000
set_option maxHeartbeats 4000000
/-! join, str of a text, a text or another thing, index of a tuple. -/
namespace L2
open PySem PySem.Spec PyProof.Rows PySem.SeqAt PySem.MeetsSeq PySem.Builtin PySem.Builtin.Tuple
theorem strsAre_of : ∀ {ys : List Str} {us : List Value}, Vals (ys.map V.str) us → PyProof.Rows.StrsAre us ys
  | [], _, .nil => .nil
  | y :: ys, _, .cons r rs => by
    obtain ⟨t, rfl⟩ := r
    exact .cons y t (strsAre_of rs)
/-- z.join(list of texts) -/
theorem mt_join {X : Cx} : MtR X "str.join" (fun x xs H Q => ∃ (z : Str) (l : Addr) (ys : List Str), x = .str z ∧ xs = [.ref l] ∧ H l = some (.lst (ys.map V.str)) ∧ (ys.map (·.length)).sum + ys.length * z.length ≤ 16777216 ∧ Q (.str (Txt.join z ys)) H) := by
  intro pins s σ H x xs v us Q I rx r h
  obtain ⟨z, l, ys, rfl, rfl, hl, hok, q⟩ := h
  obtain ⟨t, rfl⟩ := rx
  obtain ⟨u, rfl, ru⟩ := r.one
  cases ru
  obtain ⟨its, rv, pl, _⟩ := I.list (SqL.of (K := X.K) hl)
  exact PyProof.Rows.join_list pl.isList (strsAre_of rv) hok (fun t' k => ⟨.str _, H, I.tok k, ⟨_, rfl⟩, q⟩)
theorem call_str_str {X : Cx} : CallR X (.type "str") (fun xs H Q => ∃ z, xs = [.str z] ∧ Q (.str z) H) := by
  intro pins s σ H xs us Q I r h
  obtain ⟨z, rfl, q⟩ := h
  obtain ⟨u, rfl, t, rfl⟩ := vals1 r
  exact PySem.P.str_of_str ⟨.str _, H, I, ⟨_, rfl⟩, q⟩
/-- str of a number or a text -/
theorem call_str_any {X : Cx} : CallR X (.type "str") (fun xs H Q => (∃ z, xs = [.str z] ∧ Q (.str z) H) ∨ ∃ i, xs = [.int i] ∧ i.natAbs.log2 < 1920 ∧ Q (.str (toString i)) H) := by
  intro pins s σ H xs us Q I r h
  rcases h with h | h
  · exact call_str_str pins s σ H xs us Q I r h
  · exact call_str_int pins s σ H xs us Q I r h
/-- a or b, of a text -/
def tOrS (ta tb : TE) : TE := fun σ H Q => ta σ H fun x H1 => ∃ z : Str, x = .str z ∧ z.length ≤ sizeLine ∧ if z.length = 0 then tb σ H1 Q else Q (.str z) H1
theorem pe_orS {X : Cx} {a b : Expr} {rest : List Expr} {ta tb : TE} {pos : Pos} (ha : PE X a ta) (hb : PE X (.BoolOp .Or (b :: rest) pos) tb) : PE X (.BoolOp .Or (a :: b :: rest) pos) (tOrS ta tb) := by
  intro pins s σ H Q I h
  have hs : sizeLine = 16777216 := sizeLine_eq
  refine BoolOp_or (thn (ha pins s σ H _ I h) fun v s1 ⟨x, H1, I1, r1, q1⟩ => ?_)
  obtain ⟨z, rfl, hz, q1⟩ := q1
  obtain ⟨t, rfl⟩ := r1
  refine PySem.P.truthy_str (by omega) ?_
  by_cases c : z.length = 0
  · rw [if_pos c] at q1
    rw [show ((z.length : Int) != 0) = false by rw [c]; rfl]
    exact hb pins _ σ H1 Q (I1.tok _) q1
  · rw [if_neg c] at q1
    rw [show ((z.length : Int) != 0) = true by simp; exact c]
    exact ⟨.str z, H1, I1.tok _, ⟨_, rfl⟩, q1⟩
theorem op_neT0 {X : Cx} (hu : X.A.units < cLine) : OpR X (compareOp .NotEq) (fun x y H Q => ∃ a b xs, x = .ref a ∧ y = .ref b ∧ SqT X.K H a xs ∧ SqT X.K H b [] ∧ Q (.bl (!xs.isEmpty)) H) := by
  intro pins s σ H x y v u Q I rx ry h
  obtain ⟨a, b, xs, rfl, rfl, ha, hb, q⟩ := h
  cases rx
  cases ry
  obtain ⟨its, r1, p1, _⟩ := I.tuple ha
  obtain ⟨its2, r2, p2, _⟩ := I.tuple hb
  obtain rfl := r2.zero
  have l1 := r1.length
  refine RcNeAt.tuples (A := X.A) (s := s) (e := fun _ => true) (show s.heap.IsTuple a its.toArray from p1) (show s.heap.IsTuple b ([] : List Value).toArray from p2) hu (fun j h1 h2 => absurd h2 (by simp)) X.prog X.w _ _ ⟨.bl (!xs.isEmpty), H, I, ?_, q⟩
  show Value.bool _ = Value.bool _
  congr 2
  cases xs with
  | nil => obtain rfl := r1.zero; rfl
  | cons c d => cases its with
    | nil => simp at l1
    | cons => simp
theorem tuple_index_eq (l : Addr) (x : Value) : Builtin.«tuple.index» ⟨[.ref l, x], []⟩ = (do
    let xs ← tupleItemsOf (.ref l)
    for i in [0:min xs.size xs.size] do
      if let some y := xs[i]? then
        if ← eqBool y x then return ← retInt i
    rule "tuple.index.not-found"
    raiseError "ValueError" "tuple.index(x): x not in tuple") := by
  unfold Builtin.«tuple.index»
  rfl
theorem tuple_index (l : Addr) (items : Array Value) (n : Nat) (dd : Option Addr) (sl : Array (Option Value)) (x : Value) (e : Value → Bool) (he : ∀ y, y ∈ items → MeetsSeq.EqGives y x (e y)) (j : Nat) (hj : j < items.size)
    (hit : e items[j] = true) (hno : ∀ m (hm : m < items.size), m < j → e items[m] = false) :
    Meets (Builtin.«tuple.index» ⟨[.ref l, x], []⟩)
      (fun _ R s => s.heap.get? l = some { cls := .type "tuple", dict := dd, data := .seq items n, slots := sl } ∧ R (.ok (.ret (.int j s.toks))) { s with toks := s.toks + 1 }) := by
  intro prog w A R s h
  obtain ⟨hl, h⟩ := h
  rw [tuple_index_eq]
  refine wpAny_bind (wpAny_tupleItemsOf hl rfl ?_)
  refine wpAny_bind ?_
  rw [Std.Legacy.Range.forIn_eq_forIn_range']
  refine wpAny_forIn_list _ (fun rest b s' => s' = s ∧ b.1 = none ∧ ∃ i, rest = List.range' i (items.size - i) ∧ i ≤ j) _ ?_ ?_ _ _ ⟨rfl, rfl, 0, by simp [Std.Legacy.Range.size], Nat.zero_le _⟩
  · rintro a rest b s' ⟨rfl, hb, i, hr, hij⟩
    have hlt : i < items.size := by omega
    rw [show items.size - i = (items.size - (i + 1)) + 1 by omega, List.range'_succ] at hr
    injection hr with h1 h2
    subst h1
    rw [Array.getElem?_eq_getElem hlt]
    refine wpAny_bind (he _ (Array.getElem_mem hlt) prog w _ _ _ _ ?_)
    by_cases c : a = j
    · subst c
      rw [hit]
      refine wpAny_bind ?_
      unfold retInt
      wp_walk
      exact h
    · rw [hno a hlt (by omega)]
      exact wpAny_pure ⟨rfl, rfl, a + 1, h2, by omega⟩
  · rintro b s' ⟨rfl, hb, i, hr, hij⟩
    exfalso
    have := congrArg List.length hr
    simp at this
    omega

def isS (z : Str) : Value → Bool
  | .str y _ => y == z
  | _ => false
/-- t.index(z), of texts -/
theorem mt_tindex {X : Cx} : MtR X "tuple.index" (fun x xs H Q => ∃ (l : Addr) (ys : List Str) (z : Str) (j : Nat), x = .ref l ∧ xs = [.str z] ∧ SqT X.K H l (ys.map V.str) ∧ ys[j]? = some z ∧ (∀ m, m < j → ys[m]? ≠ some z) ∧ Q (.int (j : Nat)) H) := by
  intro pins s σ H x xs v us Q I rx r h
  obtain ⟨l, ys, z, j, rfl, rfl, hl, hj, hno, q⟩ := h
  cases rx
  obtain ⟨u, rfl, t, rfl⟩ := vals1 r
  obtain ⟨its, rv, p1, _⟩ := I.tuple hl
  obtain ⟨⟨cls, dd, data, sl⟩, ho, hc, n, hd⟩ := p1
  simp only at hc hd
  subst hc hd
  have at_ : ∀ (ys : List Str) (its : List Value), Vals (ys.map V.str) its → ∀ (m : Nat) (y : Value), its[m]? = some y → ∃ y' t', ys[m]? = some y' ∧ y = .str y' t' := by
    intro ys
    induction ys with
    | nil => intro its r m y hy; cases r; simp at hy
    | cons a as ih =>
      intro its r m y hy
      cases r with
      | cons r1 r2 =>
        cases m with
        | zero =>
          obtain ⟨t', e⟩ := r1
          simp at hy
          exact ⟨a, t', rfl, by rw [← hy]; exact e⟩
        | succ m => exact ih _ r2 m y (by simpa using hy)
  obtain ⟨hjl, _⟩ := List.getElem?_eq_some_iff.mp hj
  have hlen : its.length = ys.length := by have := rv.length; simpa using this.symm
  refine call_meets PySem.F.slot_tuple_index ⟨_, ho, rfl⟩ PySem.F.entry_tuple_index (PySem.F.args_tuple_index_2 _ _) (tuple_index l its.toArray n dd sl (.str z t) (isS z) (fun y hy => ?_) j (by simpa [hlen] using hjl) ?_ (fun m hm hmj => ?_)) ⟨ho, ⟨.int _, H, I.tok _, ⟨_, rfl⟩, q⟩⟩
  · obtain ⟨m, hm, rfl⟩ := List.mem_iff_getElem.mp (by simpa using hy : y ∈ its)
    obtain ⟨y', t', _, e⟩ := at_ ys its rv m _ (List.getElem?_eq_getElem hm)
    rw [e]
    exact PyProof.Rows.eqGives_str y' z t' t
  · obtain ⟨y', t', e1, e2⟩ := at_ ys its rv j _ (List.getElem?_eq_getElem (by rw [hlen]; exact hjl))
    rw [hj] at e1
    injection e1 with e1
    subst e1
    show isS z its[j] = true
    rw [e2]
    show (z == z) = true
    exact beq_self_eq_true z
  · have hml : m < its.length := by simpa using hm
    obtain ⟨y', t', e1, e2⟩ := at_ ys its rv m _ (List.getElem?_eq_getElem hml)
    show isS z its[m] = false
    rw [e2]
    show (y' == z) = false
    exact beq_eq_false_iff_ne.mpr fun c => hno m hmj (by rw [e1, c])
end L2

set_option Elab.async false
set_option linter.all false
set_option maxRecDepth 100000
set_option maxHeartbeats 4000000
namespace L2
open PySem PySem.Spec PyProof.Rows PySem.SeqAt
def atK (kvs : List (Key × V)) (k : Str) : Option V := (kvs.find? fun kv => decide (kv.1 = .inr k)).map (·.2)
theorem kv_at (k : Str) : ∀ {kvs : List (Key × V)} {vs : List (Key × Value)}, KV kvs vs → (atK kvs k = none ∧ valueAt vs (.inr k : Key) = none) ∨ ∃ a b, atK kvs k = some a ∧ valueAt vs (.inr k : Key) = some b ∧ RelV a b := by
  intro kvs vs r
  induction r with
  | nil => exact .inl ⟨rfl, rfl⟩
  | @cons a b as bs h hs ih =>
    obtain ⟨ka, va⟩ := a
    obtain ⟨kb, vb⟩ := b
    obtain ⟨h1, h2⟩ := h
    simp only at h1 h2
    subst h1
    unfold atK valueAt at ih ⊢
    rw [List.find?_cons, List.find?_cons]
    by_cases c : ka = .inr k
    · subst c
      simp
      exact h2
    · have c2 : decide (ka = .inr k) = false := decide_eq_false c
      simp only [c2]
      exact ih
/-- d.get(k, e) of a text k -/
theorem mt_dgetD {X : Cx} : MtR X "dict.get" (fun x xs H Q => ∃ (p : Addr) (kvs : List (Key × V)) (k : Str) (d : V), x = .ref p ∧ xs = [.str k, d] ∧ H p = some (.dK kvs) ∧ Q ((atK kvs k).getD d) H) := by
  intro pins s σ H x xs v us Q I rx r h
  obtain ⟨p, kvs, k, d, rfl, rfl, hp, q⟩ := h
  cases rx
  obtain ⟨u, u2, rfl, ⟨t, rfl⟩, r2⟩ := r.two
  obtain ⟨hz, hS, vs, rk, m⟩ : kvs.length ≤ sizeLine ∧ (p == sysModules) = false ∧ ∃ vs, KV kvs vs ∧ s.heap.DictOf (mixKind X.prog X.w) p vs := I.hok p _ hp
  refine call_meetsIn PySem.F.slot_dict_get m.mapOf.typeIs PySem.F.entry_dict_get (PySem.F.args_dict_get_3 _ _ _) (meets_dict_get_default (mixKind X.prog X.w) p (mixKind_str X.prog X.w k t) hS u2) ⟨_, m.mapOf, ?_⟩
  refine ⟨_, H, I.tok _, ?_, q⟩
  rcases kv_at k rk with ⟨e1, e2⟩ | ⟨a, b, e1, e2, e3⟩
  · rw [e1, e2]; exact r2
  · rw [e1, e2]; exact e3
theorem pair_step {X : Cx} {x e : Expr} {t : TE} {k : Str} {pos : Pos} {rest : List (Sem Value × Sem Value)} {pins : List (Addr × Obj)} {s : Shared} {σ : St} {H : Hp} {Q : VK} {R : List (Value × Value) → Shared → Prop} (g : PE X x (tC (.str k))) (he : PE X e t) (I : Inv X pins σ H s) (h : t σ H Q)
    (q : ∀ s1 H1 v u tk, Inv X pins σ H1 s1 → RelV v u → Q v H1 → wpAny (model X.prog X.w) X.A (evalPairs rest) (fun vs s' => R ((.str k tk, u) :: vs) s') X.xe s1) :
    wpAny (model X.prog X.w) X.A (evalPairs ((eval x X.env, do let x ← eval e X.env; standAt pos; pure x) :: rest)) R X.xe s := by
  unfold evalPairs
  refine wpAny_bind (thn (g pins _ σ _ (fun v H' => v = .str k ∧ H' = H) I ⟨rfl, rfl⟩) fun v s1 z => ?_)
  obtain ⟨x', H', I1, r1, rfl, rfl⟩ := z
  obtain ⟨ta, rfl⟩ := r1
  refine wpAny_bind (wpAny_holding (wpAny_bind (thn (he pins _ σ _ _ I1 h) fun v s2 z => wpAny_bind (wpAny_standAt (wpAny_pure ?_)))))
  obtain ⟨y, H2, I2, r2, q2⟩ := z
  exact wpAny_bind (wpAny_holding (thn (q s2 H2 y v ta I2 r2 q2) fun vs s3 z => wpAny_pure z))
/-- a display of three pairs of texts -/
def tDict3 (k1 k2 k3 : Str) (t1 t2 t3 : TE) : TE := fun σ H Q => ∀ p, H p = none → t1 σ (upd H p (.dK [])) fun v1 H1 => t2 σ H1 fun v2 H2 => t3 σ H2 fun v3 H3 => H3 p = some (.dK []) ∧ Q (.ref p) (upd H3 p (.dK [(.inr k1, v1), (.inr k2, v2), (.inr k3, v3)]))
theorem pe_dict3 {X : Cx} {k1 k2 k3 : Str} {e1 e2 e3 x1 x2 x3 : Expr} {t1 t2 t3 : TE} {pos : Pos} (g1 : PE X x1 (tC (.str k1))) (g2 : PE X x2 (tC (.str k2))) (g3 : PE X x3 (tC (.str k3))) (h1 : PE X e1 t1) (h2 : PE X e2 t2) (h3 : PE X e3 t3)
    (d12 : k1 ≠ k2) (d13 : k1 ≠ k3) (d23 : k2 ≠ k3) : PE X (.Dict [some x1, some x2, some x3] [e1, e2, e3] pos) (tDict3 k1 k2 k3 t1 t2 t3) := by
  intro pins s σ H Q I h
  have l3 : (3 : Nat) ≤ sizeLine := by rw [sizeLine_eq]; decide
  have hS : (s.heap.objs.size == sysModules) = false := beq_eq_false_iff_ne.mpr (Ne.symm (Nat.ne_of_lt I.wide))
  have I0 := I.laid (a := s.heap.objs.size) (o := .dK []) (t' := s.toks) (h' := s.heap.push { cls := .type "dict", data := .dict #[] }) (fun _ _ g => Heap.get?_push_of_some _ g) (Nat.le_refl _)
    ⟨Nat.zero_le _, hS, [], .nil, Heap.DictOf.new s.heap⟩
  refine wpAny_Dict_pairs (knd := mixKind X.prog X.w) (pairs := [(eval x1 X.env, do let x ← eval e1 X.env; standAt pos; pure x), (eval x2 X.env, do let x ← eval e2 X.env; standAt pos; pure x), (eval x3 X.env, do let x ← eval e3 X.env; standAt pos; pure x)]) (by rfl) (by intro z; cases z) (by show 3 ≤ 15; decide) ?_
  have H0 := h s.heap.objs.size I.fresh
  generalize s.heap.objs.size = p at *
  refine pair_step g1 h1 I0 H0 fun s1 H1 v1 u1 ta I1 r1 q1 => ?_
  refine pair_step g2 h2 I1 q1 fun s2 H2 v2 u2 tb I2 r2 q2 => ?_
  refine pair_step g3 h3 I2 q2 fun s3 H3 v3 u3 tc I3 r3 q3 => ?_
  refine wpAny_pure ?_
  obtain ⟨hp, q⟩ := q3
  obtain ⟨_, _, vs, rk, m⟩ : ([] : List (Key × V)).length ≤ sizeLine ∧ (p == sysModules) = false ∧ ∃ vs, KV ([] : List (Key × V)) vs ∧ s3.heap.DictOf (mixKind X.prog X.w) p vs := I3.hok p _ hp
  cases rk
  refine ⟨[(.inr k1, u1), (.inr k2, u2), (.inr k3, u3)], ⟨mixKind_str _ _ _ _, rfl, mixKind_str _ _ _ _, rfl, mixKind_str _ _ _ _, rfl, trivial⟩, m, fun h' m' sb => ?_⟩
  have n12 : (Sum.inr k1 : Key) ≠ .inr k2 := fun z => d12 (by injection z)
  have n13 : (Sum.inr k1 : Key) ≠ .inr k3 := fun z => d13 (by injection z)
  have n23 : (Sum.inr k2 : Key) ≠ .inr k3 := fun z => d23 (by injection z)
  have em : merged [] [((.inr k1 : Key), u1), (.inr k2, u2), (.inr k3, u3)] = [(.inr k1, u1), (.inr k2, u2), (.inr k3, u3)] := by
    unfold merged
    simp only [List.foldl, PySem.stored, List.any, decide_eq_false n12, decide_eq_false n13, decide_eq_false n23, Bool.or_false, Bool.false_or, Bool.false_eq_true, if_false, List.nil_append, List.append_nil, List.cons_append]
  rw [em] at m'
  refine ⟨.ref p, _, I3.write (x := p) (e := p) (o := .dK [(.inr k1, v1), (.inr k2, v2), (.inr k3, v3)]) (by rw [hp]; trivial) (.inl rfl) (fun b u hb hu => ?_) ?_ ⟨l3, hS, _, .cons ⟨rfl, r1⟩ (.cons ⟨rfl, r2⟩ (.cons ⟨rfl, r3⟩ .nil)), m'⟩, rfl, q⟩
  · rw [sb.2 b hb]; exact hu
  · obtain ⟨o, es, ep, e, _⟩ := id m'
    exact ⟨o, e⟩
end L2

set_option Elab.async false
set_option linter.all false
set_option maxRecDepth 100000
set_option maxHeartbeats 4000000
namespace K10
open PySem L2
seal L2.PE L2.PS L2.PSs L2.PT L2.PW L2.PA L2.PG L2.PGs L2.PI L2.PO L2.PIfs L2.PC L2.OpR L2.CallR L2.IxR L2.SlR L2.PSet L2.UnR

def top (i : Nat) : Stmt := PySem.Challenge.pw_retrace_k10_written.main.body.getD i (.Pass ⟨0, 0, 0, 0⟩)

/-- what the rows' table says -/
def rforms (x : Str) : Option (List Str) :=
  if x = "set" then some ["box", "value"] else
  if x = "push" then some ["list", "value"] else
  if x = "pop" then some ["box", "list"] else
  if x = "put" then some ["list", "value", "value"] else
  if x = "ask" then some ["box", "door"] else
  if x = "tell" then some ["value"] else
  if x = "if" then some ["value", "rows", "rows"] else
  if x = "while" then some ["value", "rows"] else
  if x = "try" then some ["rows", "box", "rows"] else
  if x = "fail" then some ["value"] else
  if x = "call" then some ["box", "function", "values"] else
  if x = "return" then some ["value"] else none
/-- the text's own names -/
structure Txt (w : World) (K : PySem.W.Frag) (mg : Str → Option Value) : Prop where
  z_len : mg "len" = none
  z_isinstance : mg "isinstance" = none
  z_range : mg "range" = none
  z_list : mg "list" = none
  z_tuple : mg "tuple" = none
  z_str : mg "str" = none
  z_int : mg "int" = none
  z_bool : mg "bool" = none
  ahead : ∃ t, mg "AHEAD" = some (.str "  " t)
  tab : ∃ a, mg "ROW_FORMS" = some (.ref a) ∧ TabN w K a rforms

section
variable {P : Program} {w : World} {K : PySem.W.Frag} {mg : Str → Option Value} {base : Heap} (T : Txt w K mg)

/-! ### _law_next -/
theorem sc_next : FnScope ["_law_state_here", "_law_size", "_law_mixed"] ["_law_state_here", "_law_size"] (defScope (top 17)) := ⟨rfl, rfl, rfl, by decide +kernel, rfl, by decide +kernel, by decide +kernel⟩
def spNext : Sp := fun vs H Q _ => ∃ (p : Addr) (k : Int), vs = [.ref p, .int k] ∧ Gen p H ∧ 0 < k ∧ ∀ (r : Int) (H' : Hp), 0 ≤ r → r < k → Ext p H H' → Q (.int r) H'
theorem d_next (S : Src K mg "_law_next" (top 17) ["_law_state_here", "_law_size"]) : Def P w K mg base 1 "_law_next" ["_law_state_here", "_law_size"] spNext := by
  refine S.ok sc_next (fun vs H Q E h => ?_) (fun f cdv A outer s H vs Q E hr h => ?_)
  · obtain ⟨p, k, rfl, _⟩ := h; rfl
  obtain ⟨p, k, rfl, ⟨n, hp, h0, h1⟩, hk, q⟩ := h
  refine ⟨_, (pss_cons (ps_asg (pe_op op_mod (pe_op op_add (pe_op op_mul (pe_ix ix_list (pv 0) pe_int (fun _ _ => rfl)) pe_int) pe_int) pe_int) (pg_sub (pv 0) pe_int set_list)) (pss_cons (ps_set (i := 2) sc_next.nd rfl (Or.inl rfl) (pe_op op_mod (pe_op op_mul (pe_ix ix_list (pv 0) pe_int (fun _ _ => rfl)) (pe_ix ix_list (pv 0) pe_int (fun _ _ => rfl))) pe_int)) (pss_one (ps_ret (pe_op op_mod (pe_op op_fdiv (pv 2) pe_int) (pv 1)))))), ?_⟩
  have at0 : ∀ m : Int, atI [V.int m] 0 = some (.int m) := fun m => rfl
  refine ⟨_, rfl, p, _, 0, _, rfl, rfl, SqL.of hp, at0 n, n, 69621, rfl, rfl, .inr ⟨by decide, by decide⟩, _, _, rfl, rfl, _, _, rfl, rfl, (by show (0 : Int) < 2147483629; decide), ?_⟩
  refine ⟨_, rfl, p, _, 0, 0, rfl, rfl, hp, rfl, ?_⟩
  have hm := Int.emod_nonneg (n * 69621 + 11) (show (2147483629 : Int) ≠ 0 by decide)
  have hm2 := Int.emod_lt_of_pos (n * 69621 + 11) (show (0 : Int) < 2147483629 by decide)
  generalize hmm : (n * 69621 + 11) % 2147483629 = m at hm hm2
  refine ⟨_, rfl, p, _, 0, _, rfl, rfl, SqL.of upd_same, at0 _, ?_⟩
  refine ⟨_, rfl, p, _, 0, _, rfl, rfl, SqL.of upd_same, at0 _, m, m, by rw [← hmm], by rw [← hmm], .inl ⟨by omega, by omega⟩, _, _, rfl, rfl, (by show (0 : Int) < 2147483587; decide), ?_⟩
  have g : Ext p H (upd H p (.lst [.int m])) := ⟨fun b o hb h => by rw [upd_ne hb]; exact h, ⟨m, upd_same, hm, hm2⟩⟩
  refine ⟨_, rfl, _, 7, rfl, rfl, ⟨by decide, by decide⟩, _, rfl, _, _, rfl, rfl, hk, ?_⟩
  refine q _ _ (Int.emod_nonneg _ (by omega)) (Int.emod_lt_of_pos _ hk) ?_
  subst hmm
  exact g

/-! ### _law_cell_at, _law_state -/
theorem sc_cell_at : FnScope ["_law_script", "_law_k"] ["_law_script", "_law_k"] (defScope (top 15)) := ⟨rfl, rfl, rfl, by decide +kernel, rfl, by decide +kernel, by decide +kernel⟩
def spCell (K : PySem.W.Frag) : Sp := fun vs H Q _ => ∃ (a : Addr) (ns : List Int) (k : Int), vs = [.ref a, .int k] ∧ SqL K H a (ns.map V.int) ∧ 0 ≤ k ∧ ∀ i : Int, Q (.int i) H
theorem d_cell_at (T : Txt w K mg) (S : Src K mg "_law_cell_at" (top 15) ["_law_script", "_law_k"]) : Def P w K mg base 1 "_law_cell_at" ["_law_script", "_law_k"] (spCell K) := by
  refine S.ok sc_cell_at (fun vs H Q E h => ?_) (fun f cdv A outer s H vs Q E hr h => ?_)
  · obtain ⟨a, ns, k, rfl, _⟩ := h; rfl
  obtain ⟨a, ns, k, rfl, hS, hk, q⟩ := h
  refine ⟨_, (pss_cons (ps_if (pt_cmpR op_lt (pv 1) (pe_callB call_len_seq rfl T.z_len bt_len (pa_cons (pv 0) pa_nil)) (nomark _)) (pss_one (ps_ret (pe_ix ix_list (pv 0) (pv 1) (fun _ _ => rfl)))) pss_nil) (pss_one (ps_ret pe_int))), ?_⟩
  refine ⟨_, rfl, _, rfl, a, _, rfl, .inl hS, _, _, rfl, rfl, _, rfl, ?_⟩
  refine ite2 (fun c => ?_) (fun c => ?_)
  · have c' : k < (((ns.map V.int).length : Nat) : Int) := of_decide_eq_true c
    rw [List.length_map] at c'
    obtain ⟨v, e, hv⟩ := at_mem (xs := ns.map V.int) hk (by rw [List.length_map]; exact c')
    obtain ⟨i, _, rfl⟩ := List.mem_map.mp hv
    exact ⟨_, rfl, _, rfl, a, _, _, _, rfl, rfl, hS, e, q _⟩
  · exact q 0
theorem sc_state : FnScope ["_law_cell", "_law_k", "_law_drawn"] ["_law_cell", "_law_k"] (defScope (top 16)) := ⟨rfl, rfl, rfl, by decide +kernel, rfl, by decide +kernel, by decide +kernel⟩
def spState : Sp := fun vs H Q _ => ∃ (c k : Int), vs = [.int c, .int k] ∧ 0 ≤ k ∧ k < 100 ∧ ∀ (p : Addr) (n : Int), H p = none → 0 ≤ n → n < 2147483629 → Q (.ref p) (upd H p (.lst [.int n]))
theorem d_state (S : Src K mg "_law_state" (top 16) ["_law_cell", "_law_k"]) : Def P w K mg base 1 "_law_state" ["_law_cell", "_law_k"] spState := by
  refine S.ok sc_state (fun vs H Q E h => ?_) (fun f cdv A outer s H vs Q E hr h => ?_)
  · obtain ⟨c, k, rfl, _⟩ := h; rfl
  obtain ⟨c, k, rfl, h0, h1, q⟩ := h
  refine ⟨_, (pss_cons (ps_set (i := 2) sc_state.nd rfl (Or.inl rfl) (pe_op op_mod (pe_op op_mul (pe_op op_add (pe_op op_add (pv 0) (pe_op op_mul pe_int (pv 1))) pe_int) pe_int) pe_int)) (pss_one (ps_ret (pe_lst (pa_cons (pe_op op_mod (pe_op op_add (pe_op op_add (pe_op op_mul (pv 2) (pv 2)) (pe_op op_mul pe_int (pv 2))) (pv 1)) pe_int) pa_nil))))), ?_⟩
  refine ⟨_, rfl, _, rfl, 7919, k, rfl, rfl, .inl ⟨by decide, by decide⟩, _, _, rfl, rfl, _, _, rfl, rfl, _, 48271, rfl, rfl, .inr ⟨by decide, by decide⟩, _, _, rfl, rfl, (by show (0 : Int) < 2147483647; decide), ?_⟩
  have hm := Int.emod_nonneg ((c + 7919 * k + 1) * 48271) (show (2147483647 : Int) ≠ 0 by decide)
  have hm2 := Int.emod_lt_of_pos ((c + 7919 * k + 1) * 48271) (show (0 : Int) < 2147483647 by decide)
  generalize hmm : ((c + 7919 * k + 1) * 48271) % 2147483647 = m at hm hm2
  refine ⟨_, rfl, _, rfl, m, m, by rw [← hmm], by rw [← hmm], .inl ⟨by omega, by omega⟩, _, rfl, 7, m, rfl, by rw [← hmm], .inl ⟨by decide, by decide⟩, _, _, rfl, rfl, _, rfl, _, _, rfl, rfl, _, _, rfl, rfl, (by show (0 : Int) < 2147483629; decide), (by show 1 ≤ sizeLine; decide), fun p hp => ?_⟩
  exact q p _ hp (Int.emod_nonneg _ (by decide)) (Int.emod_lt_of_pos _ (by decide))
end
end K10

set_option Elab.async false
set_option linter.all false
set_option maxRecDepth 100000
set_option maxHeartbeats 4000000
namespace K10
open PySem L2
seal L2.PE L2.PS L2.PSs L2.PT L2.PW L2.PA L2.PG L2.PGs L2.PI L2.PO L2.PIfs L2.PC L2.OpR L2.CallR L2.IxR L2.SlR L2.PSet L2.UnR
section
variable {P : Program} {w : World} {K : PySem.W.Frag} {mg : Str → Option Value} {base : Heap}

/-! ### _law_names -/
theorem sc_names : FnScope ["_law_state_here", "_law_amount", "_law_letters", "_law_shift", "_law_found", "_law_k", "_law_name", "_law_turn", "_law_words"] ["_law_state_here", "_law_amount"] (defScope (top 18)) := ⟨rfl, rfl, rfl, by decide +kernel, rfl, by decide +kernel, by decide +kernel⟩
def spNames : Sp := fun vs H Q _ => ∃ (p : Addr) (m : Int), vs = [.ref p, .int m] ∧ Gen p H ∧ 0 ≤ m ∧ m ≤ 9 ∧ ∀ (a : Addr) (ns : List Str) (H' : Hp), Ext p H H' → H a = none → H' a = some (.lst (ns.map V.str)) → (ns.length : Int) = m → (∀ x ∈ ns, nmS x = true) → Q (.ref a) H'
def ws1 : List Str := ["box", "list", "def", "end", "else", "catch", "own", "set", "push", "while", "try"]
def ws2 : List Str := ["number", "size", "plus", "item", "not", "ask"]
theorem ws_nm : ∀ x ∈ ws1 ++ ws2, nmS x = true := by decide +kernel
/-- the five choices of how many signs more -/
theorem five {r : Int} (h0 : 0 ≤ r) (h1 : r < 6) {k : Int} (k0 : 0 ≤ k) (k1 : k < 5) : ∃ i : Int, atI [V.int 0, V.int 0, V.int 1, V.int 5, V.int r] k = some (.int i) ∧ 0 ≤ i ∧ i ≤ 5 := by
  obtain ⟨v, a, b⟩ := at_mem (xs := [V.int 0, V.int 0, V.int 1, V.int 5, V.int r]) k0 k1
  simp at b
  rcases b with rfl | rfl | rfl | rfl
  · exact ⟨_, a, by omega, by omega⟩
  · exact ⟨_, a, by omega, by omega⟩
  · exact ⟨_, a, by omega, by omega⟩
  · exact ⟨_, a, by omega, by omega⟩
/-- what stands between two statements of a turn: a name that is one, all else as at the turn's start -/
def NmAt (p a : Addr) (m sh : Int) (i : Nat) (H2 : Hp) (σ : St) (H' : Hp) : Prop :=
  ∃ (nm : Str) (x7 x8 : Option V), σ = [some (.ref p), some (.int m), some (.str abc), some (.int sh), some (.ref a), some (.int (0 + (i : Int))), some (.str nm), x7, x8] ∧ Ext p H2 H' ∧ nmS nm = true
theorem d_names (T : Txt w K mg) (D_next : Def P w K mg base 1 "_law_next" ["_law_state_here", "_law_size"] spNext) (S : Src K mg "_law_names" (top 18) ["_law_state_here", "_law_amount"]) : Def P w K mg base 2 "_law_names" ["_law_state_here", "_law_amount"] spNames := by
  refine S.ok sc_names (fun vs H Q E h => ?_) (fun f cdv A outer s H vs Q E hr h => ?_)
  · obtain ⟨p, m, rfl, _⟩ := h; rfl
  obtain ⟨p, m, rfl, g, m0, m9, q⟩ := h
  refine ⟨_, (pss_cons (ps_set (i := 2) sc_names.nd rfl (Or.inl rfl) pe_str)
      (pss_cons (ps_set (i := 3) sc_names.nd rfl (Or.inl rfl) (pe_def (D_next) hr rfl (pac (pv 0) (pac pe_int pa_nil))))
      (pss_cons (ps_set (i := 4) sc_names.nd rfl (Or.inl rfl) (pe_lst pa_nil))
      (pss_cons (ps_for PassesOwn.never rfl (pi_range1 rfl T.z_range (pac (pv 1) pa_nil)) (pg_name (i := 5) sc_names.nd rfl (Or.inl rfl))
      (pss_cons (ps_set (i := 6) sc_names.nd rfl (Or.inl rfl) (pe_ix ix_str (pv 2) (pe_op op_mod (pe_op op_add (pv 3) (pv 5)) pe_int) (fun _ _ => rfl)))
      (pss_cut (ps_for PassesOwn.never rfl (pi_range1 rfl T.z_range (pac (pe_ix ix_list (pe_lst (pac pe_int (pac pe_int (pac pe_int (pac pe_int (pac (pe_def (D_next) hr rfl (pac (pv 0) (pac pe_int pa_nil))) pa_nil)))))) (pe_def (D_next) hr rfl (pac (pv 0) (pac pe_int pa_nil))) (fun _ _ => rfl)) pa_nil)) (pg_name (i := 7) sc_names.nd rfl (Or.inl rfl))
      (pss_one (ps_set (i := 6) sc_names.nd rfl (Or.inl rfl) (pe_op op_add_str (pe_ix ix_str (pv 2) (pe_def (D_next) hr rfl (pac (pv 0) (pac pe_int pa_nil))) (fun _ _ => rfl)) (pv 6)))))
      (pss_cut (ps_if (pt_cmpR op_eq (pe_def (D_next) hr rfl (pac (pv 0) (pac pe_int pa_nil))) pe_int (nomark _))
      (pss_cons (ps_set (i := 8) sc_names.nd rfl (Or.inl rfl) (pe_lst (pa_const [.str "box", .str "list", .str "def", .str "end", .str "else", .str "catch", .str "own", .str "set", .str "push", .str "while", .str "try"] (by rfl))))
      (pss_one (ps_set (i := 6) sc_names.nd rfl (Or.inl rfl) (pe_ix ix_list (pe_op op_cat (pv 8) (pe_lst (pa_const [.str "number", .str "size", .str "plus", .str "item", .str "not", .str "ask"] (by rfl)))) (pe_def (D_next) hr rfl (pac (pv 0) (pac pe_int pa_nil))) (fun _ _ => rfl))))) pss_nil)
      (pss_cut (ps_if (pt_cmpR op_in_seq (pv 6) (pv 4) (by rfl))
      (pss_one (ps_set (i := 6) sc_names.nd rfl (Or.inl rfl) (pe_ix ix_str (pv 2) (pe_op op_mod (pe_op op_add (pv 3) (pv 5)) pe_int) (fun _ _ => rfl)))) pss_nil)
      (pss_one (ps_expr (pe_bm PySem.F.plainAttrs_list PySem.F.slot_list_append PySem.F.type_list_append mt_append (pv 4) (pac (pv 6) pa_nil)))))))))
      (pss_one (ps_ret (pv 4))))))), ?_⟩
  have zl : abc.length ≤ sizeLine := by rw [abc_len]; decide
  refine ⟨_, rfl, p, 26, rfl, g, by decide, fun sh H1 s0 s1 e1 => ?_⟩
  refine ⟨(by show 0 ≤ sizeLine; decide), fun a ha => ?_⟩
  have hane : a ≠ p := e1.gen.ne ha
  have g2 : Ext p H1 (upd H1 a (.lst [])) := Ext.new e1.gen ha _
  refine ⟨_, rfl, m, rfl, by omega, by omega, ?_⟩
  refine for_range (n := m.toNat) (fun i σ H' => ∃ (ns : List Str) (x5 x6 x7 x8 : Option V), σ = [some (.ref p), some (.int m), some (.str abc), some (.int sh), some (.ref a), x5, x6, x7, x8] ∧ Ext p H1 H' ∧ H' a = some (.lst (ns.map V.str)) ∧ ns.length = i ∧ ∀ x ∈ ns, nmS x = true) ?_ ?_ ?_
  · exact ⟨[], _, _, _, _, rfl, g2, upd_same, rfl, by simp⟩
  · rintro i σ H2 hi ⟨ns, x5, x6, x7, x8, rfl, e2, hl, hn, hnm⟩
    have hk0 := Int.emod_nonneg (sh + (0 + (i : Int))) (show (26 : Int) ≠ 0 by decide)
    have hk1 := Int.emod_lt_of_pos (sh + (0 + (i : Int))) (show (0 : Int) < 26 by decide)
    obtain ⟨c, hc, hcs⟩ := abc_at hk0 hk1
    refine ⟨_, rfl, _, rfl, _, rfl, _, _, rfl, rfl, _, _, rfl, rfl, (by show (0 : Int) < 26; decide), abc, _, c, rfl, rfl, zl, hc, ?_⟩
    refine ⟨NmAt p a m sh i H2, ?_, ?_⟩
    · refine ⟨_, rfl, p, 6, rfl, e2.gen, by decide, fun r H3 r0 r1 e3 => ?_⟩
      refine ⟨(by show 5 ≤ sizeLine; decide), fun b hb => ?_⟩
      have e4 : Ext p H3 (upd H3 b (.lst [.int 0, .int 0, .int 1, .int 5, .int r])) := Ext.new e3.gen hb _
      refine ⟨_, rfl, p, 5, rfl, e4.gen, by decide, fun r2 H5 k0 k1 e5 => ?_⟩
      obtain ⟨y, hy, y0, y5⟩ := five r0 r1 k0 k1
      have hbp : b ≠ p := e3.gen.ne hb
      refine ⟨b, _, r2, _, rfl, rfl, SqL.of (e5.but b _ hbp upd_same), hy, y, rfl, by omega, by omega, ?_⟩
      have e25 : Ext p H2 H5 := e3.trans (e4.trans e5)
      refine for_range (n := y.toNat) (fun j σ H' => ∃ (nm : Str) (x7 : Option V), σ = [some (.ref p), some (.int m), some (.str abc), some (.int sh), some (.ref a), some (.int (0 + (i : Int))), some (.str nm), x7, x8] ∧ Ext p H2 H' ∧ Lt nm ∧ nm.length = j + 1) ?_ ?_ ?_
      · exact ⟨_, _, rfl, e25, Lt.one hcs, rfl⟩
      · rintro j σ H6 hj ⟨nm, x7', rfl, e6, hlt, hlen⟩
        refine ⟨_, rfl, _, rfl, p, 26, rfl, e6.gen, by decide, fun r3 H7 t0 t1 e7 => ?_⟩
        obtain ⟨c2, hc2, hcs2⟩ := abc_at t0 t1
        have hln : (⟨#[c2]⟩ : Str).length + nm.length ≤ sizeLine := by
          have : (⟨#[c2]⟩ : Str).length = 1 := rfl
          have h3 : (100 : Nat) ≤ sizeLine := by decide
          omega
        refine ⟨abc, _, c2, rfl, rfl, zl, hc2, _, rfl, _, nm, rfl, rfl, hln, ?_⟩
        refine ⟨_, _, rfl, e6.trans e7, (Lt.one hcs2).append hlt, ?_⟩
        rw [len_append, hlen]
        show 1 + (j + 1) = j + 1 + 1
        omega
      · rintro σ H6 ⟨nm, x7', rfl, e6, hlt, hlen⟩
        exact ⟨nm, x7', x8, rfl, e6, nm_of hlt (by omega) (by omega)⟩
    · rintro σ H6 ⟨nm, x7, x8, rfl, e6, nm6⟩
      refine ⟨NmAt p a m sh i H2, ?_, ?_⟩
      · refine ⟨_, rfl, p, 6, rfl, e6.gen, by decide, fun r4 H7 u0 u1 e7 => ⟨rfl, _, rfl, ite2 (fun _ => ?_) (fun _ => ?_)⟩⟩
        · refine ⟨(by show 11 ≤ sizeLine; decide), fun b hb => ?_⟩
          have e8 : Ext p H7 (upd H7 b (.lst (ws1.map V.str))) := Ext.new e7.gen hb _
          refine ⟨_, rfl, (by show 6 ≤ sizeLine; decide), fun b2 hb2 => ?_⟩
          have e9 : Ext p _ (upd (upd H7 b (.lst (ws1.map V.str))) b2 (.lst (ws2.map V.str))) := Ext.new e8.gen hb2 _
          have hb12 : b ≠ b2 := ne_of_none (o := .lst (ws1.map V.str)) upd_same hb2
          refine ⟨b, b2, ws1.map V.str, ws2.map V.str, rfl, rfl, (by rw [upd_ne hb12]; exact upd_same), upd_same, (by show 17 ≤ sizeLine; decide), fun b3 hb3 => ?_⟩
          have e10 : Ext p _ (upd (upd (upd H7 b (.lst (ws1.map V.str))) b2 (.lst (ws2.map V.str))) b3 (.lst (ws1.map V.str ++ ws2.map V.str))) := Ext.new e9.gen hb3 _
          refine ⟨_, rfl, p, 17, rfl, e10.gen, by decide, fun r5 H8 v0 v1 e11 => ?_⟩
          obtain ⟨x, hx, hxm⟩ := at_str (ns := ws1 ++ ws2) v0 v1
          rw [List.map_append] at hx
          refine ⟨b3, _, r5, _, rfl, rfl, SqL.of (e11.but b3 _ (e9.gen.ne hb3) upd_same), hx, ?_⟩
          exact ⟨x, x7, _, rfl, e6.trans (e7.trans (e8.trans (e9.trans (e10.trans e11)))), ws_nm x hxm⟩
        · exact ⟨nm, x7, x8, rfl, e6.trans e7, nm6⟩
      · rintro σ H7 ⟨nm, x7, x8, rfl, e7, nm7⟩
        have hl7 : H7 a = some (.lst (ns.map V.str)) := e7.but a _ hane hl
        refine ⟨NmAt p a m sh i H2, ?_, ?_⟩
        · refine ⟨_, rfl, _, rfl, a, _, rfl, .inl (SqL.of hl7), rfl, ?_, ?_⟩
          · rw [List.all_eq_true]
            intro x hx
            obtain ⟨y', _, rfl⟩ := List.mem_map.mp hx
            rfl
          refine ⟨_, rfl, ite2 (fun _ => ?_) (fun _ => ?_)⟩
          · refine ⟨_, rfl, _, rfl, _, rfl, _, _, rfl, rfl, _, _, rfl, rfl, (by show (0 : Int) < 26; decide), abc, _, c, rfl, rfl, zl, hc, ?_⟩
            exact ⟨_, x7, x8, rfl, e7, nm_of (Lt.one hcs) (by show 1 ≤ 1; decide) (by show 1 ≤ 6; decide)⟩
          · exact ⟨nm, x7, x8, rfl, e7, nm7⟩
        · rintro σ H8 ⟨nm, x7, x8, rfl, e8, nm8⟩
          have hl8 : H8 a = some (.lst (ns.map V.str)) := e8.but a _ hane hl
          have z9 : (ns.map V.str).length < sizeLine := by
            rw [List.length_map]
            have h3 : (100 : Nat) < sizeLine := by decide
            omega
          refine ⟨_, rfl, .inl ⟨rfl, _, SqL.of hl8⟩, _, rfl, a, _, _, rfl, rfl, hl8, z9, ?_⟩
          refine ⟨ns ++ [nm], _, _, _, _, rfl, ⟨fun b' o hb' ho => ?_, ?_⟩, ?_, by rw [List.length_append, hn]; rfl, fun x hx => ?_⟩
          · have e12 := (e2.trans e8).but b' o hb' ho
            rw [upd_ne (ne_of_none ho ha)]; exact e12
          · obtain ⟨n', hp', r'⟩ := e8.gen
            exact ⟨n', by rw [upd_ne (Ne.symm hane)]; exact hp', r'⟩
          · rw [upd_same, List.map_append]; rfl
          · rcases List.mem_append.mp hx with h | h
            · exact hnm x h
            · rw [List.mem_singleton.mp h]; exact nm8
  · rintro σ H2 ⟨ns, x5, x6, x7, x8, rfl, e2, hl, hn, hnm⟩
    exact ⟨_, rfl, q a ns H2 (e1.trans e2) (e1.free ha) hl (by omega) hnm⟩
end
end K10

set_option Elab.async false
set_option linter.all false
set_option maxRecDepth 100000
set_option maxHeartbeats 4000000
namespace K10
open PySem L2
seal L2.PE L2.PS L2.PSs L2.PT L2.PW L2.PA L2.PG L2.PGs L2.PI L2.PO L2.PIfs L2.PC L2.OpR L2.CallR L2.IxR L2.SlR L2.PSet L2.UnR
/-! ### what is kept -/
def TK (H H' : Hp) : Prop := ∀ a xs, H a = some (.tup xs) → H' a = some (.tup xs)
theorem TK.refl (H : Hp) : TK H H := fun _ _ h => h
theorem TK.trans {H H1 H2 : Hp} (a : TK H H1) (b : TK H1 H2) : TK H H2 := fun c xs h => b c xs (a c xs h)
theorem TK.of {H H' : Hp} (s : Same H H') : TK H H' := fun a xs h => s a _ h
def Kn (H H' : Hp) : Prop := ∀ a o, (∀ n : Int, o ≠ .lst [.int n]) → H a = some o → H' a = some o
theorem Kn.tk {H H' : Hp} (k : Kn H H') : TK H H' := fun a xs h => k a _ (fun n z => by cases z) h
theorem Kn.trans {H H1 H2 : Hp} (a : Kn H H1) (b : Kn H1 H2) : Kn H H2 := fun c o n h => b c o n (a c o n h)
theorem Ext.kn {p : Addr} {H H' : Hp} (g : Gen p H) (e : Ext p H H') : Kn H H' := fun a o n h => e.but a o (fun z => by
  obtain ⟨m, hp, _⟩ := g
  rw [z, hp] at h
  injection h with h
  exact n m h.symm) h
/-! ### values and their words -/
def sevens : List Str := ["plus", "minus", "less", "same", "times", "over", "rest"]
inductive Vl (H : Hp) : Nat → V → List Str → Prop
  | num {n : Nat} {t : Addr} {k : Int} : H t = some (.tup [.str "number", .int k]) → 0 ≤ k → k < 1000000 → Vl H (n + 1) (.ref t) ["number", toString k]
  | nm {n : Nat} {t : Addr} {wd x : Str} : H t = some (.tup [.str wd, .str x]) → (wd = "box" ∨ wd = "size") → 1 ≤ x.length → x.length ≤ 10 → Vl H (n + 1) (.ref t) [wd, x]
  | no {n : Nat} {t : Addr} {u : V} {us : List Str} : H t = some (.tup [.str "not", u]) → Vl H n u us → Vl H (n + 1) (.ref t) ("not" :: us)
  | item {n : Nat} {t : Addr} {x : Str} {u : V} {us : List Str} : H t = some (.tup [.str "item", .str x, u]) → 1 ≤ x.length → x.length ≤ 10 → Vl H n u us → Vl H (n + 1) (.ref t) ("item" :: x :: us)
  | two {n : Nat} {t : Addr} {wd : Str} {u v : V} {us vs : List Str} : H t = some (.tup [.str wd, u, v]) → wd ∈ sevens → Vl H n u us → Vl H n v vs → Vl H (n + 1) (.ref t) (wd :: (us ++ vs))
theorem Vl.tk {H H' : Hp} (k : TK H H') {n : Nat} {v : V} {ws : List Str} (h : Vl H n v ws) : Vl H' n v ws := by
  induction h with
  | num h a b => exact .num (k _ _ h) a b
  | nm h a b c => exact .nm (k _ _ h) a b c
  | no h _ ih => exact .no (k _ _ h) ih
  | item h a b _ ih => exact .item (k _ _ h) a b ih
  | two h a _ _ ih1 ih2 => exact .two (k _ _ h) a ih1 ih2
theorem Vl.succ {H : Hp} {n : Nat} {v : V} {ws : List Str} (h : Vl H n v ws) : Vl H (n + 1) v ws := by
  induction h with
  | num h a b => exact .num h a b
  | nm h a b c => exact .nm h a b c
  | no h _ ih => exact .no h ih
  | item h a b _ ih => exact .item h a b ih
  | two h a _ _ ih1 ih2 => exact .two h a ih1 ih2
theorem Vl.up {H : Hp} {n m : Nat} {v : V} {ws : List Str} (h : Vl H n v ws) (l : n ≤ m) : Vl H m v ws := by
  induction l with
  | refl => exact h
  | step _ ih => exact ih.succ
theorem num_len {k : Int} (h0 : 0 ≤ k) (h1 : k < 1000000) : (toString k : Str).length ≤ 10 := Nat.le_trans (PyProof.Rows.toString_length_le h0 (k := 6) (by decide) h1) (by decide)
def vB : Nat → Nat
  | 0 => 0
  | 1 => 2
  | n + 2 => 2 * vB (n + 1) + 1
theorem vB_pos : ∀ n, 2 ≤ vB (n + 1)
  | 0 => Nat.le_refl 2
  | n + 1 => by have := vB_pos n; show 2 ≤ 2 * vB (n + 1) + 1; omega
theorem Vl.len {H : Hp} {n : Nat} {v : V} {ws : List Str} (h : Vl H n v ws) : ws.length ≤ vB n := by
  induction h with
  | @num n => exact vB_pos n
  | @nm n => exact vB_pos n
  | @no n t u us h hu ih =>
    cases n with
    | zero => cases hu
    | succ n => have := vB_pos n; show us.length + 1 ≤ 2 * vB (n + 1) + 1; omega
  | @item n t x u us h _ _ hu ih =>
    cases n with
    | zero => cases hu
    | succ n => have := vB_pos n; show us.length + 1 + 1 ≤ 2 * vB (n + 1) + 1; omega
  | @two n t wd u v us vs h _ hu hv ih1 ih2 =>
    cases n with
    | zero => cases hu
    | succ n => have := vB_pos n; show (us ++ vs).length + 1 ≤ 2 * vB (n + 1) + 1; rw [List.length_append]; omega
theorem Vl.words {H : Hp} {n : Nat} {v : V} {ws : List Str} (h : Vl H n v ws) : ∀ x ∈ ws, x.length ≤ 10 := by
  induction h with
  | num h a b =>
    intro x hx
    simp at hx
    rcases hx with rfl | rfl
    · decide
    · exact num_len a b
  | @nm n t wd x' h a b c =>
    intro x hx
    simp at hx
    rcases hx with rfl | rfl
    · rcases a with rfl | rfl <;> decide
    · exact c
  | no h _ ih =>
    intro x hx
    rcases List.mem_cons.mp hx with rfl | hx
    · decide
    · exact ih x hx
  | item h a b _ ih =>
    intro x hx
    rcases List.mem_cons.mp hx with rfl | hx
    · decide
    rcases List.mem_cons.mp hx with rfl | hx
    · exact b
    · exact ih x hx
  | two h a _ _ ih1 ih2 =>
    intro x hx
    rcases List.mem_cons.mp hx with rfl | hx
    · exact (show ∀ x ∈ sevens, x.length ≤ 10 by decide +kernel) _ a
    rcases List.mem_append.mp hx with hx | hx
    · exact ih1 x hx
    · exact ih2 x hx
theorem Vl.ne {H : Hp} {n : Nat} {v : V} {ws : List Str} (h : Vl H n v ws) : ∃ x us, ws = x :: us := by cases h <;> exact ⟨_, _, rfl⟩
section
variable {P : Program} {w : World} {K : PySem.W.Frag} {mg : Str → Option Value} {base : Heap}
/-! ### _law_value -/
theorem sc_value : FnScope ["_law_state_here", "_law_deep", "_law_boxes", "_law_lists", "_law_kind", "_law_one", "_law_words", "_law_word"] ["_law_state_here", "_law_deep", "_law_boxes", "_law_lists"] (defScope (top 19)) := ⟨rfl, rfl, rfl, by decide +kernel, rfl, by decide +kernel, by decide +kernel⟩
def spValue (n : Nat) : Sp := fun vs H Q _ => ∃ (p : Addr) (d : Int) (b l : Addr) (bs ls : List Str), vs = [.ref p, .int d, .ref b, .ref l] ∧ Gen p H ∧ 1 ≤ d ∧ d ≤ (n : Int) ∧ H b = some (.lst (bs.map V.str)) ∧ H l = some (.lst (ls.map V.str)) ∧ (∀ x ∈ bs, 1 ≤ x.length ∧ x.length ≤ 10) ∧ (∀ x ∈ ls, 1 ≤ x.length ∧ x.length ≤ 10) ∧
  ∀ (r : V) (ws : List Str) (H' : Hp), Ext p H H' → Vl H' n r ws → Q r H'
theorem five7 {r : Int} (h0 : 0 ≤ r) (h1 : r < 7) {k : Int} (k0 : 0 ≤ k) (k1 : k < 5) : ∃ i : Int, atI [V.int 0, V.int 1, V.int 2, V.int 3, V.int r] k = some (.int i) ∧ 0 ≤ i ∧ i < 7 := by
  obtain ⟨v, a, b⟩ := at_mem (xs := [V.int 0, V.int 1, V.int 2, V.int 3, V.int r]) k0 k1
  simp at b
  rcases b with rfl | rfl | rfl | rfl | rfl <;> exact ⟨_, a, by omega, by omega⟩
theorem d_value1 {n : Nat} (T : Txt w K mg) (D_next : Def P w K mg base 1 "_law_next" ["_law_state_here", "_law_size"] spNext) (S : Src K mg "_law_value" (top 19) ["_law_state_here", "_law_deep", "_law_boxes", "_law_lists"])
    (IH : Def P w K mg base (n + 1) "_law_value" ["_law_state_here", "_law_deep", "_law_boxes", "_law_lists"] (spValue n)) : Def P w K mg base (n + 2) "_law_value" ["_law_state_here", "_law_deep", "_law_boxes", "_law_lists"] (spValue (n + 1)) := by
  refine S.ok sc_value (fun vs H Q E h => ?_) (fun f cdv A outer s H vs Q E hr h => ?_)
  · obtain ⟨p, d, b, l, bs, ls, rfl, _⟩ := h; rfl
  obtain ⟨p, d, b, l, bs, ls, rfl, g, d1, dn, hb, hl, hbs, hls, q⟩ := h
  refine ⟨_, (pss_cons (ps_set (i := 4) sc_value.nd rfl (Or.inl rfl) (pe_def (D_next.mono (Nat.le_add_left 1 n)) hr rfl (pac (pv 0) (pac pe_int pa_nil))))
      (pss_cons (ps_if (pt_cut (PW.pt (pw_or (pt_cmpR op_lt (pv 1) pe_int (nomark _)) (pw_or1 (pt_cmpR op_lt (pv 4) pe_int (nomark _))))))
      (pss_cut (ps_if (pt_cut (PW.pt (pw_and (pt_cmpR op_gt (pe_cB call_len_seq rfl T.z_len bt_len (pac (pv 2) pa_nil)) pe_int (nomark _)) (pw_and1 (pt_cmpR op_gt (pe_def (D_next.mono (Nat.le_add_left 1 n)) hr rfl (pac (pv 0) (pac pe_int pa_nil))) pe_int (nomark _))))))
      (pss_one (ps_ret (pe_tup (pac pe_str (pac (pe_ix ix_list (pv 2) (pe_def (D_next.mono (Nat.le_add_left 1 n)) hr rfl (pac (pv 0) (pac (pe_cB call_len_seq rfl T.z_len bt_len (pac (pv 2) pa_nil)) pa_nil))) (fun _ _ => rfl)) pa_nil))))) pss_nil)
      (pss_cut (ps_if (pt_cut (PW.pt (pw_and (pt_cmpR op_gt (pe_cB call_len_seq rfl T.z_len bt_len (pac (pv 3) pa_nil)) pe_int (nomark _)) (pw_and1 (pt_cmpR op_eq (pe_def (D_next.mono (Nat.le_add_left 1 n)) hr rfl (pac (pv 0) (pac pe_int pa_nil))) pe_int (nomark _))))))
      (pss_one (ps_ret (pe_tup (pac pe_str (pac (pe_ix ix_list (pv 3) (pe_def (D_next.mono (Nat.le_add_left 1 n)) hr rfl (pac (pv 0) (pac (pe_cB call_len_seq rfl T.z_len bt_len (pac (pv 3) pa_nil)) pa_nil))) (fun _ _ => rfl)) pa_nil))))) pss_nil)
      (pss_one (ps_ret (pe_tup (pac pe_str (pac (pe_ix ix_list (pe_lst (pac (pe_def (D_next.mono (Nat.le_add_left 1 n)) hr rfl (pac (pv 0) (pac pe_int pa_nil))) (pac (pe_def (D_next.mono (Nat.le_add_left 1 n)) hr rfl (pac (pv 0) (pac pe_int pa_nil))) pa_nil))) (pe_op op_fdiv (pe_def (D_next.mono (Nat.le_add_left 1 n)) hr rfl (pac (pv 0) (pac pe_int pa_nil))) pe_int) (fun _ _ => rfl)) pa_nil))))))) pss_nil)
      (pss_cons (ps_set (i := 5) sc_value.nd rfl (Or.inl rfl) (pe_def (IH) hr rfl (pac (pv 0) (pac (pe_op op_sub (pv 1) pe_int) (pac (pv 2) (pac (pv 3) pa_nil))))))
      (pss_cons (ps_if (pt_cmpR op_eq (pv 4) pe_int (nomark _))
      (pss_one (ps_ret (pe_tup (pac pe_str (pac (pv 5) pa_nil))))) pss_nil)
      (pss_cons (ps_if (pt_cut (PW.pt (pw_and (pt_cmpR op_eq (pv 4) pe_int (nomark _)) (pw_and1 (pt_cmpR op_gt (pe_cB call_len_seq rfl T.z_len bt_len (pac (pv 3) pa_nil)) pe_int (nomark _))))))
      (pss_one (ps_ret (pe_tup (pac pe_str (pac (pe_ix ix_list (pv 3) (pe_def (D_next.mono (Nat.le_add_left 1 n)) hr rfl (pac (pv 0) (pac (pe_cB call_len_seq rfl T.z_len bt_len (pac (pv 3) pa_nil)) pa_nil))) (fun _ _ => rfl)) (pac (pv 5) pa_nil)))))) pss_nil)
      (pss_cons (ps_set (i := 6) sc_value.nd rfl (Or.inl rfl) (pe_lst (pa_const [.str "plus", .str "minus", .str "less", .str "same", .str "times", .str "over", .str "rest"] (by rfl))))
      (pss_cons (ps_set (i := 7) sc_value.nd rfl (Or.inl rfl) (pe_ix ix_list (pv 6) (pe_ix ix_list (pe_lst (pac pe_int (pac pe_int (pac pe_int (pac pe_int (pac (pe_def (D_next.mono (Nat.le_add_left 1 n)) hr rfl (pac (pv 0) (pac pe_int pa_nil))) pa_nil)))))) (pe_def (D_next.mono (Nat.le_add_left 1 n)) hr rfl (pac (pv 0) (pac pe_int pa_nil))) (fun _ _ => rfl)) (fun _ _ => rfl)))
      (pss_one (ps_ret (pe_tup (pac (pv 7) (pac (pv 5) (pac (pe_def (IH) hr rfl (pac (pv 0) (pac (pe_op op_sub (pv 1) pe_int) (pac (pv 2) (pac (pv 3) pa_nil))))) pa_nil))))))))))))), ?_⟩
  refine ⟨_, rfl, p, 10, rfl, g, by decide, fun kd H1 s0 s1 e1 => ?_⟩
  have hb1 := e1.lst g hb
  have hl1 := e1.lst g hl
  have g1 := e1.gen
  refine ⟨fun t H' => H1 = H' ∧ (t = false → 2 ≤ d), ?_, ?_⟩
  · refine ⟨_, rfl, _, _, rfl, rfl, _, rfl, ite2 (fun _ => ⟨rfl, fun z => by cases z⟩) (fun c => ?_)⟩
    have c' : ¬ d < 2 := fun z => c (decide_eq_true z)
    exact ⟨_, rfl, _, _, rfl, rfl, _, rfl, rfl, fun _ => by omega⟩
  rintro t H' ⟨rfl, h2⟩
  refine ite2 (fun _ => ?_) (fun ct => ?_)
  · -- a box, a size, a number
    refine ⟨fun σ' H' => σ' = [some (.ref p), some (.int d), some (.ref b), some (.ref l), some (.int kd), none, none, none] ∧ Ext p H1 H', ?_, ?_⟩
    · refine ⟨fun t H' => Ext p H1 H' ∧ (t = true → 0 < bs.length), ?_, ?_⟩
      · refine ⟨_, rfl, b, _, rfl, .inl (SqL.of hb1), _, _, rfl, rfl, _, rfl, ite2 (fun c => ?_) (fun _ => ⟨Ext.refl g1, fun z => by cases z⟩)⟩
        have c' : (0 : Int) < (((bs.map V.str).length : Nat) : Int) := of_decide_eq_true c
        rw [List.length_map] at c'
        exact ⟨_, rfl, p, 3, rfl, g1, by decide, fun r H2 r0 r1 e2 => ⟨_, _, rfl, rfl, _, rfl, e2, fun _ => by omega⟩⟩
      rintro t H2 ⟨e2, hpos⟩
      refine ite2 (fun c => ?_) (fun _ => ⟨rfl, e2⟩)
      have hb2 := e2.lst g1 hb1
      have pos := hpos c
      refine ⟨_, rfl, _, rfl, _, rfl, b, _, rfl, .inl (SqL.of hb2), p, _, rfl, e2.gen, (by rw [List.length_map]; omega), fun r H3 r0 r1 e3 => ?_⟩
      rw [List.length_map] at r1
      obtain ⟨x, hx, hxm⟩ := at_str r0 r1
      refine ⟨b, _, r, _, rfl, rfl, SqL.of (e3.lst e2.gen hb2), hx, (by show 2 ≤ sizeLine; decide), fun t ht => ?_⟩
      exact q _ _ _ (e1.trans (e2.trans (e3.trans (Ext.new e3.gen ht _)))) (.nm upd_same (.inl rfl) (hbs x hxm).1 (hbs x hxm).2)
    rintro σ H2 ⟨rfl, e2⟩
    have g2 := e2.gen
    have hl2 := e2.lst g1 hl1
    refine ⟨fun σ' H' => σ' = [some (.ref p), some (.int d), some (.ref b), some (.ref l), some (.int kd), none, none, none] ∧ Ext p H2 H', ?_, ?_⟩
    · refine ⟨fun t H' => Ext p H2 H' ∧ (t = true → 0 < ls.length), ?_, ?_⟩
      · refine ⟨_, rfl, l, _, rfl, .inl (SqL.of hl2), _, _, rfl, rfl, _, rfl, ite2 (fun c => ?_) (fun _ => ⟨Ext.refl g2, fun z => by cases z⟩)⟩
        have c' : (0 : Int) < (((ls.map V.str).length : Nat) : Int) := of_decide_eq_true c
        rw [List.length_map] at c'
        exact ⟨_, rfl, p, 6, rfl, g2, by decide, fun r H3 r0 r1 e3 => ⟨rfl, _, rfl, e3, fun _ => by omega⟩⟩
      rintro t H3 ⟨e3, hpos⟩
      refine ite2 (fun c => ?_) (fun _ => ⟨rfl, e3⟩)
      have hl3 := e3.lst g2 hl2
      have pos := hpos c
      refine ⟨_, rfl, _, rfl, _, rfl, l, _, rfl, .inl (SqL.of hl3), p, _, rfl, e3.gen, (by rw [List.length_map]; omega), fun r H4 r0 r1 e4 => ?_⟩
      rw [List.length_map] at r1
      obtain ⟨x, hx, hxm⟩ := at_str r0 r1
      refine ⟨l, _, r, _, rfl, rfl, SqL.of (e4.lst e3.gen hl3), hx, (by show 2 ≤ sizeLine; decide), fun t ht => ?_⟩
      exact q _ _ _ (e1.trans (e2.trans (e3.trans (e4.trans (Ext.new e4.gen ht _))))) (.nm upd_same (.inr rfl) (hls x hxm).1 (hls x hxm).2)
    rintro σ H3 ⟨rfl, e3⟩
    refine ⟨_, rfl, p, 4, rfl, e3.gen, by decide, fun r H4 r0 r1 e4 => ?_⟩
    refine ⟨_, rfl, p, 1000000, rfl, e4.gen, by decide, fun r' H5 r0' r1' e5 => ?_⟩
    refine ⟨(by show 2 ≤ sizeLine; decide), fun u hu => ?_⟩
    have e6 : Ext p H5 (upd H5 u (.lst [.int r, .int r'])) := Ext.new e5.gen hu _
    refine ⟨_, rfl, p, 6, rfl, e6.gen, by decide, fun k H6 k0 k1 e7 => ?_⟩
    refine ⟨k, 5, rfl, rfl, ⟨by decide, by decide⟩, ?_⟩
    obtain ⟨v, hv, hvm⟩ := at_mem (xs := [V.int r, V.int r']) (k := k / 5) (by omega) (by show k / 5 < 2; omega)
    refine ⟨u, _, k / 5, v, rfl, rfl, SqL.of (e7.but u _ (e5.gen.ne hu) upd_same), hv, (by show 2 ≤ sizeLine; decide), fun t ht => ?_⟩
    simp at hvm
    rcases hvm with rfl | rfl
    · exact q _ _ _ (e1.trans (e2.trans (e3.trans (e4.trans (e5.trans (e6.trans (e7.trans (Ext.new e7.gen ht _)))))))) (.num upd_same r0 (by omega))
    · exact q _ _ _ (e1.trans (e2.trans (e3.trans (e4.trans (e5.trans (e6.trans (e7.trans (Ext.new e7.gen ht _)))))))) (.num upd_same r0' r1')
  -- deeper
  have d2 : 2 ≤ d := h2 (by cases t with | false => rfl | true => exact absurd rfl ct)
  refine ⟨_, rfl, _, rfl, d, 1, rfl, rfl, _, rfl, _, rfl, p, d - 1, b, l, bs, ls, rfl, g1, by omega, by omega, hb1, hl1, hbs, hls, fun one os H2 e2 p2 => ?_⟩
  have g2 := e2.gen
  have hb2 := e2.lst g1 hb1
  have hl2 := e2.lst g1 hl1
  refine ⟨_, rfl, rfl, _, rfl, ite2 (fun _ => ?_) (fun _ => ?_)⟩
  · refine ⟨_, rfl, (by show 2 ≤ sizeLine; decide), fun t ht => ?_⟩
    have e3 := Ext.new g2 ht (.tup [.str "not", one])
    exact q _ _ _ (e1.trans (e2.trans e3)) (.no upd_same (p2.tk (Ext.kn g2 e3).tk))
  refine ⟨fun t H' => H2 = H' ∧ (t = true → 0 < ls.length), ?_, ?_⟩
  · refine ⟨_, rfl, rfl, _, rfl, ite2 (fun _ => ?_) (fun _ => ⟨rfl, fun z => by cases z⟩)⟩
    refine ⟨_, rfl, l, _, rfl, .inl (SqL.of hl2), _, _, rfl, rfl, _, rfl, rfl, fun c => ?_⟩
    have c' : (0 : Int) < (((ls.map V.str).length : Nat) : Int) := of_decide_eq_true c
    rw [List.length_map] at c'
    omega
  rintro t' H' ⟨rfl, hpos⟩
  refine ite2 (fun c => ?_) (fun _ => ?_)
  · have pos := hpos c
    refine ⟨_, rfl, _, rfl, _, rfl, l, _, rfl, .inl (SqL.of hl2), p, _, rfl, g2, (by rw [List.length_map]; omega), fun r H3 r0 r1 e3 => ?_⟩
    rw [List.length_map] at r1
    obtain ⟨x, hx, hxm⟩ := at_str r0 r1
    refine ⟨l, _, r, _, rfl, rfl, SqL.of (e3.lst g2 hl2), hx, _, rfl, (by show 3 ≤ sizeLine; decide), fun t ht => ?_⟩
    have e4 := Ext.new e3.gen ht (.tup [.str "item", .str x, one])
    exact q _ _ _ (e1.trans (e2.trans (e3.trans e4))) (.item upd_same (hls x hxm).1 (hls x hxm).2 (p2.tk (Ext.kn g2 (e3.trans e4)).tk))
  refine ⟨(by show 7 ≤ sizeLine; decide), fun u hu => ?_⟩
  have e3 : Ext p H2 (upd H2 u (.lst (sevens.map V.str))) := Ext.new g2 hu _
  have up := g2.ne hu
  refine ⟨_, rfl, _, rfl, p, 7, rfl, e3.gen, by decide, fun r H4 r0 r1 e4 => ?_⟩
  refine ⟨(by show 5 ≤ sizeLine; decide), fun u2 hu2 => ?_⟩
  have e5 : Ext p H4 (upd H4 u2 (.lst [.int 0, .int 1, .int 2, .int 3, .int r])) := Ext.new e4.gen hu2 _
  refine ⟨_, rfl, p, 5, rfl, e5.gen, by decide, fun k H6 k0 k1 e6 => ?_⟩
  obtain ⟨i, hi, i0, i1⟩ := five7 r0 r1 k0 k1
  refine ⟨u2, _, k, _, rfl, rfl, SqL.of (e6.but u2 _ (e4.gen.ne hu2) upd_same), hi, ?_⟩
  obtain ⟨x, hx, hxm⟩ := at_str (ns := sevens) i0 i1
  have hu6 : H6 u = some (.lst (sevens.map V.str)) := e6.lst e5.gen (e5.lst e4.gen (e4.lst e3.gen upd_same))
  refine ⟨u, _, i, _, rfl, rfl, SqL.of hu6, hx, ?_⟩
  have hx10 : x.length ≤ 10 := (show ∀ x ∈ sevens, x.length ≤ 10 by decide +kernel) x hxm
  have e26 : Ext p H2 H6 := e3.trans (e4.trans (e5.trans e6))
  refine ⟨_, rfl, _, rfl, _, rfl, _, rfl, d, 1, rfl, rfl, _, rfl, _, rfl, p, d - 1, b, l, bs, ls, rfl, e6.gen, by omega, by omega, e26.lst g2 hb2, e26.lst g2 hl2, hbs, hls, fun two ts H7 e7 p7 => ?_⟩
  refine ⟨(by show 3 ≤ sizeLine; decide), fun t ht => ?_⟩
  have e8 := Ext.new e7.gen ht (.tup [.str x, one, two])
  exact q _ _ _ (e1.trans (e2.trans (e26.trans (e7.trans e8)))) (.two upd_same hxm (p2.tk (Ext.kn g2 (e26.trans (e7.trans e8))).tk) (p7.tk (Ext.kn e7.gen e8).tk))
theorem d_value (T : Txt w K mg) (D_next : Def P w K mg base 1 "_law_next" ["_law_state_here", "_law_size"] spNext) (S : Src K mg "_law_value" (top 19) ["_law_state_here", "_law_deep", "_law_boxes", "_law_lists"]) :
    ∀ n : Nat, Def P w K mg base (n + 1) "_law_value" ["_law_state_here", "_law_deep", "_law_boxes", "_law_lists"] (spValue n)
  | 0 => S.no fun vs H Q E h => by
    obtain ⟨p, d, b, l, bs, ls, _, _, h1, h2, _⟩ := h
    omega
  | n + 1 => d_value1 T D_next S (d_value T D_next S n)
end
end K10

set_option Elab.async false
set_option linter.all false
set_option maxRecDepth 100000
set_option maxHeartbeats 4000000
namespace K10
open PySem L2
seal L2.PE L2.PS L2.PSs L2.PT L2.PW L2.PA L2.PG L2.PGs L2.PI L2.PO L2.PIfs L2.PC L2.OpR L2.CallR L2.IxR L2.SlR L2.PSet L2.UnR
/-! ### the words of a stack of things -/
inductive Fs (H : Hp) : List V → List Str → Nat → Prop
  | nil : Fs H [] [] 0
  | word {x : Str} {st : List V} {ws : List Str} {k : Nat} : Fs H st ws k → Fs H (.str x :: st) (x :: ws) (k + 1)
  | num {i : Int} {st : List V} {ws : List Str} {k : Nat} : 0 ≤ i → i < 1000000 → Fs H st ws k → Fs H (.int i :: st) (toString i :: ws) (k + 1)
  | tup {t : Addr} {xs st : List V} {ws : List Str} {k : Nat} : H t = some (.tup xs) → Fs H (xs ++ st) ws k → Fs H (.ref t :: st) ws (k + 1)
theorem Fs.tk {H H' : Hp} (k : TK H H') {st : List V} {ws : List Str} {n : Nat} (h : Fs H st ws n) : Fs H' st ws n := by
  induction h with
  | nil => exact .nil
  | word _ ih => exact .word ih
  | num a b _ ih => exact .num a b ih
  | tup h _ ih => exact .tup (k _ _ h) ih
theorem Fs.len {H : Hp} {st : List V} {ws : List Str} {n : Nat} (h : Fs H st ws n) : st.length ≤ n ∧ ws.length ≤ n := by
  induction h with
  | nil => exact ⟨Nat.le_refl _, Nat.le_refl _⟩
  | word _ ih => exact ⟨by rw [List.length_cons]; omega, by rw [List.length_cons]; omega⟩
  | num a b _ ih => exact ⟨by rw [List.length_cons]; omega, by rw [List.length_cons]; omega⟩
  | tup h _ ih => rw [List.length_append] at ih; exact ⟨by rw [List.length_cons]; omega, by omega⟩
/-- steps that a value takes -/
def vK : Nat → Nat
  | 0 => 0
  | n + 1 => 2 * vK n + 3
theorem Vl.fs {H : Hp} {n : Nat} {v : V} {ws : List Str} (h : Vl H n v ws) : ∀ {st : List V} {us : List Str} {k : Nat}, Fs H st us k → ∃ m, m ≤ k + vK n ∧ Fs H (v :: st) (ws ++ us) m := by
  induction h with
  | @num n t k' h a b => intro st us k f; exact ⟨k + 3, by show _ ≤ k + (2 * vK n + 3); omega, .tup h (.word (.num a b f))⟩
  | @nm n t wd x h a b c => intro st us k f; exact ⟨k + 3, by show _ ≤ k + (2 * vK n + 3); omega, .tup h (.word (.word f))⟩
  | @no n t u us' h hu ih =>
    intro st us k f
    obtain ⟨m, hm, g⟩ := ih f
    exact ⟨m + 2, by show _ ≤ k + (2 * vK n + 3); omega, .tup h (.word g)⟩
  | @item n t x u us' h a b hu ih =>
    intro st us k f
    obtain ⟨m, hm, g⟩ := ih f
    exact ⟨m + 3, by show _ ≤ k + (2 * vK n + 3); omega, .tup h (.word (.word g))⟩
  | @two n t wd u v us' vs' h a hu hv ih1 ih2 =>
    intro st us k f
    obtain ⟨m, hm, g⟩ := ih2 f
    obtain ⟨m2, hm2, g2⟩ := ih1 g
    refine ⟨m2 + 2, by show _ ≤ k + (2 * vK n + 3); omega, .tup h ?_⟩
    show Fs H (V.str wd :: u :: v :: st) (wd :: ((us' ++ vs') ++ us)) (m2 + 1)
    rw [List.append_assoc]
    exact .word g2
theorem fs_texts {H : Hp} : ∀ (xs : List Str) {st : List V} {us : List Str} {k : Nat}, Fs H st us k → Fs H (xs.map V.str ++ st) (xs ++ us) (k + xs.length)
  | [], _, _, _, f => f
  | x :: xs, _, _, _, f => .word (fs_texts xs f)
theorem fs_nums {H : Hp} : ∀ (xs : List Int) {st : List V} {us : List Str} {k : Nat}, (∀ i ∈ xs, 0 ≤ i ∧ i < 1000000) → Fs H st us k → Fs H (xs.map V.int ++ st) (xs.map (fun i => (toString i : Str)) ++ us) (k + xs.length)
  | [], _, _, _, _, f => f
  | x :: xs, _, _, _, h, f => .num (h x (List.mem_cons_self)).1 (h x (List.mem_cons_self)).2 (fs_nums xs (fun i hi => h i (List.mem_cons_of_mem _ hi)) f)
theorem ifT {c : Bool} {A B : Prop} (h : c = true) (x : A) : if c = true then A else B := by rw [if_pos h]; exact x
theorem ifF {c : Bool} {A B : Prop} (h : c = false) (x : B) : if c = true then A else B := by rw [if_neg (by rw [h]; exact Bool.false_ne_true)]; exact x
theorem log_small {i : Int} (h0 : 0 ≤ i) (h1 : i < 1000000) : i.natAbs.log2 < 1920 := by
  have h : i.natAbs < 2 ^ 20 := by omega
  by_cases z : i.natAbs = 0
  · rw [z]; decide
  · have := (Nat.log2_lt z).mpr h
    omega
def joinW (ws : List Str) : Str := Txt.join " " ws
theorem sum_le {c : Nat} : ∀ {ws : List Str}, (∀ x ∈ ws, x.length ≤ c) → (ws.map (·.length)).sum ≤ ws.length * c
  | [], _ => Nat.zero_le _
  | x :: xs, h => by
    have h1 := h x List.mem_cons_self
    have h2 := sum_le fun y hy => h y (List.mem_cons_of_mem _ hy)
    rw [List.map_cons, List.sum_cons, List.length_cons, Nat.succ_mul]
    omega
section
variable {P : Program} {w : World} {K : PySem.W.Frag} {mg : Str → Option Value} {base : Heap}
/-! ### words_text -/
theorem sc_words : FnScope ["parts", "words", "waiting", "part"] ["parts"] (defScope (top 9)) := ⟨rfl, rfl, rfl, by decide +kernel, rfl, by decide +kernel, by decide +kernel⟩
def spWords : Sp := fun vs H Q _ => ∃ (v : V) (ws : List Str) (k : Nat), vs = [v] ∧ Fs H [v] ws k ∧ k ≤ 1000 ∧ (∀ x ∈ ws, x.length ≤ 10) ∧ ∀ H', Same H H' → Q (.str (joinW ws)) H'
theorem d_words (T : Txt w K mg) (S : Src K mg "words_text" (top 9) ["parts"]) : Def P w K mg base 1 "words_text" ["parts"] spWords := by
  refine S.ok sc_words (fun vs H Q E h => ?_) (fun f cdv A outer s H vs Q E hr h => ?_)
  · obtain ⟨v, ws, k, rfl, _⟩ := h; rfl
  obtain ⟨v, ws, k, rfl, hF, hk, hw, q⟩ := h
  refine ⟨_, (pss_cons (ps_set (i := 1) sc_words.nd rfl (Or.inl rfl) (pe_lst pa_nil))
      (pss_cons (ps_set (i := 2) sc_words.nd rfl (Or.inl rfl) (pe_lst (pac (pv 0) pa_nil)))
      (pss_cons (ps_while PassesOwn.never (pt_cmpR op_gt (pe_cB call_len_seq rfl T.z_len bt_len (pac (pv 2) pa_nil)) pe_int (nomark _))
      (pss_cons (ps_set (i := 3) sc_words.nd rfl (Or.inl rfl) (pe_bm0 PySem.F.plainAttrs_list PySem.F.slot_list_pop PySem.F.type_list_pop mt_pop (pv 2)))
      (pss_one (ps_if (pt_val (pe_cB call_isi rfl T.z_isinstance bt_isinstance (pac (pv 3) (pac (pe_ty T.z_tuple bt_tuple rfl) pa_nil))))
      (pss_one (ps_expr (pe_bm PySem.F.plainAttrs_list PySem.F.slot_list_extend PySem.F.type_list_extend mt_extendT (pv 2) (pac (pe_rev (pv 3) (pe_un un_neg pe_int)) pa_nil))))
      (pss_one (ps_expr (pe_bm PySem.F.plainAttrs_list PySem.F.slot_list_append PySem.F.type_list_append mt_append (pv 1) (pac (pe_cT call_str_any rfl T.z_str bt_str (pac (pv 3) pa_nil)) pa_nil))))))))
      (pss_one (ps_ret (pe_bm PySem.F.plainAttrs_str PySem.F.slot_str_join PySem.F.type_str_join mt_join pe_str (pac (pv 1) pa_nil))))))), ?_⟩
  have l3 : (100000 : Nat) < sizeLine := by rw [sizeLine_eq]; decide
  refine ⟨(by show 0 ≤ sizeLine; omega), fun a ha => ?_⟩
  have sa := same_of_new ha (.lst [])
  refine ⟨_, rfl, (by show 1 ≤ sizeLine; omega), fun b hb => ?_⟩
  have sb := same_of_new hb (.lst [v])
  have hb0 : H b = none := sa.free hb
  have hab : a ≠ b := ne_of_none (o := .lst []) upd_same hb
  refine ⟨fun m σ H' => ∃ (st : List V) (ws1 ws2 : List Str) (x3 : Option V), σ = [some v, some (.ref a), some (.ref b), x3] ∧ Same H H' ∧ H' a = some (.lst (ws1.map V.str)) ∧ H' b = some (.lst st.reverse) ∧ Fs H st ws2 m ∧ m ≤ 1000 ∧ ws = ws1 ++ ws2, ⟨k, [v], [], ws, _, rfl, sa.trans sb, by rw [upd_ne hab]; exact upd_same, upd_same, hF, hk, rfl⟩, ?_⟩
  rintro m σ H' ⟨st, ws1, ws2, x3, rfl, s1, h1, h2, hF2, hm, rfl⟩
  refine ⟨_, rfl, b, _, rfl, .inl (SqL.of h2), _, _, rfl, rfl, _, rfl, ite2 (fun c => ?_) (fun c => ?_)⟩
  · have c' : (0 : Int) < ((st.reverse.length : Nat) : Int) := of_decide_eq_true c
    have hab' : a ≠ b := hab
    have ha0 : H a = none := ha
    cases st with
    | nil => simp at c'
    | cons y st =>
    have hlast : (y :: st).reverse[(y :: st).reverse.length - 1]? = some y := by simp
    have hdrop : (y :: st).reverse.dropLast = st.reverse := by simp
    refine ⟨_, fun _ _ h => h, ?_⟩
    refine ⟨_, rfl, .inl ⟨rfl, _, SqL.of h2⟩, b, _, y, rfl, rfl, h2, hlast, ?_⟩
    rw [hdrop]
    have s2 : Same H (upd H' b (.lst st.reverse)) := fun c o hc => by rw [upd_ne (ne_of_none hc hb0)]; exact s1 c o hc
    have h1' : upd H' b (.lst st.reverse) a = some (.lst (ws1.map V.str)) := by rw [upd_ne hab]; exact h1
    have h2' : upd H' b (.lst st.reverse) b = some (.lst st.reverse) := upd_same
    generalize upd H' b (.lst st.reverse) = H2 at *
    have hws := hF2.len
    have add : ∀ (x : Str), ws1.length ≤ 1000 → ∀ (w3 : List Str) (m3 : Nat) (y : V), m3 < m → Fs H st w3 m3 → ws1 ++ ws2 = (ws1 ++ [x]) ++ w3 → ∃ m', m' < m ∧ ∃ (st' : List V) (ws1' ws2' : List Str) (x3 : Option V), [some v, some (V.ref a), some (V.ref b), some y] = [some v, some (.ref a), some (.ref b), x3] ∧ Same H (upd H2 a (.lst (ws1.map V.str ++ [.str x]))) ∧ upd H2 a (.lst (ws1.map V.str ++ [.str x])) a = some (.lst (ws1'.map V.str)) ∧ upd H2 a (.lst (ws1.map V.str ++ [.str x])) b = some (.lst st'.reverse) ∧ Fs H st' ws2' m' ∧ m' ≤ 1000 ∧ ws1 ++ ws2 = ws1' ++ ws2' := by
      intro x _ w3 m3 y hm3 f e
      refine ⟨m3, hm3, st, ws1 ++ [x], w3, _, rfl, fun c o hc => by rw [upd_ne (ne_of_none hc ha0)]; exact s2 c o hc, by rw [upd_same, List.map_append]; rfl, by rw [upd_ne (Ne.symm hab)]; exact h2', f, by omega, e⟩
    have l1 : ws1.length ≤ 1000 := by
      have := hF.len.2
      rw [List.length_append] at this
      omega
    have l1' : (ws1.map V.str).length < sizeLine := by rw [List.length_map]; omega
    cases hF2 with
    | @word x _ ws3 m3 f =>
      refine ⟨_, rfl, _, "tuple", "str", rfl, rfl, by decide, _, rfl, ?_⟩
      refine ifF (by decide) ⟨_, rfl, .inl ⟨rfl, _, SqL.of h1'⟩, _, rfl, .inl ⟨x, rfl, a, _, _, rfl, rfl, h1', l1', ?_⟩⟩
      exact add x l1 ws3 m3 _ (Nat.lt_succ_self _) f (by simp)
    | @num i _ ws3 m3 i0 i1 f =>
      refine ⟨_, rfl, _, "tuple", "int", rfl, rfl, by decide, _, rfl, ?_⟩
      refine ifF (by decide) ⟨_, rfl, .inl ⟨rfl, _, SqL.of h1'⟩, _, rfl, .inr ⟨i, rfl, log_small i0 i1, a, _, _, rfl, rfl, h1', l1', ?_⟩⟩
      exact add (toString i) l1 ws3 m3 _ (Nat.lt_succ_self _) f (by simp)
    | @tup t xs _ _ m3 ht f =>
      have ht2 := s2 _ _ ht
      refine ⟨_, rfl, _, "tuple", "tuple", rfl, by unfold tyN; dsimp only; rw [ht2], by decide, _, rfl, ?_⟩
      have hfl := f.len.1
      rw [List.length_append] at hfl
      refine ifT (by decide) ⟨_, rfl, .inl ⟨rfl, _, SqL.of h2'⟩, _, rfl, 1, rfl, rfl, t, xs, rfl, ht2, fun u hu => ?_⟩
      have su := same_of_new hu (.tup xs.reverse)
      refine ⟨b, u, _, _, rfl, rfl, su _ _ h2', upd_same, by rw [List.length_reverse, List.length_reverse]; omega, ?_⟩
      have hub : u ≠ b := fun z => by rw [z, h2'] at hu; cases hu
      refine ⟨m3, Nat.lt_succ_self _, xs ++ st, ws1, ws2, _, rfl, fun c o hc => by rw [upd_ne (ne_of_none hc hb0)]; exact su _ _ (s2 c o hc), by rw [upd_ne hab]; exact su _ _ h1', by rw [upd_same, List.reverse_append], f, by omega, rfl⟩
  · have c' : ¬ (0 : Int) < ((st.reverse.length : Nat) : Int) := fun z => c (decide_eq_true z)
    have e : st = [] := by
      cases st with
      | nil => rfl
      | cons y st => exact absurd (by simp) c'
    subst e
    cases hF2
    rw [List.append_nil] at hF hw q
    have hl := hF.len.2
    have hs := sum_le hw
    have hone : (" " : Str).length = 1 := rfl
    exact ⟨rfl, _, rfl, " ", a, ws1, rfl, rfl, h1, by rw [hone]; omega, q _ s1⟩
end
end K10

set_option Elab.async false
set_option linter.all false
set_option maxRecDepth 100000
set_option maxHeartbeats 4000000
namespace L2
open PySem
theorem walk_lst {K : PySem.W.Frag} {a : Addr} {xs : List V} {te : TE} {cs σ0 : St} {H : Hp} {Qf : Addr → Hp → Prop} (f : V → V) (ha : H a = some (.lst xs)) (hz : xs.length ≤ 10000) (hσ : σ0 = none :: cs)
    (step : ∀ x H2 (k : VK), x ∈ xs → Same H H2 → (∀ H3, Same H2 H3 → k (f x) H3) → te (some x :: cs) H2 k)
    (fin : ∀ acc H', H acc = none → Same H H' → H' acc = some (.lst (xs.map f)) → Qf acc H') :
    ∀ acc, H acc = none → ∃ W : Nat → Nat → St → List V → Hp → Prop, (∃ m, W 0 m σ0 [] (upd H acc (.lst []))) ∧ ∀ i m σ2 ys H2, W i m σ2 ys H2 → H2 acc = some (.lst ys) ∧
    (((Itl K a).stop i H2 ∧ Qf acc H2) ∨ ((Itl K a).go i H2 ∧ ys.length < sizeLine ∧ ∀ x H3, (Itl K a).yld i H2 x H3 → gName 0 x σ2 H3 fun σ4 H4 => (fun (_ : St) (H : Hp) (Q : Bool → Hp → Prop) => Q true H) σ4 H4 fun b H5 =>
      if b = true then te σ4 H5 fun y H6 => H6 acc = some (.lst ys) ∧ ∃ m', m' < m ∧ W (i + 1) m' σ4 (ys ++ [y]) (upd H6 acc (.lst (ys ++ [y]))) else ∃ m', m' < m ∧ W (i + 1) m' σ4 ys H5)) :=
  walk_by (Rel.same H) xs (fun x y => y = f x) hz (fun i H2 s hi => ⟨xs, _, SqL.of (s _ _ ha), List.getElem?_eq_getElem hi⟩) (fun H2 s => ⟨xs, SqL.of (s _ _ ha), Nat.le_refl _⟩)
    (fun i H2 x H3 s _ y => ⟨y.1, y.2 xs (SqL.of (s _ _ ha))⟩) hσ (fun x acc ys H2 k hx hn hl s hk => step x H2 k hx s fun H3 s3 => hk _ _ rfl (s.trans s3) (s3 _ _ hl))
    (fun acc ys H' hn s hl hp => fin acc H' hn s (by
      have : ys = xs.map f := by
        clear hl fin step ha hz
        induction hp with
        | nil => rfl
        | cons h _ ih => rw [List.map_cons, ← ih, h]
      rw [← this]; exact hl))
end L2
namespace K10
open PySem L2
seal L2.PE L2.PS L2.PSs L2.PT L2.PW L2.PA L2.PG L2.PGs L2.PI L2.PO L2.PIfs L2.PC L2.OpR L2.CallR L2.IxR L2.SlR L2.PSet L2.UnR
theorem inS (x : Str) (ws : List Str) : inV (.str x) (ws.map V.str) = decide (x ∈ ws) := by
  unfold inV
  rw [Bool.eq_iff_iff, List.any_eq_true, decide_eq_true_iff]
  constructor
  · rintro ⟨y, hy, e⟩
    obtain ⟨z, hz, rfl⟩ := List.mem_map.mp hy
    have e' : (z == x) = true := e
    have e2 : z = x := by simpa using e'
    exact e2 ▸ hz
  · intro h
    refine ⟨.str x, List.mem_map.mpr ⟨x, h, rfl⟩, ?_⟩
    show (x == x) = true
    simp
theorem flat_strs (ns : List Str) : (ns.map V.str).all flatV = true := by
  rw [List.all_eq_true]
  intro v hv
  obtain ⟨x, _, rfl⟩ := List.mem_map.mp hv
  rfl
def hL : List Str → Nat
  | [] => 0
  | k :: ks => if k = "rows" then 0 else hL ks + 1
theorem rows_at : ∀ {ks : List Str}, ("rows" : Str) ∈ ks → ks[hL ks]? = some "rows" ∧ (∀ m, m < hL ks → ks[m]? ≠ some "rows") ∧ hL ks < ks.length
  | [], h => by cases h
  | k :: ks, h => by
    unfold hL
    by_cases c : k = "rows"
    · rw [if_pos c]
      subst c
      exact ⟨rfl, fun m hm => absurd hm (Nat.not_lt_zero _), by simp⟩
    · rw [if_neg c]
      have h' : ("rows" : Str) ∈ ks := by
        rcases List.mem_cons.mp h with z | z
        · exact absurd z.symm c
        · exact z
      obtain ⟨a, b, d⟩ := rows_at h'
      refine ⟨by simpa using a, fun m hm => ?_, by rw [List.length_cons]; omega⟩
      cases m with
      | zero => intro z; simp at z; exact c z
      | succ m => intro z; exact b m (by omega) (by simpa using z)
theorem hL_no : ∀ {ks : List Str}, ("rows" : Str) ∉ ks → hL ks = ks.length
  | [], _ => rfl
  | k :: ks, h => by
    unfold hL
    rw [if_neg (fun z => h (by rw [z]; exact List.mem_cons_self)), hL_no (fun z => h (List.mem_cons_of_mem _ z)), List.length_cons]
theorem cut_to (xs : List V) (j : Nat) : cutV xs none (some (j : Int)) = xs.take j := by
  unfold cutV
  rw [HT.sIx_none, HT.sIx_nat, List.drop_zero, Nat.sub_zero]
  rcases Nat.le_total j xs.length with h | h
  · rw [Nat.min_eq_left h]
  · rw [Nat.min_eq_right h, List.take_of_length_le (Nat.le_refl _), List.take_of_length_le h]
section
variable {P : Program} {w : World} {K : PySem.W.Frag} {mg : Str → Option Value} {base : Heap}
/-! ### head_kinds -/
theorem sc_head : FnScope ["word", "kinds"] ["word"] (defScope (top 2)) := ⟨rfl, rfl, rfl, by decide +kernel, rfl, by decide +kernel, by decide +kernel⟩
def spHead (K : PySem.W.Frag) : Sp := fun vs H Q _ => ∃ (wd : Str) (ks : List Str), vs = [.str wd] ∧ rforms wd = some ks ∧ ∀ (b : Addr) (xs : List V) H', Same H H' → SqT K H' b xs → xs.length = hL ks → Q (.ref b) H'
theorem d_head (T : Txt w K mg) (S : Src K mg "head_kinds" (top 2) ["word"]) : Def P w K mg base 1 "head_kinds" ["word"] (spHead K) := by
  obtain ⟨aF, mF, tab⟩ := T.tab
  refine S.ok sc_head (fun vs H Q E h => ?_) (fun f cdv A outer s H vs Q E hr h => ?_)
  · obtain ⟨wd, ks, rfl, _⟩ := h; rfl
  obtain ⟨wd, ks, rfl, hks, q⟩ := h
  refine ⟨_, (pss_cons (ps_set (i := 1) sc_head.nd rfl (Or.inl rfl) (pe_ix (ix_tabN tab) (pe_glob (v := .ref aF) rfl mF rfl) (pv 0) (fun _ _ => rfl)))
      (pss_cons (ps_if (pt_cmpR op_in_seq pe_str (pv 1) (by rfl))
      (pss_one (ps_ret (pe_slice sl_tup (pv 1) po_none (po_some (pe_bm PySem.F.plainAttrs_tuple PySem.F.slot_tuple_index PySem.F.type_tuple_index mt_tindex (pv 1) (pac pe_str pa_nil)))))) pss_nil)
      (pss_one (ps_ret (pv 1))))), ?_⟩
  refine ⟨_, rfl, rfl, wd, ks, rfl, hks, fun b hb => ?_⟩
  refine ⟨_, rfl, b, _, rfl, .inr hb.sq, rfl, flat_strs ks, _, rfl, ?_⟩
  rw [show (if false = true then !inV (.str "rows") (ks.map V.str) else inV (.str "rows") (ks.map V.str)) = decide (("rows" : Str) ∈ ks) from inS _ _]
  refine ite2 (fun c => ?_) (fun c => ?_)
  · obtain ⟨r1, r2, r3⟩ := rows_at (of_decide_eq_true c)
    refine ⟨_, rfl, _, rfl, hb.ty, b, ks, "rows", hL ks, rfl, rfl, hb.sq, r1, r2, _, rfl, b, _, rfl, hb.sq, ?_, fun p hp => ?_⟩
    · rintro ⟨_, z⟩
      rw [HT.sIx_nat, List.length_map] at z
      omega
    · rw [cut_to]
      exact q p _ _ (same_of_new hp _) (SqT.of upd_same) (by rw [List.length_take, List.length_map]; omega)
  · have c' : ("rows" : Str) ∉ ks := fun z => c (decide_eq_true z)
    exact ⟨_, rfl, q b _ H (Same.refl H) hb.sq (by rw [hL_no c', List.length_map])⟩
/-! ### row_text, value_text -/
theorem sc_rowt : FnScope ["row"] ["row"] (defScope (top 6)) := ⟨rfl, rfl, rfl, by decide +kernel, rfl, by decide +kernel, by decide +kernel⟩
/-- a row's first line -/
def RowHd (H : Hp) (r : V) (ws : List Str) : Prop := ∃ (a : Addr) (wd : Str) (rest : List V) (k : Nat), r = .ref a ∧ H a = some (.tup (.str wd :: rest)) ∧ k ≤ 900 ∧ (∀ x ∈ ws, x.length ≤ 10) ∧
  ((wd = "def" ∧ Fs H (.str wd :: rest) ws k) ∨ (wd ≠ "def" ∧ ∃ ks, rforms wd = some ks ∧ Fs H (.str wd :: rest.take (hL ks)) ws k))
def spRowT : Sp := fun vs H Q _ => ∃ (r : V) (ws : List Str), vs = [r] ∧ RowHd H r ws ∧ ∀ H', Same H H' → Q (.str (joinW ws)) H'
theorem d_rowt (T : Txt w K mg) (D_words : Def P w K mg base 1 "words_text" ["parts"] spWords) (D_head : Def P w K mg base 1 "head_kinds" ["word"] (spHead K)) (S : Src K mg "row_text" (top 6) ["row"]) : Def P w K mg base 2 "row_text" ["row"] spRowT := by
  refine S.ok sc_rowt (fun vs H Q E h => ?_) (fun f cdv A outer s H vs Q E hr h => ?_)
  · obtain ⟨r, ws, rfl, _⟩ := h; rfl
  obtain ⟨r, ws, rfl, ⟨a, wd, rest, k, rfl, ha, hk, hw, hc⟩, q⟩ := h
  refine ⟨_, (pss_cons (ps_if (pt_cmpR op_eq (pe_ix ix_tup (pv 0) pe_int (fun _ _ => rfl)) pe_str (nomark _))
      (pss_one (ps_ret (pe_def (D_words.mono (by decide)) hr rfl (pac (pv 0) pa_nil)))) pss_nil)
      (pss_one (ps_ret (pe_def (D_words.mono (by decide)) hr rfl (pac (pe_slice sl_tupW (pv 0) po_none (po_some (pe_op op_add pe_int (pe_cB call_len_seq rfl T.z_len bt_len (pac (pe_def (D_head.mono (by decide)) hr rfl (pac (pe_ix ix_tup (pv 0) pe_int (fun _ _ => rfl)) pa_nil)) pa_nil))))) pa_nil))))), ?_⟩
  refine ⟨_, rfl, a, _, 0, _, rfl, rfl, SqT.of ha, atI_nat (j := 0) rfl, rfl, _, rfl, ite2 (fun c => ?_) (fun c => ?_)⟩
  · have c' : wd = "def" := by have := of_decide_eq_true c; injection this
    rcases hc with ⟨_, hF⟩ | ⟨z, _⟩
    · exact ⟨_, rfl, _, ws, k + 1, rfl, .tup ha (by rw [List.append_nil]; exact hF), by omega, hw, q⟩
    · exact absurd c' z
  · have c' : wd ≠ "def" := fun z => c (decide_eq_true (by rw [z]))
    rcases hc with ⟨z, _⟩ | ⟨_, ks, hks, hF⟩
    · exact absurd z c'
    · refine ⟨_, rfl, _, rfl, a, _, 0, _, rfl, rfl, SqT.of ha, atI_nat (j := 0) rfl, wd, ks, rfl, hks, fun b xs H1 s1 hb hl => ?_⟩
      refine ⟨b, _, rfl, .inr hb, _, _, rfl, rfl, _, rfl, a, _, rfl, s1 _ _ ha, fun p H2 s2 h2 => ?_⟩
      rw [show (1 : Int) + ((xs.length : Nat) : Int) = ((hL ks + 1 : Nat) : Int) by omega, cut_to, List.take_succ_cons] at h2
      have tk := (TK.of s1).trans (TK.of s2)
      exact ⟨_, ws, k + 1, rfl, .tup h2 (by rw [List.append_nil]; exact hF.tk tk), by omega, hw, fun H' s' => q H' (s1.trans (s2.trans s'))⟩
theorem sc_valt : FnScope ["value"] ["value"] (defScope (top 7)) := ⟨rfl, rfl, rfl, by decide +kernel, rfl, by decide +kernel, by decide +kernel⟩
def spValT : Sp := fun vs H Q _ => ∃ (v : V) (ws : List Str), vs = [v] ∧ Vl H 3 v ws ∧ ∀ H', Same H H' → Q (.str (joinW ws)) H'
theorem d_valt (T : Txt w K mg) (D_words : Def P w K mg base 1 "words_text" ["parts"] spWords) (S : Src K mg "value_text" (top 7) ["value"]) : Def P w K mg base 2 "value_text" ["value"] spValT := by
  refine S.ok sc_valt (fun vs H Q E h => ?_) (fun f cdv A outer s H vs Q E hr h => ?_)
  · obtain ⟨r, ws, rfl, _⟩ := h; rfl
  obtain ⟨r, ws, rfl, hv, q⟩ := h
  refine ⟨_, (pss_one (ps_ret (pe_def (D_words) hr rfl (pac (pv 0) pa_nil)))), ?_⟩
  obtain ⟨m, hm, hF⟩ := hv.fs (Fs.nil (H := H))
  rw [List.append_nil] at hF
  have : vK 3 = 21 := rfl
  exact ⟨_, rfl, _, ws, m, rfl, hF, by omega, hv.words, q⟩
/-! ### lines_text -/
theorem sc_lines : FnScope ["lines"] ["lines"] (defScope (top 8)) := ⟨rfl, rfl, rfl, by decide +kernel, rfl, by decide +kernel, by decide +kernel⟩
def joinL (ls : List Str) : Str := Txt.join "" (ls.map fun (l : Str) => l ++ ("\n" : Str))
def spLines : Sp := fun vs H Q _ => ∃ (l : Addr) (ls : List Str), vs = [.ref l] ∧ H l = some (.lst (ls.map V.str)) ∧ ls.length ≤ 10000 ∧ (∀ x ∈ ls, x.length ≤ 400) ∧ ∀ H', Same H H' → Q (.str (joinL ls)) H'
def nl : V → V
  | .str x => .str (x ++ "\n")
  | v => v
theorem nl_map (ls : List Str) : (ls.map V.str).map nl = (ls.map fun (l : Str) => l ++ ("\n" : Str)).map V.str := by
  rw [List.map_map, List.map_map]; rfl
theorem joinL_ok {ls : List Str} (h : ls.length ≤ 10000) (h3 : ∀ x ∈ ls, x.length ≤ 400) : ((ls.map fun (l : Str) => l ++ ("\n" : Str)).map (·.length)).sum + (ls.map fun (l : Str) => l ++ ("\n" : Str)).length * ("" : Str).length ≤ 16777216 := by
  have h1 : ∀ x ∈ (ls.map fun (l : Str) => l ++ ("\n" : Str)), x.length ≤ 401 := fun x hx => by
    obtain ⟨y, hy, rfl⟩ := List.mem_map.mp hx
    rw [len_append]
    have := h3 y hy
    show y.length + 1 ≤ 401
    omega
  have h2 := sum_le h1
  rw [List.length_map] at h2 ⊢
  have h0 : ("" : Str).length = 0 := rfl
  rw [h0]
  omega
theorem d_lines (T : Txt w K mg) (S : Src K mg "lines_text" (top 8) ["lines"]) : Def P w K mg base 1 "lines_text" ["lines"] spLines := by
  refine S.ok sc_lines (fun vs H Q E h => ?_) (fun f cdv A outer s H vs Q E hr h => ?_)
  · obtain ⟨l, ls, rfl, _⟩ := h; rfl
  obtain ⟨l, ls, rfl, hl, hn, h3, q⟩ := h
  refine ⟨_, (pss_one (ps_ret (pe_bm PySem.F.plainAttrs_str PySem.F.slot_str_join PySem.F.type_str_join mt_join pe_str (pac (pe_comp (N' := ["line"]) (comp_scope (defScope (top 8)) (by rfl) (by decide +kernel) (by decide +kernel) (by decide +kernel) (by decide +kernel) (by decide +kernel) (by decide +kernel)) rfl (capt 1 [] (by rfl) (by rfl) (by decide +kernel)) (pi_list (pv 0)) (fun _ _ _ => pg_name (i := 0) (show (["line"] : List Str).Nodup by decide +kernel) rfl (Or.inl rfl) (Or.inr rfl)) (fun _ _ _ => pifs_nil) (fun _ _ _ => (pe_op op_add_str (pv 0) pe_str))) pa_nil)))), ?_⟩
  have l3 : (100000 : Nat) < sizeLine := by rw [sizeLine_eq]; decide
  refine ⟨rfl, _, rfl, l, rfl, ⟨_, SqL.of hl⟩, walk_lst (te := tOp (fun x y H Q => ∃ i j, x = .str i ∧ y = .str j ∧ i.length + j.length ≤ sizeLine ∧ Q (.str (i ++ j)) H) (tVar 0) (tC (.str "\n"))) (cs := []) nl hl (by rw [List.length_map]; exact hn) (by rfl) (fun x H2 k2 hx2 s2 hk2 => ?_) (fun acc H' hna s' hl' => ?_)⟩
  · obtain ⟨x, hx, rfl⟩ := List.mem_map.mp hx2
    have h1 : ("\n" : Str).length = 1 := rfl
    have := h3 x hx
    exact ⟨_, rfl, x, "\n", rfl, rfl, by omega, hk2 _ (Same.refl _)⟩
  · rw [nl_map] at hl'
    exact ⟨"", acc, _, rfl, rfl, hl', joinL_ok hn h3, q _ s'⟩
end
end K10

set_option Elab.async false
set_option linter.all false
set_option maxRecDepth 100000
set_option maxHeartbeats 4000000
namespace K10
open PySem L2
seal L2.PE L2.PS L2.PSs L2.PT L2.PW L2.PA L2.PG L2.PGs L2.PI L2.PO L2.PIfs L2.PC L2.OpR L2.CallR L2.IxR L2.SlR L2.PSet L2.UnR
theorem But.tk {T : Addr} {H H' : Hp} {us : List V} (b : But T H H') (h : H T = some (.lst us)) : TK H H' := fun c xs hc => b c _ (ne_of hc h (by intro z; cases z)) hc
theorem But.trans {T : Addr} {H H1 H2 : Hp} (a : But T H H1) (b : But T H1 H2) : But T H H2 := fun c o hc h => b c o hc (a c o hc h)
theorem But.of {T : Addr} {H H' : Hp} (s : Same H H') : But T H H' := fun c o _ h => s c o h
theorem But.refl (T : Addr) (H : Hp) : But T H H := fun _ _ _ h => h
theorem But.upd (T : Addr) (H : Hp) (o : HO) : But T H (upd H T o) := fun c u hc h => by rw [upd_ne hc]; exact h
/-! ### rows -/
def plains : List Str := ["set", "push", "pop", "put", "ask", "tell", "fail", "return"]
def Pt (H : Hp) (v : V) (ws : List Str) : Prop := (∃ x : Str, v = .str x ∧ ws = [x] ∧ 1 ≤ x.length ∧ x.length ≤ 10) ∨ Vl H 3 v ws
/-- where a set's and a tell's value stands -/
def Vsel (H : Hp) (wd : Str) (rest : List V) : Prop := (wd = "set" → ∃ x v us, rest = [x, v] ∧ Vl H 3 v us) ∧ (wd = "tell" → ∃ v us, rest = [v] ∧ Vl H 3 v us)
inductive PRow (H : Hp) : V → List Str → Prop
  | parts {a : Addr} {wd : Str} {rest : List V} {wss : List (List Str)} {ks : List Str} : H a = some (.tup (.str wd :: rest)) → wd ∈ plains → rforms wd = some ks → ks.length = rest.length → rest.length ≤ 3 → Paired (Pt H) rest wss → Vsel H wd rest → PRow H (.ref a) (wd :: wss.flatten)
  | call {a c : Addr} {x f : Str} {vals : List V} {wss : List (List Str)} : H a = some (.tup [.str "call", .str x, .str f, .ref c]) → x.length ≤ 10 → f.length ≤ 10 → H c = some (.tup vals) → vals.length ≤ 2 → Paired (Vl H 3) vals wss → PRow H (.ref a) ("call" :: x :: f :: wss.flatten)
theorem paired_imp {α β : Type} {R S : α → β → Prop} (h : ∀ a b, R a b → S a b) : ∀ {xs : List α} {ys : List β}, Paired R xs ys → Paired S xs ys
  | _, _, .nil => .nil
  | _, _, .cons r rs => .cons (h _ _ r) (paired_imp h rs)
theorem Pt.tk {H H' : Hp} (k : TK H H') {v : V} {ws : List Str} (h : Pt H v ws) : Pt H' v ws := h.imp id fun h => h.tk k
theorem PRow.tk {H H' : Hp} (k : TK H H') {v : V} {ws : List Str} (h : PRow H v ws) : PRow H' v ws := by
  cases h with
  | parts a b c d e f g => exact .parts (k _ _ a) b c d e (paired_imp (fun _ _ h => Pt.tk k h) f) ⟨fun z => let ⟨x, v, us, e, h⟩ := g.1 z; ⟨x, v, us, e, h.tk k⟩, fun z => let ⟨v, us, e, h⟩ := g.2 z; ⟨v, us, e, h.tk k⟩⟩
  | call a b c d e f => exact .call (k _ _ a) b c (k _ _ d) e (paired_imp (fun _ _ h => h.tk k) f)
theorem vals_fs {H : Hp} : ∀ {vals : List V} {wss : List (List Str)}, Paired (Vl H 3) vals wss → ∀ {st : List V} {us : List Str} {k : Nat}, Fs H st us k → ∃ m, m ≤ k + 21 * vals.length ∧ Fs H (vals ++ st) (wss.flatten ++ us) m
  | _, _, .nil, _, _, k, f => ⟨k, by simp, f⟩
  | _, _, .cons h hs, st, us, k, f => by
    obtain ⟨m, hm, g⟩ := vals_fs hs f
    obtain ⟨m2, hm2, g2⟩ := h.fs g
    have : vK 3 = 21 := rfl
    refine ⟨m2, by rw [List.length_cons]; omega, ?_⟩
    rw [List.flatten_cons, List.append_assoc]
    exact g2
theorem pts_fs {H : Hp} : ∀ {vals : List V} {wss : List (List Str)}, Paired (Pt H) vals wss → ∃ m, m ≤ 21 * vals.length ∧ Fs H vals wss.flatten m
  | _, _, .nil => ⟨0, Nat.le_refl _, .nil⟩
  | _, _, .cons h hs => by
    obtain ⟨m, hm, g⟩ := pts_fs hs
    rcases h with ⟨x, rfl, rfl, _⟩ | h
    · exact ⟨m + 1, by rw [List.length_cons]; omega, .word g⟩
    · obtain ⟨m2, hm2, g2⟩ := h.fs g
      have : vK 3 = 21 := rfl
      exact ⟨m2, by rw [List.length_cons]; omega, g2⟩
theorem vals_words {H : Hp} : ∀ {vals : List V} {wss : List (List Str)}, Paired (Vl H 3) vals wss → (∀ x ∈ wss.flatten, x.length ≤ 10) ∧ wss.flatten.length ≤ 11 * vals.length
  | _, _, .nil => ⟨fun x hx => absurd hx (by simp), Nat.zero_le _⟩
  | _, _, .cons h hs => by
    obtain ⟨a, b⟩ := vals_words hs
    have := h.len
    have e : vB 3 = 11 := rfl
    refine ⟨fun x hx => ?_, by rw [List.flatten_cons, List.length_append, List.length_cons]; omega⟩
    rw [List.flatten_cons] at hx
    rcases List.mem_append.mp hx with hx | hx
    · exact h.words x hx
    · exact a x hx
theorem pts_words {H : Hp} : ∀ {vals : List V} {wss : List (List Str)}, Paired (Pt H) vals wss → (∀ x ∈ wss.flatten, x.length ≤ 10) ∧ wss.flatten.length ≤ 11 * vals.length
  | _, _, .nil => ⟨fun x hx => absurd hx (by simp), Nat.zero_le _⟩
  | _, _, .cons h hs => by
    obtain ⟨a, b⟩ := pts_words hs
    rcases h with ⟨z, rfl, rfl, _, hz⟩ | h
    · refine ⟨fun x hx => ?_, by simp only [List.flatten_cons, List.length_append, List.length_cons, List.length_nil]; omega⟩
      rw [List.flatten_cons] at hx
      rcases List.mem_append.mp hx with hx | hx
      · rw [List.mem_singleton.mp hx]; exact hz
      · exact a x hx
    · have := h.len
      have e : vB 3 = 11 := rfl
      refine ⟨fun x hx => ?_, by rw [List.flatten_cons, List.length_append, List.length_cons]; omega⟩
      rw [List.flatten_cons] at hx
      rcases List.mem_append.mp hx with hx | hx
      · exact h.words x hx
      · exact a x hx
theorem mem_words {x : Str} {xs : List Str} (h : x.length ≤ 10) (hs : ∀ y ∈ xs, y.length ≤ 10) : ∀ y ∈ x :: xs, y.length ≤ 10 := fun y hy => by
  rcases List.mem_cons.mp hy with rfl | hy
  · exact h
  · exact hs y hy
theorem plains_10 : ∀ x ∈ plains, x.length ≤ 10 := by decide +kernel
theorem plains_ne : ∀ x ∈ plains, x ≠ "def" ∧ x ≠ "if" ∧ x ≠ "while" ∧ x ≠ "try" ∧ x ≠ "call" := by decide +kernel
theorem plains_no : ∀ x ∈ plains, ∀ ks, rforms x = some ks → ("rows" : Str) ∉ ks := by
  intro x hx ks h
  have : ∀ y ∈ plains, (rforms y).all (fun ks => !ks.contains "rows") = true := by decide +kernel
  have := this x hx
  rw [h] at this
  intro z
  simp at this
  exact this z
theorem PRow.words {H : Hp} {v : V} {ws : List Str} (h : PRow H v ws) : (∀ x ∈ ws, x.length ≤ 10) ∧ ws.length ≤ 34 := by
  cases h with
  | parts a b c d e f _ =>
    obtain ⟨p, q⟩ := pts_words f
    exact ⟨mem_words (plains_10 _ b) p, by rw [List.length_cons]; omega⟩
  | call a b c d e f =>
    obtain ⟨p, q⟩ := vals_words f
    exact ⟨mem_words (by decide) (mem_words b (mem_words c p)), by simp only [List.length_cons]; omega⟩
theorem PRow.hd {H : Hp} {v : V} {ws : List Str} (h : PRow H v ws) : RowHd H v ws := by
  have hw := h.words.1
  cases h with
  | @parts a wd rest wss ks h1 b c d e f =>
    obtain ⟨m, hm, g⟩ := pts_fs f
    refine ⟨a, wd, rest, m + 1, rfl, h1, by omega, hw, .inr ⟨(plains_ne _ b).1, ks, c, ?_⟩⟩
    rw [hL_no (plains_no _ b _ c), d, List.take_length]
    exact .word g
  | @call a cc x f vals wss h1 b c d e g =>
    obtain ⟨m, hm, k⟩ := vals_fs g (Fs.nil (H := H))
    refine ⟨a, "call", _, m + 4, rfl, h1, by omega, hw, .inr ⟨by decide, _, rfl, ?_⟩⟩
    rw [List.append_nil, List.append_nil] at k
    exact .word (.word (.word (.tup d (by rw [List.take_nil, List.append_nil]; exact k))))
theorem if_hd {H : Hp} {a : Addr} {v : V} {b c : Addr} {ws : List Str} (h : H a = some (.tup [.str "if", v, .ref b, .ref c])) (hv : Vl H 3 v ws) : RowHd H (.ref a) ("if" :: ws) := by
  obtain ⟨m, hm, g⟩ := hv.fs (Fs.nil (H := H))
  rw [List.append_nil] at g
  have : vK 3 = 21 := rfl
  exact ⟨a, "if", _, m + 1, rfl, h, by omega, mem_words (by decide) hv.words, .inr ⟨by decide, _, rfl, .word g⟩⟩
theorem while_hd {H : Hp} {a : Addr} {v : V} {b : Addr} {ws : List Str} (h : H a = some (.tup [.str "while", v, .ref b])) (hv : Vl H 3 v ws) : RowHd H (.ref a) ("while" :: ws) := by
  obtain ⟨m, hm, g⟩ := hv.fs (Fs.nil (H := H))
  rw [List.append_nil] at g
  have : vK 3 = 21 := rfl
  exact ⟨a, "while", _, m + 1, rfl, h, by omega, mem_words (by decide) hv.words, .inr ⟨by decide, _, rfl, .word g⟩⟩
theorem try_hd {H : Hp} {a : Addr} {b c : Addr} {x : V} (h : H a = some (.tup [.str "try", .ref b, x, .ref c])) : RowHd H (.ref a) ["try"] :=
  ⟨a, "try", _, 1, rfl, h, by omega, mem_words (by decide) (fun y hy => by cases hy), .inr ⟨by decide, _, rfl, .word .nil⟩⟩
/-! ### the lines of rows -/
abbrev Lns := List (Nat × Str)
def up (o : Lns) : Lns := o.map fun p => (p.1 + 1, p.2)
abbrev ende : Nat × Str := (0, "end")
def els (cs : List V) (o : Lns) : Lns := if cs = [] then [] else (0, "else") :: up o
inductive Rs (H : Hp) : Nat → List V → Lns → Prop
  | nil {d : Nat} : Rs H d [] []
  | plain {d : Nat} {r : V} {rest : List V} {ws : List Str} {o : Lns} : PRow H r ws → Rs H d rest o → Rs H d (r :: rest) ((0, joinW ws) :: o)
  | ifs {d : Nat} {a b c : Addr} {v : V} {bs cs rest : List V} {ws : List Str} {o1 o2 o : Lns} : H a = some (.tup [.str "if", v, .ref b, .ref c]) → Vl H 3 v ws → H b = some (.tup bs) → H c = some (.tup cs) → Rs H d bs o1 → Rs H d cs o2 → Rs H (d + 1) rest o →
      Rs H (d + 1) (.ref a :: rest) ((0, joinW ("if" :: ws)) :: (up o1 ++ (els cs o2 ++ ende :: o)))
  | whl {d : Nat} {a b : Addr} {v : V} {bs rest : List V} {ws : List Str} {o1 o : Lns} : H a = some (.tup [.str "while", v, .ref b]) → Vl H 3 v ws → H b = some (.tup bs) → Rs H d bs o1 → Rs H (d + 1) rest o →
      Rs H (d + 1) (.ref a :: rest) ((0, joinW ("while" :: ws)) :: (up o1 ++ ende :: o))
  | tri {d : Nat} {a b c : Addr} {x : Str} {bs cs rest : List V} {o1 o2 o : Lns} : H a = some (.tup [.str "try", .ref b, .str x, .ref c]) → x.length ≤ 10 → H b = some (.tup bs) → H c = some (.tup cs) → Rs H d bs o1 → Rs H d cs o2 → Rs H (d + 1) rest o →
      Rs H (d + 1) (.ref a :: rest) ((0, joinW ["try"]) :: (up o1 ++ ((0, joinW ["catch", x]) :: (up o2 ++ ende :: o))))
theorem Rs.tk {H H' : Hp} (k : TK H H') {d : Nat} {rs : List V} {o : Lns} (h : Rs H d rs o) : Rs H' d rs o := by
  induction h with
  | nil => exact .nil
  | plain a _ ih => exact .plain (a.tk k) ih
  | ifs a b c d _ _ _ i1 i2 i3 => exact .ifs (k _ _ a) (b.tk k) (k _ _ c) (k _ _ d) i1 i2 i3
  | whl a b c _ _ i1 i2 => exact .whl (k _ _ a) (b.tk k) (k _ _ c) i1 i2
  | tri a b c d _ _ _ i1 i2 i3 => exact .tri (k _ _ a) b (k _ _ c) (k _ _ d) i1 i2 i3
theorem Rs.app {H : Hp} {d : Nat} {rs ss : List V} {o p : Lns} (h : Rs H d rs o) (g : Rs H d ss p) : Rs H d (rs ++ ss) (o ++ p) := by
  induction h with
  | nil => exact g
  | plain a _ ih => exact .plain a (ih g)
  | ifs a b c d h1 h2 _ _ _ i3 =>
    have := Rs.ifs a b c d h1 h2 (i3 g)
    simpa only [List.cons_append, List.append_assoc] using this
  | whl a b c h1 _ _ i2 =>
    have := Rs.whl a b c h1 (i2 g)
    simpa only [List.cons_append, List.append_assoc] using this
  | tri a b c d h1 h2 _ _ _ i3 =>
    have := Rs.tri a b c d h1 h2 (i3 g)
    simpa only [List.cons_append, List.append_assoc] using this
theorem up_len (o : Lns) : (up o).length = o.length := List.length_map ..
theorem els_len (cs : List V) (o : Lns) : (els cs o).length ≤ o.length + 1 := by
  unfold els
  split
  · exact Nat.zero_le _
  · rw [List.length_cons, up_len]; exact Nat.le_refl _
theorem joinW_eq (ws : List Str) : joinW ws = Str.join " " ws := StrLaws.glued_eq_join " " ws
theorem joinW_len {ws : List Str} (h : ∀ x ∈ ws, x.length ≤ 10) : (joinW ws).length ≤ ws.length * 11 := by
  rw [joinW_eq]
  have h1 := StrLaws.join_length_le " " ws
  have h2 := sum_le h
  have e : (" " : Str).length = 1 := rfl
  rw [e] at h1
  omega
/-- a line's bounds -/
def LnOk (d : Nat) (o : Lns) : Prop := ∀ p ∈ o, p.1 ≤ d ∧ p.2.length ≤ 380
theorem LnOk.up {d : Nat} {o : Lns} (h : LnOk d o) : LnOk (d + 1) (K10.up o) := fun p hp => by
  obtain ⟨q, hq, rfl⟩ := List.mem_map.mp hp
  have := h q hq
  exact ⟨by show q.1 + 1 ≤ d + 1; omega, this.2⟩
theorem LnOk.cons {d : Nat} {o : Lns} {x : Str} (hx : x.length ≤ 380) (h : LnOk d o) : LnOk d ((0, x) :: o) := fun p hp => by
  rcases List.mem_cons.mp hp with rfl | hp
  · exact ⟨Nat.zero_le _, hx⟩
  · exact h p hp
theorem LnOk.app {d : Nat} {o p : Lns} (h : LnOk d o) (g : LnOk d p) : LnOk d (o ++ p) := fun q hq => by
  rcases List.mem_append.mp hq with hq | hq
  · exact h q hq
  · exact g q hq
theorem LnOk.els {d : Nat} {o : Lns} (cs : List V) (h : LnOk d o) : LnOk (d + 1) (K10.els cs o) := by
  unfold K10.els
  split
  · exact fun p hp => by cases hp
  · exact h.up.cons (by decide)
theorem Rs.ok {H : Hp} {d : Nat} {rs : List V} {o : Lns} (h : Rs H d rs o) : LnOk d o := by
  induction h with
  | nil => exact fun p hp => by cases hp
  | plain a _ ih =>
    have := joinW_len a.words.1
    have := a.words.2
    exact ih.cons (by omega)
  | @ifs d a' b' c' v' _ _ _ ws' _ _ _ a b c d h1 h2 _ i1 i2 i3 =>
    have h4 := joinW_len (mem_words (x := "if") (by decide) b.words)
    have h5 := b.len
    have e : vB 3 = 11 := rfl
    rw [List.length_cons] at h4
    exact .cons (by omega) (.app i1.up (.app (.els _ i2) (.cons (by decide) i3)))
  | @whl d a' b' v' _ _ ws' _ _ a b c h1 _ i1 i2 =>
    have h4 := joinW_len (mem_words (x := "while") (by decide) b.words)
    have h5 := b.len
    have e : vB 3 = 11 := rfl
    rw [List.length_cons] at h4
    exact .cons (by omega) (.app i1.up (.cons (by decide) i2))
  | @tri d a' b' c' x _ _ _ _ _ _ a b c d h1 h2 _ i1 i2 i3 =>
    have h4 := joinW_len (mem_words (x := "catch") (by decide) (mem_words b (fun y (hy : y ∈ ([] : List Str)) => by cases hy)))
    exact .cons (by decide) (.app i1.up (.cons (by simp only [List.length_cons, List.length_nil] at h4; omega) (.app i2.up (.cons (by decide) i3))))
def pad : Nat → Str
  | 0 => ""
  | m + 1 => pad m ++ "  "
theorem pad_len : ∀ m, (pad m).length = 2 * m
  | 0 => rfl
  | m + 1 => by
    show (pad m ++ ("  " : Str)).length = _
    rw [len_append, pad_len m]
    show 2 * m + 2 = _
    omega
def ln (m : Nat) (p : Nat × Str) : Str := pad (m + p.1) ++ p.2
theorem ln_up (m : Nat) (o : Lns) : (up o).map (ln m) = o.map (ln (m + 1)) := by
  unfold up
  rw [List.map_map]
  congr 1
  funext p
  show pad (m + (p.1 + 1)) ++ p.2 = pad (m + 1 + p.1) ++ p.2
  rw [show m + (p.1 + 1) = m + 1 + p.1 by omega]
theorem ln_0 (m : Nat) (x : Str) : ln m (0, x) = pad m ++ x := rfl
end K10

set_option Elab.async false
set_option linter.all false
set_option maxRecDepth 100000
set_option maxHeartbeats 4000000
namespace K10
open PySem L2
seal L2.PE L2.PS L2.PSs L2.PT L2.PW L2.PA L2.PG L2.PGs L2.PI L2.PO L2.PIfs L2.PC L2.OpR L2.CallR L2.IxR L2.SlR L2.PSet L2.UnR
theorem snoc_map (us : List Str) (x : Str) : us.map V.str ++ [.str x] = (us ++ [x]).map V.str := by rw [List.map_append]; rfl
section
variable {P : Program} {w : World} {K : PySem.W.Frag} {mg : Str → Option Value} {base : Heap}
def spAddR (d : Nat) : Sp := fun vs H Q _ => ∃ (l r : Addr) (m : Nat) (us : List Str) (rows : List V) (o : Lns), vs = [.ref l, .ref r, .str (pad m)] ∧ H l = some (.lst (us.map V.str)) ∧ H r = some (.tup rows) ∧ Rs H d rows o ∧ m + d ≤ 6 ∧ us.length + o.length ≤ 10000 ∧
  ∀ H', But l H H' → H' l = some (.lst ((us ++ o.map (ln m)).map V.str)) → Q .non H'
def spAddL (d : Nat) : Sp := fun vs H Q E => ∃ d', d = d' + 1 ∧ spAddR d' vs H Q E
def spIf (d : Nat) : Sp := fun vs H Q _ => ∃ (l a b c : Addr) (m : Nat) (us : List Str) (v : V) (bs cs : List V) (o1 o2 : Lns), vs = [.ref l, .ref a, .str (pad m)] ∧ H l = some (.lst (us.map V.str)) ∧ H a = some (.tup [.str "if", v, .ref b, .ref c]) ∧ H b = some (.tup bs) ∧ H c = some (.tup cs) ∧
  Rs H d bs o1 ∧ Rs H d cs o2 ∧ m + 1 + d ≤ 6 ∧ us.length + (up o1 ++ (els cs o2 ++ [ende])).length ≤ 10000 ∧ ∀ H', But l H H' → H' l = some (.lst ((us ++ (up o1 ++ (els cs o2 ++ [ende])).map (ln m)).map V.str)) → Q .non H'
def spIfL (d : Nat) : Sp := fun vs H Q E => ∃ d', d = d' + 1 ∧ spIf d' vs H Q E
def spTry (d : Nat) : Sp := fun vs H Q _ => ∃ (l a b c : Addr) (m : Nat) (us : List Str) (x : Str) (bs cs : List V) (o1 o2 : Lns), vs = [.ref l, .ref a, .str (pad m)] ∧ H l = some (.lst (us.map V.str)) ∧ H a = some (.tup [.str "try", .ref b, .str x, .ref c]) ∧ x.length ≤ 10 ∧ H b = some (.tup bs) ∧ H c = some (.tup cs) ∧
  Rs H d bs o1 ∧ Rs H d cs o2 ∧ m + 1 + d ≤ 6 ∧ us.length + (up o1 ++ ((0, joinW ["catch", x]) :: (up o2 ++ [ende]))).length ≤ 10000 ∧ ∀ H', But l H H' → H' l = some (.lst ((us ++ (up o1 ++ ((0, joinW ["catch", x]) :: (up o2 ++ [ende]))).map (ln m)).map V.str)) → Q .non H'
def spTryL (d : Nat) : Sp := fun vs H Q E => ∃ d', d = d' + 1 ∧ spTry d' vs H Q E
/-! ### add_if -/
theorem sc_if : FnScope ["lines", "row", "ahead"] ["lines", "row", "ahead"] (defScope (top 12)) := ⟨rfl, rfl, rfl, by decide +kernel, rfl, by decide +kernel, by decide +kernel⟩
theorem d_if {d j : Nat} (T : Txt w K mg) (IH : Def P w K mg base j "add_rows" ["lines", "rows", "ahead"] (spAddR d)) (S : Src K mg "add_if" (top 12) ["lines", "row", "ahead"]) : Def P w K mg base (j + 1) "add_if" ["lines", "row", "ahead"] (spIf d) := by
  obtain ⟨tA, v_AHEAD⟩ := T.ahead
  refine S.ok sc_if (fun vs H Q E h => ?_) (fun f cdv A outer s H vs Q E hr h => ?_)
  · obtain ⟨l, a, b, c, m, us, v, bs, cs, o1, o2, rfl, _⟩ := h; rfl
  obtain ⟨l, a, b, c, m, us, v, bs, cs, o1, o2, rfl, hl, ha, hb, hc, h1, h2, hm, hn, q⟩ := h
  refine ⟨_, (pss_cons (ps_expr (pe_def (IH) hr rfl (pac (pv 0) (pac (pe_ix ix_tup (pv 1) pe_int (fun _ _ => rfl)) (pac (pe_op op_add_str (pv 2) (pe_glob (v := .str "  ") rfl v_AHEAD ⟨_, rfl⟩)) pa_nil)))))
      (pss_cut (ps_if (pt_cmpR op_gt (pe_cB call_len_seq rfl T.z_len bt_len (pac (pe_ix ix_tup (pv 1) pe_int (fun _ _ => rfl)) pa_nil)) pe_int (nomark _))
      (pss_cons (ps_expr (pe_bm PySem.F.plainAttrs_list PySem.F.slot_list_append PySem.F.type_list_append mt_append (pv 0) (pac (pe_op op_add_str (pv 2) pe_str) pa_nil)))
      (pss_one (ps_expr (pe_def (IH) hr rfl (pac (pv 0) (pac (pe_ix ix_tup (pv 1) pe_int (fun _ _ => rfl)) (pac (pe_op op_add_str (pv 2) (pe_glob (v := .str "  ") rfl v_AHEAD ⟨_, rfl⟩)) pa_nil))))))) pss_nil)
      (pss_one (ps_expr (pe_bm PySem.F.plainAttrs_list PySem.F.slot_list_append PySem.F.type_list_append mt_append (pv 0) (pac (pe_op op_add_str (pv 2) pe_str) pa_nil)))))), ?_⟩
  have l3 : (100000 : Nat) < sizeLine := by rw [sizeLine_eq]; decide
  have pl := pad_len m
  have l2 : ("  " : Str).length = 2 := rfl
  have l4 : ("else" : Str).length = 4 := rfl
  have le3 : ("end" : Str).length = 3 := rfl
  simp only [List.length_append, up_len, List.length_cons, List.length_nil] at hn
  refine ⟨_, rfl, _, rfl, a, _, 2, _, rfl, rfl, SqT.of ha, atI_nat (j := 2) rfl, _, rfl, _, _, rfl, rfl, by omega, l, b, m + 1, us, bs, o1, rfl, hl, hb, h1, by omega, by omega, fun H1 b1 hl1 => ?_⟩
  have tk1 := But.tk b1 hl
  refine ⟨fun σ' H' => σ' = [some (.ref l), some (.ref a), some (.str (pad m))] ∧ But l H H' ∧ H' l = some (.lst ((us ++ (up o1 ++ els cs o2).map (ln m)).map V.str)), ?_, ?_⟩
  · refine ⟨_, rfl, a, _, 3, _, rfl, rfl, SqT.of (tk1 _ _ ha), atI_nat (j := 3) rfl, c, _, rfl, .inr (SqT.of (tk1 _ _ hc)), _, _, rfl, rfl, _, rfl, ite2 (fun c' => ?_) (fun c' => ?_)⟩
    · have ne : cs ≠ [] := fun z => by
        subst z
        exact absurd (of_decide_eq_true c') (by decide)
      have ee : els cs o2 = ((0, "else") : Nat × Str) :: up o2 := if_neg ne
      rw [ee] at hn ⊢
      simp only [List.length_cons, up_len] at hn
      refine ⟨_, rfl, .inl ⟨rfl, _, SqL.of hl1⟩, _, rfl, _, _, rfl, rfl, by omega, l, _, _, rfl, rfl, hl1, by rw [List.length_map, List.length_append, List.length_map]; omega, ?_⟩
      rw [snoc_map]
      have b2 := But.upd l H1 (.lst ((us ++ o1.map (ln (m + 1)) ++ [pad m ++ "else"]).map V.str))
      have hl2 : upd H1 l (.lst ((us ++ o1.map (ln (m + 1)) ++ [pad m ++ "else"]).map V.str)) l = _ := upd_same
      generalize upd H1 l (.lst ((us ++ o1.map (ln (m + 1)) ++ [pad m ++ "else"]).map V.str)) = H2 at b2 hl2 ⊢
      have b02 := But.trans b1 b2
      have tk2 := But.tk b02 hl
      refine ⟨_, rfl, _, rfl, a, _, 3, _, rfl, rfl, SqT.of (tk2 _ _ ha), atI_nat (j := 3) rfl, _, rfl, _, _, rfl, rfl, by omega, l, c, m + 1, _, cs, o2, rfl, hl2, tk2 _ _ hc, h2.tk tk2, by omega, by simp only [List.length_append, List.length_map, List.length_cons, List.length_nil]; omega, fun H3 b3 hl3 => ?_⟩
      refine ⟨rfl, But.trans b02 b3, ?_⟩
      rw [hl3]
      congr 3
      rw [List.map_append, List.map_cons, ln_up, ln_up, ln_0]
      simp only [List.append_assoc, List.cons_append, List.nil_append]
    · have ne : cs = [] := by
        cases cs with
        | nil => rfl
        | cons y ys => exact absurd (decide_eq_true (by show (0 : Int) < ((ys.length + 1 : Nat) : Int); omega)) c'
      have ee : els cs o2 = [] := if_pos ne
      rw [ee, List.append_nil, ln_up]
      exact ⟨rfl, b1, hl1⟩
  · rintro σ H2 ⟨rfl, b2, hl2⟩
    refine ⟨_, rfl, .inl ⟨rfl, _, SqL.of hl2⟩, _, rfl, _, _, rfl, rfl, by omega, l, _, _, rfl, rfl, hl2, by simp only [List.length_append, List.length_map, up_len]; omega, ?_⟩
    rw [snoc_map]
    refine q _ (But.trans b2 (But.upd _ _ _)) ?_
    rw [upd_same]
    congr 3
    simp only [List.map_append, List.map_cons, List.map_nil, List.append_assoc]
    rfl
/-! ### add_try -/
theorem sc_try : FnScope ["lines", "row", "ahead"] ["lines", "row", "ahead"] (defScope (top 13)) := ⟨rfl, rfl, rfl, by decide +kernel, rfl, by decide +kernel, by decide +kernel⟩
theorem d_try {d j : Nat} (hj : 2 ≤ j) (T : Txt w K mg) (D_words : Def P w K mg base 1 "words_text" ["parts"] spWords) (IH : Def P w K mg base j "add_rows" ["lines", "rows", "ahead"] (spAddR d)) (S : Src K mg "add_try" (top 13) ["lines", "row", "ahead"]) : Def P w K mg base (j + 1) "add_try" ["lines", "row", "ahead"] (spTry d) := by
  obtain ⟨tA, v_AHEAD⟩ := T.ahead
  refine S.ok sc_try (fun vs H Q E h => ?_) (fun f cdv A outer s H vs Q E hr h => ?_)
  · obtain ⟨l, a, b, c, m, us, v, bs, cs, o1, o2, rfl, _⟩ := h; rfl
  obtain ⟨l, a, b, c, m, us, x, bs, cs, o1, o2, rfl, hl, ha, hx, hb, hc, h1, h2, hm, hn, q⟩ := h
  refine ⟨_, (pss_cons (ps_expr (pe_def (IH) hr rfl (pac (pv 0) (pac (pe_ix ix_tup (pv 1) pe_int (fun _ _ => rfl)) (pac (pe_op op_add_str (pv 2) (pe_glob (v := .str "  ") rfl v_AHEAD ⟨_, rfl⟩)) pa_nil)))))
      (pss_cons (ps_expr (pe_bm PySem.F.plainAttrs_list PySem.F.slot_list_append PySem.F.type_list_append mt_append (pv 0) (pac (pe_op op_add_str (pv 2) (pe_def (D_words.mono (by omega)) hr rfl (pac (pe_tup (pac pe_str (pac (pe_ix ix_tup (pv 1) pe_int (fun _ _ => rfl)) pa_nil))) pa_nil))) pa_nil)))
      (pss_cons (ps_expr (pe_def (IH) hr rfl (pac (pv 0) (pac (pe_ix ix_tup (pv 1) pe_int (fun _ _ => rfl)) (pac (pe_op op_add_str (pv 2) (pe_glob (v := .str "  ") rfl v_AHEAD ⟨_, rfl⟩)) pa_nil)))))
      (pss_one (ps_expr (pe_bm PySem.F.plainAttrs_list PySem.F.slot_list_append PySem.F.type_list_append mt_append (pv 0) (pac (pe_op op_add_str (pv 2) pe_str) pa_nil))))))), ?_⟩
  have l3 : (100000 : Nat) < sizeLine := by rw [sizeLine_eq]; decide
  have pl := pad_len m
  have l2 : ("  " : Str).length = 2 := rfl
  have le3 : ("end" : Str).length = 3 := rfl
  simp only [List.length_append, up_len, List.length_cons, List.length_nil] at hn
  have hw : ∀ y ∈ (["catch", x] : List Str), y.length ≤ 10 := mem_words (by decide) (mem_words hx (fun y hy => by cases hy))
  have jl := joinW_len hw
  simp only [List.length_cons, List.length_nil] at jl
  refine ⟨_, rfl, _, rfl, a, _, 1, _, rfl, rfl, SqT.of ha, atI_nat (j := 1) rfl, _, rfl, _, _, rfl, rfl, by omega, l, b, m + 1, us, bs, o1, rfl, hl, hb, h1, by omega, by omega, fun H1 b1 hl1 => ?_⟩
  have tk1 := But.tk b1 hl
  refine ⟨_, rfl, .inl ⟨rfl, _, SqL.of hl1⟩, _, rfl, _, rfl, a, _, 2, _, rfl, rfl, SqT.of (tk1 _ _ ha), atI_nat (j := 2) rfl, (by show 2 ≤ sizeLine; omega), fun u hu => ?_⟩
  have su := same_of_new hu (.tup [.str "catch", .str x])
  refine ⟨_, ["catch", x], 3, rfl, .tup upd_same (.word (.word .nil)), by omega, hw, fun H2 s2 => ?_⟩
  have b2 := But.of (T := l) (su.trans s2)
  have hl2 := s2 _ _ (su _ _ hl1)
  refine ⟨_, _, rfl, rfl, by omega, l, _, _, rfl, rfl, hl2, by rw [List.length_map, List.length_append, List.length_map]; omega, ?_⟩
  rw [snoc_map]
  have b3 := But.upd l H2 (.lst ((us ++ o1.map (ln (m + 1)) ++ [pad m ++ joinW ["catch", x]]).map V.str))
  have hl3 : upd H2 l (.lst ((us ++ o1.map (ln (m + 1)) ++ [pad m ++ joinW ["catch", x]]).map V.str)) l = _ := upd_same
  generalize upd H2 l (.lst ((us ++ o1.map (ln (m + 1)) ++ [pad m ++ joinW ["catch", x]]).map V.str)) = H3 at b3 hl3 ⊢
  have b03 := But.trans b1 (But.trans b2 b3)
  have tk3 := But.tk b03 hl
  refine ⟨_, rfl, _, rfl, a, _, 3, _, rfl, rfl, SqT.of (tk3 _ _ ha), atI_nat (j := 3) rfl, _, rfl, _, _, rfl, rfl, by omega, l, c, m + 1, _, cs, o2, rfl, hl3, tk3 _ _ hc, h2.tk tk3, by omega, by simp only [List.length_append, List.length_map, List.length_cons, List.length_nil]; omega, fun H4 b4 hl4 => ?_⟩
  refine ⟨_, rfl, .inl ⟨rfl, _, SqL.of hl4⟩, _, rfl, _, _, rfl, rfl, by omega, l, _, _, rfl, rfl, hl4, by simp only [List.length_append, List.length_map, List.length_cons, List.length_nil]; omega, ?_⟩
  rw [snoc_map]
  refine q _ (But.trans b03 (But.trans b4 (But.upd _ _ _))) ?_
  rw [upd_same]
  congr 3
  simp only [List.map_append, List.map_cons, List.map_nil, List.append_assoc, List.cons_append, List.nil_append, ln_up, ln_0]
end
end K10

set_option Elab.async false
set_option linter.all false
set_option maxRecDepth 100000
set_option maxHeartbeats 4000000
namespace K10
open PySem L2
seal L2.PE L2.PS L2.PSs L2.PT L2.PW L2.PA L2.PG L2.PGs L2.PI L2.PO L2.PIfs L2.PC L2.OpR L2.CallR L2.IxR L2.SlR L2.PSet L2.UnR
theorem PRow.first {H : Hp} {r : V} {ws : List Str} (h : PRow H r ws) : ∃ (a : Addr) (wd : Str) (rest : List V), r = .ref a ∧ H a = some (.tup (.str wd :: rest)) ∧ wd ≠ "def" ∧ wd ≠ "if" ∧ wd ≠ "while" ∧ wd ≠ "try" := by
  cases h with
  | parts a b => have := plains_ne _ b; exact ⟨_, _, _, rfl, a, this.1, this.2.1, this.2.2.1, this.2.2.2.1⟩
  | call a => exact ⟨_, _, _, rfl, a, by decide, by decide, by decide, by decide⟩
theorem word_no {x y : Str} (h : x ≠ y) : decide (V.str x = V.str y) = false := decide_eq_false fun z => h (by injection z)
theorem word_yes (x : Str) : decide (V.str x = V.str x) = true := decide_eq_true rfl
section
variable {P : Program} {w : World} {K : PySem.W.Frag} {mg : Str → Option Value} {base : Heap}
theorem sc_addr : FnScope ["lines", "rows", "ahead", "row"] ["lines", "rows", "ahead"] (defScope (top 11)) := ⟨rfl, rfl, rfl, by decide +kernel, rfl, by decide +kernel, by decide +kernel⟩
theorem d_add1 {d j : Nat} (hj : 2 ≤ j) (T : Txt w K mg) (D_rowt : Def P w K mg base 2 "row_text" ["row"] spRowT) (IH : Def P w K mg base j "add_rows" ["lines", "rows", "ahead"] (spAddL d)) (D_if : Def P w K mg base (j + 1) "add_if" ["lines", "row", "ahead"] (spIfL d))
    (D_try : Def P w K mg base (j + 1) "add_try" ["lines", "row", "ahead"] (spTryL d)) (S : Src K mg "add_rows" (top 11) ["lines", "rows", "ahead"]) : Def P w K mg base (j + 2) "add_rows" ["lines", "rows", "ahead"] (spAddR d) := by
  obtain ⟨tA, v_AHEAD⟩ := T.ahead
  refine S.ok sc_addr (fun vs H Q E h => ?_) (fun f cdv A outer s H vs Q E hr h => ?_)
  · obtain ⟨l, r, m, us, rows, o, rfl, _⟩ := h; rfl
  obtain ⟨l, r, m, us, rows, o, rfl, hl, hrw, hR, hm, hn, q⟩ := h
  refine ⟨_, (pss_one (ps_for PassesOwn.never rfl (pi_tup (pv 1)) (pg_name (i := 3) sc_addr.nd rfl (Or.inl rfl))
      (pss_cons (ps_expr (pe_bm PySem.F.plainAttrs_list PySem.F.slot_list_append PySem.F.type_list_append mt_append (pv 0) (pac (pe_op op_add_str (pv 2) (pe_def (D_rowt.mono (by omega)) hr rfl (pac (pv 3) pa_nil))) pa_nil)))
      (pss_cons (ps_if (pt_cmpR op_eq (pe_ix ix_tup (pv 3) pe_int (fun _ _ => rfl)) pe_str (nomark _))
      (pss_one (ps_expr (pe_def (D_if) hr rfl (pac (pv 0) (pac (pv 3) (pac (pv 2) pa_nil)))))) pss_nil)
      (pss_cons (ps_if (pt_cmpR op_eq (pe_ix ix_tup (pv 3) pe_int (fun _ _ => rfl)) pe_str (nomark _))
      (pss_cons (ps_expr (pe_def (IH.mono (by omega)) hr rfl (pac (pv 0) (pac (pe_ix ix_tup (pv 3) pe_int (fun _ _ => rfl)) (pac (pe_op op_add_str (pv 2) (pe_glob (v := .str "  ") rfl v_AHEAD ⟨_, rfl⟩)) pa_nil)))))
      (pss_one (ps_expr (pe_bm PySem.F.plainAttrs_list PySem.F.slot_list_append PySem.F.type_list_append mt_append (pv 0) (pac (pe_op op_add_str (pv 2) pe_str) pa_nil))))) pss_nil)
      (pss_one (ps_if (pt_cmpR op_eq (pe_ix ix_tup (pv 3) pe_int (fun _ _ => rfl)) pe_str (nomark _))
      (pss_one (ps_expr (pe_def (D_try) hr rfl (pac (pv 0) (pac (pv 3) (pac (pv 2) pa_nil)))))) pss_nil))))))), ?_⟩
  have l3 : (100000 : Nat) < sizeLine := by rw [sizeLine_eq]; decide
  have pl := pad_len m
  have l2 : ("  " : Str).length = 2 := rfl
  have le3 : ("end" : Str).length = 3 := rfl
  have rt : r ≠ l := ne_of hrw hl (by intro z; cases z)
  refine ⟨_, rfl, r, rfl, ⟨_, SqT.of hrw⟩, ?_⟩
  refine for_tup (xs := rows) (fun i σ H' => ∃ (o1 o2 : Lns) (x3 : Option V), σ = [some (.ref l), some (.ref r), some (.str (pad m)), x3] ∧ But l H H' ∧ H' l = some (.lst ((us ++ o1.map (ln m)).map V.str)) ∧ o = o1 ++ o2 ∧ Rs H d (rows.drop i) o2) ?_ ?_ ?_ ?_
  · exact ⟨[], o, _, rfl, But.refl _ _, by rw [List.map_nil, List.append_nil]; exact hl, rfl, hR⟩
  · rintro i σ H' hi ⟨o1, o2, x3, rfl, hb, _⟩
    exact SqT.of (hb r _ rt hrw)
  · rintro i x σ H' hxi ⟨o1, o2, x3, rfl, hb, hL, rfl, hR2⟩
    have hil : i < rows.length := (List.getElem?_eq_some_iff.mp hxi).1
    have hd : rows.drop i = x :: rows.drop (i + 1) := by
      rw [List.drop_eq_getElem_cons hil]
      congr 1
      rw [List.getElem?_eq_getElem hil] at hxi
      injection hxi
    rw [hd] at hR2
    have tkH := But.tk hb hl
    rw [List.length_append] at hn
    cases hR2 with
    | @plain _ _ _ ws o3 hP hR3 =>
      obtain ⟨a, wd, rest, rfl, ha, n0, n1, n2, n3⟩ := hP.first
      rw [List.length_cons] at hn
      have jl : (joinW ws).length ≤ 380 := (hR.ok _ (List.mem_append_right _ List.mem_cons_self)).2
      refine ⟨_, rfl, .inl ⟨rfl, _, SqL.of hL⟩, _, rfl, _, rfl, _, ws, rfl, (hP.tk tkH).hd, fun H1 s1 => ?_⟩
      have hl1 := s1 _ _ hL
      refine ⟨_, _, rfl, rfl, by omega, l, _, _, rfl, rfl, hl1, by rw [List.length_map, List.length_append, List.length_map]; omega, ?_⟩
      rw [snoc_map]
      have b2 := But.trans hb (But.trans (But.of (T := l) s1) (But.upd l H1 (.lst ((us ++ o1.map (ln m) ++ [pad m ++ joinW ws]).map V.str))))
      have hl2 : upd H1 l (.lst ((us ++ o1.map (ln m) ++ [pad m ++ joinW ws]).map V.str)) l = _ := upd_same
      generalize upd H1 l (.lst ((us ++ o1.map (ln m) ++ [pad m ++ joinW ws]).map V.str)) = H2 at b2 hl2 ⊢
      have tk2 := But.tk b2 hl
      refine ⟨_, rfl, a, _, 0, _, rfl, rfl, SqT.of (tk2 _ _ ha), atI_nat (j := 0) rfl, rfl, _, rfl, ifF (word_no n1) ⟨_, rfl, a, _, 0, _, rfl, rfl, SqT.of (tk2 _ _ ha), atI_nat (j := 0) rfl, rfl, _, rfl, ifF (word_no n2) ⟨_, rfl, a, _, 0, _, rfl, rfl, SqT.of (tk2 _ _ ha), atI_nat (j := 0) rfl, rfl, _, rfl, ifF (word_no n3) ?_⟩⟩⟩
      refine ⟨o1 ++ [(0, joinW ws)], o3, _, rfl, b2, ?_, by rw [List.append_assoc]; rfl, hR3⟩
      rw [hl2]
      simp only [List.map_append, List.map_cons, List.append_assoc, List.cons_append, List.nil_append, ln_0, List.map_nil]
    | @ifs d' a b c v bs cs _ ws p1 p2 p3 ha hv hB hC h1 h2 hR3 =>
      simp only [List.length_cons, List.length_append, up_len] at hn
      have jl : (joinW ("if" :: ws)).length ≤ 380 := (hR.ok _ (List.mem_append_right _ List.mem_cons_self)).2
      refine ⟨_, rfl, .inl ⟨rfl, _, SqL.of hL⟩, _, rfl, _, rfl, _, ("if" :: ws), rfl, if_hd (tkH _ _ ha) (hv.tk tkH), fun H1 s1 => ?_⟩
      have hl1 := s1 _ _ hL
      refine ⟨_, _, rfl, rfl, by omega, l, _, _, rfl, rfl, hl1, by rw [List.length_map, List.length_append, List.length_map]; omega, ?_⟩
      rw [snoc_map]
      have b2 := But.trans hb (But.trans (But.of (T := l) s1) (But.upd l H1 (.lst ((us ++ o1.map (ln m) ++ [pad m ++ joinW ("if" :: ws)]).map V.str))))
      have hl2 : upd H1 l (.lst ((us ++ o1.map (ln m) ++ [pad m ++ joinW ("if" :: ws)]).map V.str)) l = _ := upd_same
      generalize upd H1 l (.lst ((us ++ o1.map (ln m) ++ [pad m ++ joinW ("if" :: ws)]).map V.str)) = H2 at b2 hl2 ⊢
      have tk2 := But.tk b2 hl
      refine ⟨_, rfl, a, _, 0, _, rfl, rfl, SqT.of (tk2 _ _ ha), atI_nat (j := 0) rfl, rfl, _, rfl, ifT (word_yes _) ⟨_, rfl, _, rfl, _, rfl, d', rfl, l, a, b, c, m, _, v, bs, cs, p1, p2, rfl, hl2, tk2 _ _ ha, tk2 _ _ hB, tk2 _ _ hC, h1.tk tk2, h2.tk tk2, by omega, by simp only [List.length_append, List.length_map, List.length_cons, List.length_nil, up_len]; omega, fun H3 b3 hl3 => ?_⟩⟩
      have b03 := But.trans b2 b3
      have tk3 := But.tk b03 hl
      refine ⟨_, rfl, a, _, 0, _, rfl, rfl, SqT.of (tk3 _ _ ha), atI_nat (j := 0) rfl, rfl, _, rfl, ifF (word_no (by decide)) ⟨_, rfl, a, _, 0, _, rfl, rfl, SqT.of (tk3 _ _ ha), atI_nat (j := 0) rfl, rfl, _, rfl, ifF (word_no (by decide)) ?_⟩⟩
      refine ⟨o1 ++ ((0, joinW ("if" :: ws)) :: (up p1 ++ (els cs p2 ++ [ende]))), p3, _, rfl, b03, ?_, by simp, hR3⟩
      rw [hl3]
      simp only [List.map_append, List.map_cons, List.append_assoc, List.cons_append, List.nil_append, ln_0, List.map_nil]
    | @whl d' a b v bs _ ws p1 p3 ha hv hB h1 hR3 =>
      simp only [List.length_cons, List.length_append, up_len] at hn
      have jl : (joinW ("while" :: ws)).length ≤ 380 := (hR.ok _ (List.mem_append_right _ List.mem_cons_self)).2
      refine ⟨_, rfl, .inl ⟨rfl, _, SqL.of hL⟩, _, rfl, _, rfl, _, ("while" :: ws), rfl, while_hd (tkH _ _ ha) (hv.tk tkH), fun H1 s1 => ?_⟩
      have hl1 := s1 _ _ hL
      refine ⟨_, _, rfl, rfl, by omega, l, _, _, rfl, rfl, hl1, by rw [List.length_map, List.length_append, List.length_map]; omega, ?_⟩
      rw [snoc_map]
      have b2 := But.trans hb (But.trans (But.of (T := l) s1) (But.upd l H1 (.lst ((us ++ o1.map (ln m) ++ [pad m ++ joinW ("while" :: ws)]).map V.str))))
      have hl2 : upd H1 l (.lst ((us ++ o1.map (ln m) ++ [pad m ++ joinW ("while" :: ws)]).map V.str)) l = _ := upd_same
      generalize upd H1 l (.lst ((us ++ o1.map (ln m) ++ [pad m ++ joinW ("while" :: ws)]).map V.str)) = H2 at b2 hl2 ⊢
      have tk2 := But.tk b2 hl
      refine ⟨_, rfl, a, _, 0, _, rfl, rfl, SqT.of (tk2 _ _ ha), atI_nat (j := 0) rfl, rfl, _, rfl, ifF (word_no (by decide)) ⟨_, rfl, a, _, 0, _, rfl, rfl, SqT.of (tk2 _ _ ha), atI_nat (j := 0) rfl, rfl, _, rfl, ifT (word_yes _) ⟨_, rfl, _, rfl, a, _, 2, _, rfl, rfl, SqT.of (tk2 _ _ ha), atI_nat (j := 2) rfl, _, rfl, _, _, rfl, rfl, by omega, d', rfl, l, b, m + 1, _, bs, p1, rfl, hl2, tk2 _ _ hB, h1.tk tk2, by omega, by simp only [List.length_append, List.length_map, List.length_cons, List.length_nil]; omega, fun H3 b3 hl3 => ?_⟩⟩⟩
      have b03 := But.trans b2 b3
      refine ⟨_, rfl, .inl ⟨rfl, _, SqL.of hl3⟩, _, rfl, _, _, rfl, rfl, by omega, l, _, _, rfl, rfl, hl3, by simp only [List.length_append, List.length_map, List.length_cons, List.length_nil]; omega, ?_⟩
      rw [snoc_map]
      have b4 := But.trans b03 (But.upd l H3 (.lst ((us ++ o1.map (ln m) ++ [pad m ++ joinW ("while" :: ws)] ++ p1.map (ln (m + 1)) ++ [pad m ++ "end"]).map V.str)))
      have hl4 : upd H3 l (.lst ((us ++ o1.map (ln m) ++ [pad m ++ joinW ("while" :: ws)] ++ p1.map (ln (m + 1)) ++ [pad m ++ "end"]).map V.str)) l = _ := upd_same
      generalize upd H3 l (.lst ((us ++ o1.map (ln m) ++ [pad m ++ joinW ("while" :: ws)] ++ p1.map (ln (m + 1)) ++ [pad m ++ "end"]).map V.str)) = H4 at b4 hl4 ⊢
      have tk4 := But.tk b4 hl
      refine ⟨_, rfl, a, _, 0, _, rfl, rfl, SqT.of (tk4 _ _ ha), atI_nat (j := 0) rfl, rfl, _, rfl, ifF (word_no (by decide)) ?_⟩
      refine ⟨o1 ++ ((0, joinW ("while" :: ws)) :: (up p1 ++ [ende])), p3, _, rfl, b4, ?_, by simp, hR3⟩
      rw [hl4]
      simp only [List.map_append, List.map_cons, List.append_assoc, List.cons_append, List.nil_append, ln_0, ln_up, List.map_nil]
    | @tri d' a b c y bs cs _ p1 p2 p3 ha hy hB hC h1 h2 hR3 =>
      simp only [List.length_cons, List.length_append, up_len] at hn
      have jl : (joinW ["try"]).length ≤ 380 := (hR.ok _ (List.mem_append_right _ List.mem_cons_self)).2
      refine ⟨_, rfl, .inl ⟨rfl, _, SqL.of hL⟩, _, rfl, _, rfl, _, ["try"], rfl, try_hd (tkH _ _ ha), fun H1 s1 => ?_⟩
      have hl1 := s1 _ _ hL
      refine ⟨_, _, rfl, rfl, by omega, l, _, _, rfl, rfl, hl1, by rw [List.length_map, List.length_append, List.length_map]; omega, ?_⟩
      rw [snoc_map]
      have b2 := But.trans hb (But.trans (But.of (T := l) s1) (But.upd l H1 (.lst ((us ++ o1.map (ln m) ++ [pad m ++ joinW ["try"]]).map V.str))))
      have hl2 : upd H1 l (.lst ((us ++ o1.map (ln m) ++ [pad m ++ joinW ["try"]]).map V.str)) l = _ := upd_same
      generalize upd H1 l (.lst ((us ++ o1.map (ln m) ++ [pad m ++ joinW ["try"]]).map V.str)) = H2 at b2 hl2 ⊢
      have tk2 := But.tk b2 hl
      refine ⟨_, rfl, a, _, 0, _, rfl, rfl, SqT.of (tk2 _ _ ha), atI_nat (j := 0) rfl, rfl, _, rfl, ifF (word_no (by decide)) ⟨_, rfl, a, _, 0, _, rfl, rfl, SqT.of (tk2 _ _ ha), atI_nat (j := 0) rfl, rfl, _, rfl, ifF (word_no (by decide)) ⟨_, rfl, a, _, 0, _, rfl, rfl, SqT.of (tk2 _ _ ha), atI_nat (j := 0) rfl, rfl, _, rfl, ifT (word_yes _) ⟨_, rfl, _, rfl, _, rfl, d', rfl, l, a, b, c, m, _, y, bs, cs, p1, p2, rfl, hl2, tk2 _ _ ha, hy, tk2 _ _ hB, tk2 _ _ hC, h1.tk tk2, h2.tk tk2, by omega, by simp only [List.length_append, List.length_map, List.length_cons, List.length_nil, up_len]; omega, fun H3 b3 hl3 => ?_⟩⟩⟩⟩
      have b03 := But.trans b2 b3
      refine ⟨o1 ++ ((0, joinW ["try"]) :: (up p1 ++ ((0, joinW ["catch", y]) :: (up p2 ++ [ende])))), p3, _, rfl, b03, ?_, by simp, hR3⟩
      rw [hl3]
      simp only [List.map_append, List.map_cons, List.append_assoc, List.cons_append, List.nil_append, ln_0, List.map_nil]
  · rintro σ H' ⟨o1, o2, x3, rfl, hb, hL, rfl, hR2⟩
    rw [List.drop_length] at hR2
    cases hR2
    rw [List.append_nil] at q
    exact q H' hb hL
theorem d_add (T : Txt w K mg) (D_words : Def P w K mg base 1 "words_text" ["parts"] spWords) (D_rowt : Def P w K mg base 2 "row_text" ["row"] spRowT) (Sa : Src K mg "add_rows" (top 11) ["lines", "rows", "ahead"]) (Si : Src K mg "add_if" (top 12) ["lines", "row", "ahead"]) (St : Src K mg "add_try" (top 13) ["lines", "row", "ahead"]) :
    ∀ d : Nat, Def P w K mg base (2 * d + 4) "add_rows" ["lines", "rows", "ahead"] (spAddR d)
  | 0 => d_add1 (j := 2) (Nat.le_refl _) T D_rowt (Sa.no fun vs H Q E h => by obtain ⟨k', hk, _⟩ := h; omega) (Si.no fun vs H Q E h => by obtain ⟨k', hk, _⟩ := h; omega) (St.no fun vs H Q E h => by obtain ⟨k', hk, _⟩ := h; omega) Sa
  | d + 1 => by
    have ih := d_add T D_words D_rowt Sa Si St d
    refine d_add1 (j := 2 * d + 4) (by omega) T D_rowt (ih.imp fun vs H Q E h => ?_) ((d_if T ih Si).imp fun vs H Q E h => ?_) ((d_try (by omega) T D_words ih St).imp fun vs H Q E h => ?_) Sa
    all_goals
      obtain ⟨k', hk, h⟩ := h
      obtain rfl : d = k' := by omega
      exact h
end
end K10

set_option Elab.async false
set_option linter.all false
set_option maxRecDepth 100000
set_option maxHeartbeats 4000000
namespace K10
open PySem L2
seal L2.PE L2.PS L2.PSs L2.PT L2.PW L2.PA L2.PG L2.PGs L2.PI L2.PO L2.PIfs L2.PC L2.OpR L2.CallR L2.IxR L2.SlR L2.PSet L2.UnR
/-! ### programs -/
structure Fn where
  name : Str
  params : List Str
  owns : List Str
  rows : List V
  o : Lns
def Fn.lines (f : Fn) : List Str := joinW ("def" :: f.name :: f.params) :: (f.owns.map (fun x => ("  " : Str) ++ joinW ["own", x]) ++ (f.o.map (ln 1) ++ [("end" : Str)]))
def FunIs (H : Hp) (v : V) (f : Fn) : Prop := ∃ (b pa oa ra : Addr), v = .ref b ∧ H b = some (.tup [.str f.name, .ref pa, .ref oa, .ref ra]) ∧ H pa = some (.tup (f.params.map V.str)) ∧ H oa = some (.tup (f.owns.map V.str)) ∧ H ra = some (.tup f.rows) ∧ Rs H 3 f.rows f.o ∧
  f.name.length ≤ 10 ∧ (∀ x ∈ f.params, x.length ≤ 10) ∧ f.params.length ≤ 9 ∧ (∀ x ∈ f.owns, x.length ≤ 10) ∧ f.owns.length ≤ 9 ∧ f.o.length ≤ 1200 ∧ 1 ≤ f.name.length
def BoxIs (H : Hp) (v : V) (p : Str × Int) : Prop := ∃ t : Addr, v = .ref t ∧ H t = some (.tup [.str p.1, .int p.2]) ∧ p.1.length ≤ 10 ∧ 0 ≤ p.2 ∧ p.2 < 1000000
def boxL (p : Str × Int) : Str := joinW ["box", p.1, toString p.2]
def LstIs (H : Hp) (v : V) (p : Str × List Int) : Prop := ∃ t u : Addr, v = .ref t ∧ H t = some (.tup [.str p.1, .ref u]) ∧ H u = some (.tup (p.2.map V.int)) ∧ p.1.length ≤ 10 ∧ p.2.length ≤ 20 ∧ ∀ i ∈ p.2, 0 ≤ i ∧ i < 1000000
def lstL (p : Str × List Int) : Str := joinW ("list" :: p.1 :: p.2.map fun i => (toString i : Str))
section
variable {P : Program} {w : World} {K : PySem.W.Frag} {mg : Str → Option Value} {base : Heap}
theorem sc_addf : FnScope ["lines", "function", "name", "params", "owns", "rows"] ["lines", "function"] (defScope (top 10)) := ⟨rfl, rfl, rfl, by decide +kernel, rfl, by decide +kernel, by decide +kernel⟩
def spAddF : Sp := fun vs H Q _ => ∃ (l : Addr) (v : V) (us : List Str) (f : Fn), vs = [.ref l, v] ∧ H l = some (.lst (us.map V.str)) ∧ FunIs H v f ∧ us.length + f.lines.length ≤ 10000 ∧ ∀ H', But l H H' → H' l = some (.lst ((us ++ f.lines).map V.str)) → Q .non H'
theorem Fn.len (f : Fn) : f.lines.length = f.owns.length + f.o.length + 2 := by
  unfold Fn.lines
  simp only [List.length_cons, List.length_append, List.length_map, List.length_nil]
  omega
def ownV : V → V
  | .str x => .str (("  " : Str) ++ joinW ["own", x])
  | v => v
theorem own_map (xs : List Str) : (xs.map V.str).map ownV = (xs.map fun x => ("  " : Str) ++ joinW ["own", x]).map V.str := by
  rw [List.map_map, List.map_map]; rfl
theorem d_addf (T : Txt w K mg) (D_words : Def P w K mg base 1 "words_text" ["parts"] spWords) (D_add : Def P w K mg base 10 "add_rows" ["lines", "rows", "ahead"] (spAddR 3)) (S : Src K mg "add_function" (top 10) ["lines", "function"]) : Def P w K mg base 11 "add_function" ["lines", "function"] spAddF := by
  obtain ⟨tA, v_AHEAD⟩ := T.ahead
  refine S.ok sc_addf (fun vs H Q E h => ?_) (fun f cdv A outer s H vs Q E hr h => ?_)
  · obtain ⟨l, v, us, f, rfl, _⟩ := h; rfl
  obtain ⟨l, v, us, f, rfl, hl, ⟨b, pa, oa, ra, rfl, hb, hpa, hoa, hra, hR, n1, n2, n3, n4, n5, n6⟩, hn, q⟩ := h
  refine ⟨_, (pss_cons (ps_asg (pv 1) (pg_tup rfl (pgs_cons (pg_name (i := 2) sc_addf.nd rfl (Or.inl rfl)) (pgs_cons (pg_name (i := 3) sc_addf.nd rfl (Or.inl rfl)) (pgs_cons (pg_name (i := 4) sc_addf.nd rfl (Or.inl rfl)) (pgs_cons (pg_name (i := 5) sc_addf.nd rfl (Or.inl rfl)) pgs_nil))))))
      (pss_cons (ps_expr (pe_bm PySem.F.plainAttrs_list PySem.F.slot_list_append PySem.F.type_list_append mt_append (pv 0) (pac (pe_def (D_words.mono (by omega)) hr rfl (pac (pe_tup (pac pe_str (pac (pv 2) (pac (pv 3) pa_nil)))) pa_nil)) pa_nil)))
      (pss_cons (ps_expr (pe_bm PySem.F.plainAttrs_list PySem.F.slot_list_extend PySem.F.type_list_extend mt_extend (pv 0) (pac (pe_comp (N' := ["own"]) (comp_scope (defScope (top 10)) (by rfl) (by decide +kernel) (by decide +kernel) (by decide +kernel) (by decide +kernel) (by decide +kernel) (by decide +kernel)) rfl (capt 1 [] (by rfl) (by rfl) (by decide +kernel)) (pi_tup (pv 4)) (fun _ _ _ => pg_name (i := 0) (show (["own"] : List Str).Nodup by decide +kernel) rfl (Or.inl rfl) (Or.inr rfl)) (fun _ _ _ => pifs_nil) (fun _ _ _ => (pe_op op_add_str (pe_glob (v := .str "  ") rfl v_AHEAD ⟨_, rfl⟩) (pe_def (D_words.mono (by omega)) hr rfl (pac (pe_tup (pac pe_str (pac (pv 0) pa_nil))) pa_nil))))) pa_nil)))
      (pss_cons (ps_expr (pe_def (D_add) hr rfl (pac (pv 0) (pac (pv 5) (pac (pe_glob (v := .str "  ") rfl v_AHEAD ⟨_, rfl⟩) pa_nil)))))
      (pss_one (ps_expr (pe_bm PySem.F.plainAttrs_list PySem.F.slot_list_append PySem.F.type_list_append mt_append (pv 0) (pa_const [.str "end"] (by rfl))))))))), ?_⟩
  have l3 : (100000 : Nat) < sizeLine := by rw [sizeLine_eq]; decide
  rw [f.len] at hn
  refine ⟨_, rfl, b, _, rfl, SqT.of hb, rfl, _, _, rfl, _, _, rfl, _, _, rfl, _, _, rfl, rfl, ?_⟩
  refine ⟨_, rfl, .inl ⟨rfl, _, SqL.of hl⟩, _, rfl, _, rfl, (by show 3 ≤ sizeLine; omega), fun u hu => ?_⟩
  have su := same_of_new hu (.tup [.str "def", .str f.name, .ref pa])
  have hw1 : ∀ y ∈ (("def" :: f.name :: f.params) : List Str), y.length ≤ 10 := mem_words (by decide) (mem_words n1 n2)
  have hF1 : Fs (upd H u (.tup [.str "def", .str f.name, .ref pa])) [.ref u] ("def" :: f.name :: f.params) (f.params.length + 4) := by
    refine .tup upd_same (.word (.word (.tup (su _ _ hpa) ?_)))
    have := fs_texts (H := upd H u (.tup [.str "def", .str f.name, .ref pa])) f.params .nil
    simpa using this
  refine ⟨_, _, f.params.length + 4, rfl, hF1, by omega, hw1, fun H1 s1 => ?_⟩
  have s01 := su.trans s1
  have hl1 := s01 _ _ hl
  refine ⟨l, _, _, rfl, rfl, hl1, by rw [List.length_map]; omega, ?_⟩
  rw [snoc_map]
  have b2 := But.trans (But.of (T := l) s01) (But.upd l H1 (.lst ((us ++ [joinW ("def" :: f.name :: f.params)]).map V.str)))
  have hl2 : upd H1 l (.lst ((us ++ [joinW ("def" :: f.name :: f.params)]).map V.str)) l = _ := upd_same
  generalize upd H1 l (.lst ((us ++ [joinW ("def" :: f.name :: f.params)]).map V.str)) = H2 at b2 hl2 ⊢
  have tk2 := But.tk b2 hl
  refine ⟨_, rfl, .inl ⟨rfl, _, SqL.of hl2⟩, _, rfl, oa, rfl, ⟨_, SqT.of (tk2 _ _ hoa)⟩, ?_⟩
  refine walk_tup (te := tOp (fun x y H Q => ∃ i j, x = .str i ∧ y = .str j ∧ i.length + j.length ≤ sizeLine ∧ Q (.str (i ++ j)) H) (tC (.str "  ")) (tDef spWords (tCons (tTup (tCons (tC (.str "own")) (tCons (tVar 0) tNil))) tNil))) (cs := []) ownV (tk2 _ _ hoa) (by rw [List.length_map]; omega) (by rfl) (fun x H3 k3 hx3 s3 hk3 => ?_) (fun acc H3 hna s3 hl3 => ?_)
  · obtain ⟨x, hx, rfl⟩ := List.mem_map.mp hx3
    have hw : ∀ y ∈ (["own", x] : List Str), y.length ≤ 10 := mem_words (by decide) (mem_words (n4 x hx) (fun y hy => by cases hy))
    have jl := joinW_len hw
    simp only [List.length_cons, List.length_nil] at jl
    have l2 : ("  " : Str).length = 2 := rfl
    refine ⟨_, rfl, (by show 2 ≤ sizeLine; omega), fun u2 hu2 => ?_⟩
    have su2 := same_of_new hu2 (.tup [.str "own", .str x])
    refine ⟨_, ["own", x], 3, rfl, .tup upd_same (.word (.word .nil)), by omega, hw, fun H4 s4 => ?_⟩
    exact ⟨_, _, rfl, rfl, by omega, hk3 _ (su2.trans s4)⟩
  · rw [own_map] at hl3
    have hl3' := s3 _ _ hl2
    refine ⟨l, acc, _, _, rfl, rfl, hl3', hl3, by simp only [List.length_map, List.length_append, List.length_cons, List.length_nil]; omega, ?_⟩
    rw [← List.map_append]
    have b4 := But.trans b2 (But.trans (But.of (T := l) s3) (But.upd l H3 (.lst ((us ++ [joinW ("def" :: f.name :: f.params)] ++ f.owns.map (fun x => ("  " : Str) ++ joinW ["own", x])).map V.str))))
    have hl4 : upd H3 l (.lst ((us ++ [joinW ("def" :: f.name :: f.params)] ++ f.owns.map (fun x => ("  " : Str) ++ joinW ["own", x])).map V.str)) l = _ := upd_same
    generalize upd H3 l (.lst ((us ++ [joinW ("def" :: f.name :: f.params)] ++ f.owns.map (fun x => ("  " : Str) ++ joinW ["own", x])).map V.str)) = H4 at b4 hl4 ⊢
    have tk4 := But.tk b4 hl
    refine ⟨_, rfl, _, rfl, l, ra, 1, _, f.rows, f.o, rfl, hl4, tk4 _ _ hra, hR.tk tk4, by omega, by simp only [List.length_append, List.length_map, List.length_cons, List.length_nil]; omega, fun H5 b5 hl5 => ?_⟩
    refine ⟨_, rfl, .inl ⟨rfl, _, SqL.of hl5⟩, l, _, _, rfl, rfl, hl5, by simp only [List.length_append, List.length_map, List.length_cons, List.length_nil]; omega, ?_⟩
    rw [snoc_map]
    refine q _ (But.trans b4 (But.trans b5 (But.upd _ _ _))) ?_
    rw [upd_same]
    unfold Fn.lines
    simp only [List.map_append, List.map_cons, List.append_assoc, List.cons_append, List.nil_append, List.map_nil]
end
end K10

set_option Elab.async false
set_option linter.all false
set_option maxRecDepth 100000
set_option maxHeartbeats 4000000
namespace K10
open PySem L2
seal L2.PE L2.PS L2.PSs L2.PT L2.PW L2.PA L2.PG L2.PGs L2.PI L2.PO L2.PIfs L2.PC L2.OpR L2.CallR L2.IxR L2.SlR L2.PSet L2.UnR
structure Pg where
  bx : List (Str × Int)
  lx : List (Str × List Int)
  fx : List Fn
  rows : List V
  o : Lns
def Pg.lines (p : Pg) : List Str := p.bx.map boxL ++ (p.lx.map lstL ++ ((p.fx.map Fn.lines).flatten ++ p.o.map (ln 0)))
def ProgIs (H : Hp) (v : V) (p : Pg) : Prop := ∃ (a ba la fa ra : Addr) (bs ls fs : List V), v = .ref a ∧ H a = some (.tup [.ref ba, .ref la, .ref fa, .ref ra]) ∧ H ba = some (.tup bs) ∧ Paired (BoxIs H) bs p.bx ∧ H la = some (.tup ls) ∧ Paired (LstIs H) ls p.lx ∧
  H fa = some (.tup fs) ∧ Paired (FunIs H) fs p.fx ∧ H ra = some (.tup p.rows) ∧ Rs H 3 p.rows p.o ∧ p.bx.length ≤ 9 ∧ p.lx.length ≤ 9 ∧ p.fx.length ≤ 4 ∧ p.o.length ≤ 2000
theorem BoxIs.tk {H H' : Hp} (k : TK H H') {v : V} {p : Str × Int} (h : BoxIs H v p) : BoxIs H' v p := let ⟨t, e, h1, h2⟩ := h; ⟨t, e, k _ _ h1, h2⟩
theorem LstIs.tk {H H' : Hp} (k : TK H H') {v : V} {p : Str × List Int} (h : LstIs H v p) : LstIs H' v p := let ⟨t, u, e, h1, h2, h3⟩ := h; ⟨t, u, e, k _ _ h1, k _ _ h2, h3⟩
theorem FunIs.tk {H H' : Hp} (k : TK H H') {v : V} {f : Fn} (h : FunIs H v f) : FunIs H' v f := let ⟨b, pa, oa, ra, e, h1, h2, h3, h4, h5, h6⟩ := h; ⟨b, pa, oa, ra, e, k _ _ h1, k _ _ h2, k _ _ h3, k _ _ h4, h5.tk k, h6⟩
theorem ProgIs.tk {H H' : Hp} (k : TK H H') {v : V} {p : Pg} (h : ProgIs H v p) : ProgIs H' v p := by
  obtain ⟨a, ba, la, fa, ra, bs, ls, fs, e, h1, h2, h3, h4, h5, h6, h7, h8, h9, h10⟩ := h
  exact ⟨a, ba, la, fa, ra, bs, ls, fs, e, k _ _ h1, k _ _ h2, paired_imp (fun _ _ h => h.tk k) h3, k _ _ h4, paired_imp (fun _ _ h => h.tk k) h5, k _ _ h6, paired_imp (fun _ _ h => h.tk k) h7, k _ _ h8, h9.tk k, h10⟩
theorem fns_len : ∀ {H : Hp} {fs : List V} {fx : List Fn}, Paired (FunIs H) fs fx → ((fx.map Fn.lines).flatten).length ≤ fx.length * 1211
  | _, _, _, .nil => Nat.zero_le _
  | _, _, _, .cons (b := f) h hs => by
    have := fns_len hs
    obtain ⟨_, _, _, _, _, _, _, _, _, _, _, _, _, _, n5, n6⟩ := h
    have e := f.len
    simp only [List.map_cons, List.flatten_cons, List.length_append, List.length_cons, Nat.succ_mul]
    omega
theorem ProgIs.len {H : Hp} {v : V} {p : Pg} (h : ProgIs H v p) : p.lines.length ≤ 9000 := by
  obtain ⟨a, ba, la, fa, ra, bs, ls, fs, e, h1, h2, h3, h4, h5, h6, h7, h8, h9, c1, c2, c3, c4⟩ := h
  have := fns_len h7
  unfold Pg.lines
  simp only [List.length_append, List.length_map]
  have : p.fx.length * 1211 ≤ 4 * 1211 := Nat.mul_le_mul_right _ c3
  omega
theorem Paired.out {α β : Type} {R : α → β → Prop} {S : α → V → Prop} {f : β → Str} (hS : ∀ a b y, R a b → S a y → y = .str (f b)) : ∀ {xs : List α} {bs : List β} {ys : List V}, Paired R xs bs → Paired S xs ys → ys = (bs.map f).map V.str
  | _, _, _, .nil, .nil => rfl
  | _, _, _, .cons h hs, .cons g gs => by
    rw [List.map_cons, List.map_cons, ← Paired.out hS hs gs, hS _ _ _ h g]
theorem mem_paired {α β : Type} {R : α → β → Prop} : ∀ {xs : List α} {ys : List β}, Paired R xs ys → ∀ x ∈ xs, ∃ y ∈ ys, R x y
  | _, _, .nil, x, hx => by cases hx
  | _, _, .cons h hs, x, hx => by
    rcases List.mem_cons.mp hx with rfl | hx
    · exact ⟨_, List.mem_cons_self, h⟩
    · obtain ⟨y, hy, r⟩ := mem_paired hs x hx
      exact ⟨y, List.mem_cons_of_mem _ hy, r⟩
theorem box_one {H : Hp} {v : V} {p q : Str × Int} (h : BoxIs H v p) (g : BoxIs H v q) : p = q := by
  obtain ⟨t, rfl, h1, _⟩ := h
  obtain ⟨u, e, g1, _⟩ := g
  injection e with e
  subst e
  rw [h1] at g1
  simp at g1
  exact Prod.ext g1.1 g1.2
theorem lst_one {H : Hp} {v : V} {p q : Str × List Int} (h : LstIs H v p) (g : LstIs H v q) : p = q := by
  obtain ⟨t, u, rfl, h1, h2, _⟩ := h
  obtain ⟨t', u', e, g1, g2, _⟩ := g
  injection e with e
  subst e
  rw [h1] at g1
  simp at g1
  obtain ⟨e1, e2⟩ := g1
  subst e2
  rw [h2] at g2
  injection g2 with g2
  injection g2 with g2
  have inj : ∀ (a b : List Int), a.map V.int = b.map V.int → a = b := by
    intro a
    induction a with
    | nil => intro b h; cases b with
      | nil => rfl
      | cons => simp at h
    | cons x xs ih => intro b h; cases b with
      | nil => simp at h
      | cons y ys =>
        simp at h
        rw [h.1, ih ys (by simpa using h.2)]
  exact Prod.ext e1 (inj _ _ g2)
theorem ln_len {d m : Nat} {o : Lns} (h : LnOk d o) (hd : m + d ≤ 6) : ∀ x ∈ o.map (ln m), x.length ≤ 400 := fun x hx => by
  obtain ⟨p, hp, rfl⟩ := List.mem_map.mp hx
  have := h p hp
  show (pad (m + p.1) ++ p.2).length ≤ 400
  rw [len_append, pad_len]
  omega
theorem Fn.short {H : Hp} {v : V} {f : Fn} (h : FunIs H v f) : ∀ x ∈ f.lines, x.length ≤ 400 := by
  obtain ⟨b, pa, oa, ra, rfl, hb, hpa, hoa, hra, hR, n1, n2, n3, n4, n5, n6⟩ := h
  intro x hx
  unfold Fn.lines at hx
  rcases List.mem_cons.mp hx with rfl | hx
  · have := joinW_len (mem_words (x := "def") (by decide) (mem_words n1 n2))
    simp only [List.length_cons] at this
    omega
  rcases List.mem_append.mp hx with hx | hx
  · obtain ⟨y, hy, rfl⟩ := List.mem_map.mp hx
    have := joinW_len (mem_words (x := "own") (by decide) (mem_words (n4 y hy) (fun y (hy : y ∈ ([] : List Str)) => by cases hy)))
    simp only [List.length_cons, List.length_nil] at this
    rw [len_append]
    show 2 + _ ≤ _
    omega
  rcases List.mem_append.mp hx with hx | hx
  · exact ln_len hR.ok (by decide) x hx
  · rw [List.mem_singleton.mp hx]; decide
theorem ProgIs.short {H : Hp} {v : V} {p : Pg} (h : ProgIs H v p) : ∀ x ∈ p.bx.map boxL ++ (p.lx.map lstL ++ ((p.fx.map Fn.lines).flatten ++ p.o.map (ln 0))), x.length ≤ 400 := by
  obtain ⟨a, ba, la, fa, ra, bs, ls, fs, rfl, ha, hba, hbs, hla, hls, hfa, hfs, hra, hR, c1, c2, c3, c4⟩ := h
  have back : ∀ {β : Type} {R : V → β → Prop} {xs : List V} {ys : List β}, Paired R xs ys → ∀ y ∈ ys, ∃ x, R x y := by
    intro β R xs ys h
    induction h with
    | nil => intro y hy; cases hy
    | cons h _ ih =>
      intro y hy
      rcases List.mem_cons.mp hy with rfl | hy
      · exact ⟨_, h⟩
      · exact ih y hy
  intro x hx
  rcases List.mem_append.mp hx with hx | hx
  · obtain ⟨pb, hpb, rfl⟩ := List.mem_map.mp hx
    obtain ⟨_, t, rfl, ht, n1, n2, n3⟩ := back hbs pb hpb
    have := joinW_len (mem_words (x := "box") (by decide) (mem_words n1 (mem_words (num_len n2 n3) (fun y (hy : y ∈ ([] : List Str)) => by cases hy))))
    simp only [List.length_cons, List.length_nil] at this
    show (boxL pb).length ≤ 400
    unfold boxL
    omega
  rcases List.mem_append.mp hx with hx | hx
  · obtain ⟨pb, hpb, rfl⟩ := List.mem_map.mp hx
    obtain ⟨_, t, tu, rfl, ht, htu, n1, n2, n3⟩ := back hls pb hpb
    have := joinW_len (mem_words (x := "list") (by decide) (mem_words n1 (xs := pb.2.map fun i => (toString i : Str)) fun y hy => by
      obtain ⟨i, hi, rfl⟩ := List.mem_map.mp hy
      exact num_len (n3 i hi).1 (n3 i hi).2))
    simp only [List.length_cons, List.length_map] at this
    show (lstL pb).length ≤ 400
    unfold lstL
    omega
  rcases List.mem_append.mp hx with hx | hx
  · obtain ⟨l, hl, hxl⟩ := List.mem_flatten.mp hx
    obtain ⟨f, hf, rfl⟩ := List.mem_map.mp hl
    obtain ⟨_, h⟩ := back hfs f hf
    exact Fn.short h x hxl
  · exact ln_len hR.ok (by decide) x hx
section
variable {P : Program} {w : World} {K : PySem.W.Frag} {mg : Str → Option Value} {base : Heap}
theorem sc_written : FnScope ["program", "boxes", "lists", "functions", "rows", "lines", "function"] ["program"] (defScope (top 5)) := ⟨rfl, rfl, rfl, by decide +kernel, rfl, by decide +kernel, by decide +kernel⟩
def spWritten : Sp := fun vs H Q _ => ∃ (v : V) (p : Pg), vs = [v] ∧ ProgIs H v p ∧ ∀ H', Same H H' → Q (.str (joinL p.lines)) H'
theorem d_written (T : Txt w K mg) (D_words : Def P w K mg base 1 "words_text" ["parts"] spWords) (D_lines : Def P w K mg base 1 "lines_text" ["lines"] spLines) (D_add : Def P w K mg base 10 "add_rows" ["lines", "rows", "ahead"] (spAddR 3)) (D_addf : Def P w K mg base 11 "add_function" ["lines", "function"] spAddF) (S : Src K mg "written" (top 5) ["program"]) : Def P w K mg base 12 "written" ["program"] spWritten := by
  refine S.ok sc_written (fun vs H Q E h => ?_) (fun f cdv A outer s H vs Q E hr h => ?_)
  · obtain ⟨v, p, rfl, _⟩ := h; rfl
  obtain ⟨v, p, rfl, hP, q⟩ := h
  have hlen := hP.len
  obtain ⟨a, ba, la, fa, ra, bs, ls, fs, rfl, ha, hba, hbs, hla, hls, hfa, hfs, hra, hR, c1, c2, c3, c4⟩ := id hP
  refine ⟨_, (pss_cons (ps_asg (pv 0) (pg_tup rfl (pgs_cons (pg_name (i := 1) sc_written.nd rfl (Or.inl rfl)) (pgs_cons (pg_name (i := 2) sc_written.nd rfl (Or.inl rfl)) (pgs_cons (pg_name (i := 3) sc_written.nd rfl (Or.inl rfl)) (pgs_cons (pg_name (i := 4) sc_written.nd rfl (Or.inl rfl)) pgs_nil))))))
      (pss_cons (ps_comp (i0 := 5) sc_written.nd rfl (Or.inl rfl) (N' := ["box"]) (comp_scope (defScope (top 5)) (by rfl) (by decide +kernel) (by decide +kernel) (by decide +kernel) (by decide +kernel) (by decide +kernel) (by decide +kernel)) rfl (capt 1 [] (by rfl) (by rfl) (by decide +kernel)) (pi_tup (pv 1)) (fun _ _ _ => pg_name (i := 0) (show (["box"] : List Str).Nodup by decide +kernel) rfl (Or.inl rfl) (Or.inr rfl)) (fun _ _ _ => pifs_nil) (fun _ _ _ => (pe_def (D_words.mono (by omega)) hr rfl (pac (pe_op op_catTw (pe_tup (pa_const [.str "box"] (by rfl))) (pv 0)) pa_nil))))
      (pss_cons (ps_expr (pe_bm PySem.F.plainAttrs_list PySem.F.slot_list_extend PySem.F.type_list_extend mt_extend (pv 5) (pac (pe_comp (N' := ["one"]) (comp_scope (defScope (top 5)) (by rfl) (by decide +kernel) (by decide +kernel) (by decide +kernel) (by decide +kernel) (by decide +kernel) (by decide +kernel)) rfl (capt 1 [] (by rfl) (by rfl) (by decide +kernel)) (pi_tup (pv 2)) (fun _ _ _ => pg_name (i := 0) (show (["one"] : List Str).Nodup by decide +kernel) rfl (Or.inl rfl) (Or.inr rfl)) (fun _ _ _ => pifs_nil) (fun _ _ _ => (pe_def (D_words.mono (by omega)) hr rfl (pac (pe_op op_catTw (pe_tup (pa_const [.str "list"] (by rfl))) (pv 0)) pa_nil)))) pa_nil)))
      (pss_cons (ps_for PassesOwn.never rfl (pi_tup (pv 3)) (pg_name (i := 6) sc_written.nd rfl (Or.inl rfl))
      (pss_one (ps_expr (pe_def (D_addf) hr rfl (pac (pv 5) (pac (pv 6) pa_nil))))))
      (pss_cons (ps_expr (pe_def (D_add.mono (by omega)) hr rfl (pac (pv 5) (pac (pv 4) (pac pe_str pa_nil)))))
      (pss_one (ps_ret (pe_def (D_lines.mono (by omega)) hr rfl (pac (pv 5) pa_nil))))))))), ?_⟩
  have l3 : (100000 : Nat) < sizeLine := by rw [sizeLine_eq]; decide
  have lb : bs.length = p.bx.length := Paired.length hbs
  have ll : ls.length = p.lx.length := Paired.length hls
  refine ⟨_, rfl, a, _, rfl, SqT.of ha, rfl, _, _, rfl, _, _, rfl, _, _, rfl, _, _, rfl, rfl, ?_⟩
  refine ⟨_, rfl, ba, rfl, ⟨_, SqT.of hba⟩, ?_⟩
  refine walk_by (te := tDef spWords (tCons (tOp _ (tTup (fun _ H Q => Q [.str "box"] H)) (tVar 0)) tNil)) (cs := []) (Rel.same H) bs (fun x y => ∃ p, BoxIs H x p ∧ y = .str (boxL p)) (by omega) (fun i H2 s hi => ⟨bs, _, SqT.of (s _ _ hba), List.getElem?_eq_getElem hi⟩) (fun H2 s => ⟨bs, SqT.of (s _ _ hba), Nat.le_refl _⟩) (fun i H2 x H3 s _ y => ⟨y.1, y.2 bs (SqT.of (s _ _ hba))⟩) (by rfl) (fun x acc ys H2 k hx hn hl s hk => ?_) (fun acc ys H2 hn s2 hl hp => ?_)
  · obtain ⟨pb, _, hpb⟩ := mem_paired hbs x hx
    obtain ⟨t, rfl, ht, n1, n2, n3⟩ := id hpb
    refine ⟨(by show 1 ≤ sizeLine; omega), fun u hu => ?_⟩
    have su := same_of_new hu (.tup [.str "box"])
    refine ⟨_, rfl, u, t, _, _, rfl, rfl, upd_same, su _ _ (s _ _ ht), (by show 1 + 2 ≤ sizeLine; omega), fun r H3 s3 h3 => ?_⟩
    refine ⟨_, ["box", pb.1, toString pb.2], 4, rfl, .tup h3 (.word (.word (.num n2 n3 .nil))), by omega, mem_words (by decide) (mem_words n1 (mem_words (num_len n2 n3) (fun y hy => by cases hy))), fun H4 s4 => ?_⟩
    have s24 := su.trans (s3.trans s4)
    exact hk _ _ ⟨pb, hpb, rfl⟩ (s.trans s24) (s24 _ _ hl)
  have e1 := Paired.out (f := boxL) (fun _ _ _ h g => by
    obtain ⟨q, g1, g2⟩ := g
    rw [g2, box_one h g1]) hbs hp
  subst e1
  have la2 := s2 _ _ hla
  refine ⟨_, rfl, .inl ⟨rfl, _, SqL.of hl⟩, _, rfl, la, rfl, ⟨_, SqT.of la2⟩, ?_⟩
  refine walk_by (te := tDef spWords (tCons (tOp _ (tTup (fun _ H Q => Q [.str "list"] H)) (tVar 0)) tNil)) (cs := []) (Rel.same H2) ls (fun x y => ∃ p, LstIs H x p ∧ y = .str (lstL p)) (by omega) (fun i H2 s hi => ⟨ls, _, SqT.of (s _ _ la2), List.getElem?_eq_getElem hi⟩) (fun H2 s => ⟨ls, SqT.of (s _ _ la2), Nat.le_refl _⟩) (fun i H2 x H3 s _ y => ⟨y.1, y.2 ls (SqT.of (s _ _ la2))⟩) (by rfl) (fun x acc ys H3 k hx hn hl s hk => ?_) (fun acc3 ys3 H3 hn3 s3 hl3 hp3 => ?_)
  · obtain ⟨pb, _, hpb⟩ := mem_paired hls x hx
    obtain ⟨t, tu, rfl, ht, htu, n1, n2, n3⟩ := id hpb
    refine ⟨(by show 1 ≤ sizeLine; omega), fun u hu => ?_⟩
    have su := same_of_new hu (.tup [.str "list"])
    have s03 := s2.trans s
    refine ⟨_, rfl, u, t, _, _, rfl, rfl, upd_same, su _ _ (s03 _ _ ht), (by show 1 + 2 ≤ sizeLine; omega), fun r H4 s4 h4 => ?_⟩
    have hw : ∀ y ∈ (("list" :: pb.1 :: pb.2.map fun i => (toString i : Str)) : List Str), y.length ≤ 10 := mem_words (by decide) (mem_words n1 fun y hy => by
      obtain ⟨i, hi, rfl⟩ := List.mem_map.mp hy
      exact num_len (n3 i hi).1 (n3 i hi).2)
    have hF := fs_nums (H := H4) pb.2 n3 .nil
    rw [List.append_nil, List.append_nil, Nat.zero_add] at hF
    refine ⟨_, _, pb.2.length + 4, rfl, .tup h4 (.word (.word (.tup (s4 _ _ (su _ _ (s03 _ _ htu))) (by show Fs H4 (pb.2.map V.int ++ []) _ _; rw [List.append_nil]; exact hF)))), by omega, hw, fun H5 s5 => ?_⟩
    have s35 := su.trans (s4.trans s5)
    exact hk _ _ ⟨pb, hpb, rfl⟩ (s.trans s35) (s35 _ _ hl)
  have e3 := Paired.out (f := lstL) (fun _ _ _ h g => by
    obtain ⟨q, g1, g2⟩ := g
    rw [g2, lst_one h g1]) hls hp3
  subst e3
  have hl23 := s3 _ _ hl
  refine ⟨acc, acc3, _, _, rfl, rfl, hl23, hl3, by simp only [List.length_map]; omega, ?_⟩
  rw [← List.map_append]
  have s03 := s2.trans s3
  have nacc : H acc = none := hn
  have s4 : Same H (upd H3 acc (.lst ((p.bx.map boxL ++ p.lx.map lstL).map V.str))) := fun c o hc => by rw [upd_ne (ne_of_none hc nacc)]; exact s03 c o hc
  have hl4 : upd H3 acc (.lst ((p.bx.map boxL ++ p.lx.map lstL).map V.str)) acc = _ := upd_same
  generalize upd H3 acc (.lst ((p.bx.map boxL ++ p.lx.map lstL).map V.str)) = H4 at s4 hl4 ⊢
  refine ⟨_, rfl, fa, rfl, ⟨_, SqT.of (s4 _ _ hfa)⟩, ?_⟩
  have lf : fs.length = p.fx.length := Paired.length hfs
  unfold Pg.lines at hlen q
  simp only [List.length_append, List.length_map] at hlen
  refine for_tup (xs := fs) (fun i σ H' => ∃ (x6 : Option V) (f1 f2 : List Fn), σ = [some (.ref a), some (.ref ba), some (.ref la), some (.ref fa), some (.ref ra), some (.ref acc), x6] ∧ Same H H' ∧ p.fx = f1 ++ f2 ∧ Paired (FunIs H) (fs.drop i) f2 ∧ H' acc = some (.lst (((p.bx.map boxL ++ p.lx.map lstL) ++ (f1.map Fn.lines).flatten).map V.str))) ?_ ?_ ?_ ?_
  · exact ⟨_, [], p.fx, rfl, s4, rfl, hfs, by simpa using hl4⟩
  · rintro i σ H' hi ⟨x6, f1, f2, rfl, s5, _⟩
    exact SqT.of (s5 _ _ hfa)
  · rintro i x σ H' hxi ⟨x6, f1, f2, rfl, s5, e5, hP5, hl5⟩
    have hil : i < fs.length := (List.getElem?_eq_some_iff.mp hxi).1
    have hd : fs.drop i = x :: fs.drop (i + 1) := by
      rw [List.drop_eq_getElem_cons hil]
      congr 1
      rw [List.getElem?_eq_getElem hil] at hxi
      injection hxi
    rw [hd] at hP5
    cases hP5 with
    | @cons _ fn _ f3 hf hfr =>
    rw [e5] at hlen
    simp only [List.map_append, List.flatten_append, List.map_cons, List.flatten_cons, List.length_append] at hlen
    refine ⟨_, rfl, _, rfl, acc, x, _, fn, rfl, hl5, hf.tk (TK.of s5), by simp only [List.length_append, List.length_map]; omega, fun H6 b6 hl6 => ?_⟩
    refine ⟨_, f1 ++ [fn], f3, rfl, fun c o hc => b6 c o (ne_of_none hc nacc) (s5 c o hc), by rw [e5, List.append_assoc]; rfl, hfr, ?_⟩
    rw [hl6]
    simp only [List.map_append, List.flatten_append, List.map_cons, List.flatten_cons, List.append_assoc, List.map_nil, List.flatten_nil, List.append_nil]
  · rintro σ H' ⟨x6, f1, f2, rfl, s5, e5, hP5, hl5⟩
    rw [List.drop_length] at hP5
    cases hP5
    rw [List.append_nil] at e5
    subst e5
    have tk5 := TK.of s5
    refine ⟨_, rfl, _, rfl, acc, ra, 0, _, p.rows, p.o, rfl, hl5, s5 _ _ hra, hR.tk tk5, by omega, by simp only [List.length_append, List.length_map]; omega, fun H6 b6 hl6 => ?_⟩
    have e6 : p.bx.map boxL ++ p.lx.map lstL ++ (p.fx.map Fn.lines).flatten ++ p.o.map (ln 0) = p.bx.map boxL ++ (p.lx.map lstL ++ ((p.fx.map Fn.lines).flatten ++ p.o.map (ln 0))) := by simp only [List.append_assoc]
    rw [e6] at hl6
    refine ⟨_, rfl, acc, _, rfl, hl6, by simp only [List.length_append, List.length_map]; omega, ?_, fun H7 s7 => q H7 (fun c o hc => s7 _ _ (b6 c o (ne_of_none hc nacc) (s5 c o hc)))⟩
    exact hP.short
end
end K10

set_option Elab.async false
set_option linter.all false
set_option maxRecDepth 100000
set_option maxHeartbeats 4000000
namespace K10
open PySem L2
seal L2.PE L2.PS L2.PSs L2.PT L2.PW L2.PA L2.PG L2.PGs L2.PI L2.PO L2.PIfs L2.PC L2.OpR L2.CallR L2.IxR L2.SlR L2.PSet L2.UnR
theorem joinW2 (a b : Str) : joinW [a, b] = a ++ " " ++ b := by rw [joinW_eq]; rfl
theorem joinW1 (a : Str) : joinW [a] = a := by rw [joinW_eq]; rfl
theorem join_cons (s x y : Str) (r : List Str) : Str.join s (x :: y :: r) = x ++ s ++ Str.join s (y :: r) := rfl
theorem app_assoc (a b c : Str) : a ++ b ++ c = a ++ (b ++ c) := Str.append_assoc a b c
theorem join_app (s : Str) : ∀ {as bs : List Str}, as ≠ [] → bs ≠ [] → Str.join s (as ++ bs) = Str.join s as ++ s ++ Str.join s bs
  | [], _, h, _ => absurd rfl h
  | [x], [], _, h => absurd rfl h
  | [x], b :: bs, _, _ => rfl
  | x :: y :: r, bs, _, hb => by
    show Str.join s (x :: y :: (r ++ bs)) = _
    rw [join_cons, join_cons]
    have := join_app s (as := y :: r) (bs := bs) (by intro z; cases z) hb
    rw [show y :: (r ++ bs) = (y :: r) ++ bs from rfl, this]
    simp only [app_assoc]
theorem joinW_flat : ∀ {wss : List (List Str)}, (∀ ws ∈ wss, ws ≠ []) → joinW (wss.map joinW) = joinW wss.flatten
  | [], _ => rfl
  | [ws], _ => by
    show joinW [joinW ws] = joinW (ws ++ [])
    rw [joinW1, List.append_nil]
  | ws :: vs :: r, h => by
    have h1 := h ws List.mem_cons_self
    have h2 : (vs :: r).flatten ≠ [] := by
      have := h vs (List.mem_cons_of_mem _ List.mem_cons_self)
      rw [List.flatten_cons]
      intro z
      exact this (List.append_eq_nil_iff.mp z).1
    have ih := joinW_flat (wss := vs :: r) fun x hx => h x (List.mem_cons_of_mem _ hx)
    simp only [joinW_eq] at ih ⊢
    rw [List.flatten_cons, join_app " " h1 h2, ← ih]
    simp only [List.map_cons, joinW_eq]
    rfl
theorem joinW_words {wd : Str} {wss : List (List Str)} (h : ∀ ws ∈ wss, ws ≠ []) : joinW (wd :: wss.map joinW) = joinW (wd :: wss.flatten) := by
  have := joinW_flat (wss := [wd] :: wss) fun ws hw => by
    rcases List.mem_cons.mp hw with rfl | hw
    · intro z; cases z
    · exact h ws hw
  rw [List.map_cons, joinW1] at this
  exact this
theorem Vl.nn {H : Hp} {n : Nat} {v : V} {ws : List Str} (h : Vl H n v ws) : ws ≠ [] := by
  obtain ⟨x, us, rfl⟩ := h.ne
  intro z; cases z
def three : List Str := ["number", "box", "size"]
theorem cut_tail (y : V) (ys : List V) : cutV (y :: ys) (some 1) none = ys := by
  unfold cutV
  have e1 : HT.sIx (y :: ys).length 0 (some 1) = 1 := by
    have := HT.sIx_nat (y :: ys).length 0 1
    rw [show (some (1 : Int)) = some ((1 : Nat) : Int) from rfl, this, List.length_cons]
    omega
  rw [e1, HT.sIx_none]
  simp
/-- a part of a value, n deep -/
def Qt (H : Hp) (n : Nat) (v : V) (ws : List Str) : Prop := (∃ x : Str, v = .str x ∧ ws = [x] ∧ 1 ≤ x.length ∧ x.length ≤ 10) ∨ Vl H n v ws
theorem Qt.nn {H : Hp} {n : Nat} {v : V} {ws : List Str} (h : Qt H n v ws) : ws ≠ [] := by
  rcases h with ⟨x, _, rfl, _⟩ | h
  · intro z; cases z
  · exact h.nn
/-- a value by its first word -/
theorem Vl.split {H : Hp} {n : Nat} {v : V} {ws : List Str} (h : Vl H (n + 1) v ws) : ∃ (t : Addr) (wd : Str) (rest : List V), v = .ref t ∧ H t = some (.tup (.str wd :: rest)) ∧
    ((wd ∈ three ∧ ∃ x y, rest = [x] ∧ ws = [wd, y] ∧ (x = .str y ∨ ∃ k : Int, x = .int k ∧ y = toString k ∧ 0 ≤ k ∧ k < 1000000) ∧ wd.length ≤ 10 ∧ y.length ≤ 10) ∨
     (wd ∉ three ∧ wd.length ≤ 10 ∧ ∃ wss, Paired (Qt H n) rest wss ∧ ws = wd :: wss.flatten ∧ rest.length ≤ 2)) := by
  cases h with
  | @num _ t k h a b => exact ⟨t, _, _, rfl, h, .inl ⟨by decide, _, _, rfl, rfl, .inr ⟨k, rfl, rfl, a, b⟩, by decide, num_len a b⟩⟩
  | @nm _ t wd x h a b c => exact ⟨t, _, _, rfl, h, .inl ⟨by rcases a with rfl | rfl <;> decide, _, _, rfl, rfl, .inl rfl, by rcases a with rfl | rfl <;> decide, c⟩⟩
  | @no _ t u us h hu => exact ⟨t, _, _, rfl, h, .inr ⟨by decide, by decide, [us], .cons (.inr hu) .nil, by simp, by show 1 ≤ 2; decide⟩⟩
  | @item _ t x u us h a b hu => exact ⟨t, _, _, rfl, h, .inr ⟨by decide, by decide, [[x], us], .cons (.inl ⟨x, rfl, rfl, a, b⟩) (.cons (.inr hu) .nil), by simp, by show 2 ≤ 2; decide⟩⟩
  | @two _ t wd u v us vs h a hu hv =>
    have a1 : ∀ x ∈ sevens, x ∉ three ∧ x.length ≤ 10 := by decide +kernel
    exact ⟨t, _, _, rfl, h, .inr ⟨(a1 _ a).1, (a1 _ a).2, [us, vs], .cons (.inr hu) (.cons (.inr hv) .nil), by simp, by show 2 ≤ 2; decide⟩⟩
theorem pairedQ_words {H : Hp} {n : Nat} (hn : n ≤ 3) : ∀ {vals : List V} {wss : List (List Str)}, Paired (Qt H n) vals wss → (∀ ws ∈ wss, ws ≠ [] ∧ (joinW ws).length ≤ 130)
  | _, _, .nil => fun x hx => by cases hx
  | _, _, .cons h hs => fun x hx => by
    rcases List.mem_cons.mp hx with rfl | hx
    · refine ⟨h.nn, ?_⟩
      rcases h with ⟨y, _, rfl, _, h⟩ | h
      · rw [joinW1]; omega
      · have h := h.up hn
        have a := joinW_len h.words
        have b := h.len
        have e : vB 3 = 11 := rfl
        omega
    · exact pairedQ_words hn hs x hx
section
variable {P : Program} {w : World} {K : PySem.W.Frag} {mg : Str → Option Value} {base : Heap}
theorem sc_lvt : FnScope ["_law_value_here", "_law_words", "_law_part"] ["_law_value_here"] (defScope (top 26)) := ⟨rfl, rfl, rfl, by decide +kernel, rfl, by decide +kernel, by decide +kernel⟩
def spVT (n : Nat) : Sp := fun vs H Q _ => ∃ (v : V) (ws : List Str), vs = [v] ∧ Vl H n v ws ∧ n ≤ 3 ∧ ∀ H', Same H H' → Q (.str (joinW ws)) H'
theorem d_lvt1 {n : Nat} (T : Txt w K mg) (IH : Def P w K mg base (n + 1) "_law_value_text" ["_law_value_here"] (spVT n)) (S : Src K mg "_law_value_text" (top 26) ["_law_value_here"]) : Def P w K mg base (n + 2) "_law_value_text" ["_law_value_here"] (spVT (n + 1)) := by
  refine S.ok sc_lvt (fun vs H Q E h => ?_) (fun f cdv A outer s H vs Q E hr h => ?_)
  · obtain ⟨v, ws, rfl, _⟩ := h; rfl
  obtain ⟨v, ws, rfl, hv, hn, q⟩ := h
  obtain ⟨t, wd, rest, rfl, ht, hk⟩ := hv.split
  refine ⟨_, (pss_cons (ps_if (pt_cmpR op_in_seq (pe_ix ix_tup (pv 0) pe_int (fun _ _ => rfl)) (pe_lst (pa_const [.str "number", .str "box", .str "size"] (by rfl))) (by rfl))
      (pss_one (ps_ret (pe_op op_add_str (pe_op op_add_str (pe_ix ix_tup (pv 0) pe_int (fun _ _ => rfl)) pe_str) (pe_cT call_str_any rfl T.z_str bt_str (pac (pe_ix ix_tup (pv 0) pe_int (fun _ _ => rfl)) pa_nil))))) pss_nil)
      (pss_cons (ps_set (i := 1) sc_lvt.nd rfl (Or.inl rfl) (pe_lst (pac (pe_ix ix_tup (pv 0) pe_int (fun _ _ => rfl)) pa_nil)))
      (pss_cons (ps_for PassesOwn.never rfl (pi_tup (pe_slice sl_tupW (pv 0) (po_some pe_int) po_none)) (pg_name (i := 2) sc_lvt.nd rfl (Or.inl rfl))
      (pss_one (ps_expr (pe_bm PySem.F.plainAttrs_list PySem.F.slot_list_append PySem.F.type_list_append mt_append (pv 1) (pac (pe_orS (pe_ix ix_list (pe_lst (pac (pv 2) (pac pe_str pa_nil))) (pe_cT call_int1 rfl T.z_int bt_int (pac (pe_cB call_isi rfl T.z_isinstance bt_isinstance (pac (pv 2) (pac (pe_ty T.z_tuple bt_tuple rfl) pa_nil))) pa_nil)) (fun _ _ => rfl)) (pe_one (pe_def (IH) hr rfl (pac (pv 2) pa_nil)))) pa_nil)))))
      (pss_one (ps_ret (pe_bm PySem.F.plainAttrs_str PySem.F.slot_str_join PySem.F.type_str_join mt_join pe_str (pac (pv 1) pa_nil))))))), ?_⟩
  have l3 : (100000 : Nat) < sizeLine := by rw [sizeLine_eq]; decide
  have l1 : (" " : Str).length = 1 := rfl
  refine ⟨_, rfl, t, _, 0, _, rfl, rfl, SqT.of ht, atI_nat (j := 0) rfl, (by show 3 ≤ sizeLine; omega), fun u hu => ?_⟩
  have su := same_of_new hu (.lst (three.map V.str))
  refine ⟨u, _, rfl, .inl (SqL.of upd_same), rfl, flat_strs three, _, rfl, ?_⟩
  rcases hk with ⟨hin, x, y, rfl, rfl, hx, hwd, hy⟩ | ⟨hin, hwd, wss, hp, rfl, hr2⟩
  · refine ifT (show inV (.str wd) (three.map V.str) = true by rw [inS]; exact decide_eq_true hin) ?_
    refine ⟨_, rfl, t, _, 0, _, rfl, rfl, SqT.of (su _ _ ht), atI_nat (j := 0) rfl, _, _, rfl, rfl, by omega, _, rfl, t, _, 1, _, rfl, rfl, SqT.of (su _ _ ht), atI_nat (j := 1) rfl, ?_⟩
    have fin : ((wd ++ " ").length + y.length ≤ sizeLine ∧ Q (.str (wd ++ " " ++ y)) (upd H u (.lst (three.map V.str)))) := by
      refine ⟨by rw [len_append]; omega, ?_⟩
      rw [← joinW2]
      exact q _ su
    rcases hx with rfl | ⟨k, rfl, rfl, k0, k1⟩
    · exact .inl ⟨y, rfl, _, _, rfl, rfl, fin.1, fin.2⟩
    · exact .inr ⟨k, rfl, log_small k0 k1, _, _, rfl, rfl, fin.1, fin.2⟩
  · refine ifF (show inV (.str wd) (three.map V.str) = false by rw [inS]; exact decide_eq_false hin) ?_
    have hpw := pairedQ_words (n := n) (by omega) hp
    refine ⟨_, rfl, t, _, 0, _, rfl, rfl, SqT.of (su _ _ ht), atI_nat (j := 0) rfl, (by show 1 ≤ sizeLine; omega), fun a ha => ?_⟩
    have sa := same_of_new ha (.lst [.str wd])
    have ha0 : H a = none := su.free ha
    have s2 := su.trans sa
    have hl2 : upd (upd H u (.lst (three.map V.str))) a (.lst [.str wd]) a = some (.lst ([wd].map V.str)) := upd_same
    refine ⟨_, rfl, 1, rfl, t, _, rfl, s2 _ _ ht, fun pt H3 s3 h3 => ?_⟩
    rw [cut_tail] at h3
    have s03 := s2.trans s3
    have hl3 := s3 _ _ hl2
    have pa : pt ≠ a := ne_of h3 hl3 (by intro z; cases z)
    refine ⟨pt, rfl, ⟨_, SqT.of h3⟩, ?_⟩
    refine for_tup (xs := rest) (fun i σ H' => ∃ (w1 w2 : List (List Str)) (x2 : Option V), σ = [some (.ref t), some (.ref a), x2] ∧ Same H H' ∧ H' pt = some (.tup rest) ∧ H' a = some (.lst ((wd :: w1.map joinW).map V.str)) ∧ wss = w1 ++ w2 ∧ Paired (Qt H n) (rest.drop i) w2 ∧ w1.length ≤ 2) ?_ ?_ ?_ ?_
    · exact ⟨[], wss, _, rfl, s03, h3, hl3, rfl, hp, by decide⟩
    · rintro i σ H' hi ⟨w1, w2, x2, rfl, s4, hpt, _⟩
      exact SqT.of hpt
    · rintro i x σ H' hxi ⟨w1, w2, x2, rfl, s4, hpt, hl4, rfl, hp4, hw1⟩
      have hil : i < rest.length := (List.getElem?_eq_some_iff.mp hxi).1
      have hd : rest.drop i = x :: rest.drop (i + 1) := by
        rw [List.drop_eq_getElem_cons hil]
        congr 1
        rw [List.getElem?_eq_getElem hil] at hxi
        injection hxi
      rw [hd] at hp4
      have hl12 : w1.length + w2.length = rest.length := by have := Paired.length hp; rw [List.length_append] at this; exact this.symm
      cases hp4 with
      | @cons _ ws _ w3 hx hp5 =>
      rw [List.length_cons] at hl12
      have fin : ∀ (H5 : Hp), Same H' H5 → (∃ (l : Addr) (ys : List V) (y : V), V.ref a = .ref l ∧ [V.str (joinW ws)] = [y] ∧ H5 l = some (.lst ys) ∧ ys.length < sizeLine ∧ ∃ (w1' w2' : List (List Str)) (x2 : Option V), [some (V.ref t), some (V.ref a), some x] = [some (.ref t), some (.ref a), x2] ∧ Same H (upd H5 l (.lst (ys ++ [y]))) ∧ upd H5 l (.lst (ys ++ [y])) pt = some (.tup rest) ∧ upd H5 l (.lst (ys ++ [y])) a = some (.lst ((wd :: w1'.map joinW).map V.str)) ∧ w1 ++ ws :: w3 = w1' ++ w2' ∧ Paired (Qt H n) (rest.drop (i + 1)) w2' ∧ w1'.length ≤ 2) := by
        intro H5 s5
        refine ⟨a, _, _, rfl, rfl, s5 _ _ hl4, by simp only [List.length_map, List.length_cons]; omega, w1 ++ [ws], w3, _, rfl, fun c o hc => by rw [upd_ne (ne_of_none hc ha0)]; exact s5 _ _ (s4 c o hc), by rw [upd_ne pa]; exact s5 _ _ hpt, ?_, by simp, hp5, by rw [List.length_append]; show w1.length + 1 ≤ 2; omega⟩
        rw [upd_same]
        simp
      refine ⟨_, rfl, .inl ⟨rfl, _, SqL.of hl4⟩, _, rfl, (by show 2 ≤ sizeLine; omega), fun u2 hu2 => ?_⟩
      have su2 := same_of_new hu2 (.lst [x, .str ""])
      rcases hx with ⟨y, rfl, rfl, y1, y2⟩ | hx
      · refine ⟨_, rfl, _, "tuple", "str", rfl, rfl, by decide, .inr ⟨_, rfl, u2, _, 0, _, rfl, rfl, SqL.of upd_same, atI_nat (j := 0) rfl, y, rfl, by omega, ?_⟩⟩
        rw [if_neg (by omega)]
        have := fin _ su2
        rw [joinW1] at this
        exact this
      · obtain ⟨n', rfl⟩ : ∃ n', n = n' + 1 := by
          cases n with
          | zero => cases hx
          | succ n' => exact ⟨n', rfl⟩
        obtain ⟨t2, wd2, rest2, rfl, ht2, _⟩ := hx.split
        have ht2' := su2 _ _ (s4 _ _ ht2)
        refine ⟨_, rfl, _, "tuple", "tuple", rfl, by unfold tyN; dsimp only; rw [ht2'], by decide, .inr ⟨_, rfl, u2, _, 1, _, rfl, rfl, SqL.of upd_same, atI_nat (j := 1) rfl, "", rfl, by decide, ?_⟩⟩
        rw [if_pos (show ("" : Str).length = 0 from rfl)]
        refine ⟨_, rfl, _, ws, rfl, hx.tk (TK.of (s4.trans su2)), by omega, fun H5 s5 => ?_⟩
        exact fin _ (su2.trans s5)
    · rintro σ H' ⟨w1, w2, x2, rfl, s4, hpt, hl4, rfl, hp4, hw1⟩
      rw [List.drop_length] at hp4
      cases hp4
      rw [List.append_nil] at hpw q
      rw [← joinW_words fun ws hw => (hpw ws hw).1] at q
      refine ⟨rfl, _, rfl, " ", a, _, rfl, rfl, hl4, ?_, q _ s4⟩
      have h1 : ∀ x ∈ wd :: w1.map joinW, x.length ≤ 130 := fun x hx => by
        rcases List.mem_cons.mp hx with rfl | hx
        · omega
        · obtain ⟨ws, hw, rfl⟩ := List.mem_map.mp hx
          exact (hpw ws hw).2
      have h2 := sum_le h1
      simp only [List.length_cons, List.length_map] at h2 ⊢
      rw [l1]
      omega
theorem d_lvt (T : Txt w K mg) (S : Src K mg "_law_value_text" (top 26) ["_law_value_here"]) : ∀ n : Nat, Def P w K mg base (n + 1) "_law_value_text" ["_law_value_here"] (spVT n)
  | 0 => S.no fun vs H Q E h => by obtain ⟨v, ws, _, hv, _⟩ := h; cases hv
  | n + 1 => d_lvt1 T (d_lvt T S n) S
end
end K10

set_option Elab.async false
set_option linter.all false
set_option maxRecDepth 100000
set_option maxHeartbeats 4000000
namespace K10
open PySem L2
seal L2.PE L2.PS L2.PSs L2.PT L2.PW L2.PA L2.PG L2.PGs L2.PI L2.PO L2.PIfs L2.PC L2.OpR L2.CallR L2.IxR L2.SlR L2.PSet L2.UnR
theorem Vl.one {H : Hp} {n : Nat} {v : V} {ws : List Str} (h : Vl H n v ws) : ∀ {m : Nat} {us : List Str}, Vl H m v us → ws = us := by
  induction h with
  | num h a b =>
    intro m us g
    cases g with
    | num g _ _ => rw [h] at g; simp at g; rw [g]
    | nm g => rw [h] at g; simp at g
    | no g gu => rw [h] at g; simp at g; rw [← g.2] at gu; cases gu
    | item g => rw [h] at g; simp at g
    | two g => rw [h] at g; simp at g
  | nm h a b c =>
    intro m us g
    cases g with
    | num g _ _ => rw [h] at g; simp at g
    | nm g => rw [h] at g; simp at g; rw [g.1, g.2]
    | no g gu => rw [h] at g; simp at g; rw [← g.2] at gu; cases gu
    | item g => rw [h] at g; simp at g
    | two g => rw [h] at g; simp at g
  | no h hu ih =>
    intro m us g
    cases g with
    | num g _ _ => rw [h] at g; simp at g; rw [g.2] at hu; cases hu
    | nm g => rw [h] at g; simp at g; rw [g.2] at hu; cases hu
    | no g gu => rw [h] at g; simp at g; subst g; rw [ih gu]
    | item g => rw [h] at g; simp at g
    | two g => rw [h] at g; simp at g
  | item h a b hu ih =>
    intro m us g
    cases g with
    | num g _ _ => rw [h] at g; simp at g
    | nm g => rw [h] at g; simp at g
    | no g gu => rw [h] at g; simp at g
    | item g _ _ gu => rw [h] at g; simp at g; obtain ⟨e1, e2⟩ := g; subst e1; subst e2; rw [ih gu]
    | two g _ gu => rw [h] at g; simp at g; obtain ⟨_, e2, _⟩ := g; rw [← e2] at gu; cases gu
  | two h a hu hv ih1 ih2 =>
    intro m us g
    cases g with
    | num g _ _ => rw [h] at g; simp at g
    | nm g => rw [h] at g; simp at g
    | no g gu => rw [h] at g; simp at g
    | item g _ _ gu => rw [h] at g; simp at g; obtain ⟨_, e2, _⟩ := g; rw [e2] at hu; cases hu
    | two g _ gu gv => rw [h] at g; simp at g; obtain ⟨e1, e2, e3⟩ := g; subst e1; subst e2; subst e3; rw [ih1 gu, ih2 gv]
/-- a row as the law writes it -/
inductive LRow (H : Hp) : V → List Str → Prop
  | pl {r : V} {ws : List Str} : PRow H r ws → LRow H r ws
  | ifs {a b c : Addr} {v : V} {ws : List Str} : H a = some (.tup [.str "if", v, .ref b, .ref c]) → Vl H 3 v ws → LRow H (.ref a) ("if" :: ws)
  | whl {a b : Addr} {v : V} {ws : List Str} : H a = some (.tup [.str "while", v, .ref b]) → Vl H 3 v ws → LRow H (.ref a) ("while" :: ws)
  | tri {a b c : Addr} {x : V} : H a = some (.tup [.str "try", .ref b, x, .ref c]) → LRow H (.ref a) ["try"]
  | df {a : Addr} {x : Str} : H a = some (.tup [.str "def", .str x]) → 1 ≤ x.length → x.length ≤ 10 → LRow H (.ref a) ["def", x]
theorem LRow.tk {H H' : Hp} (k : TK H H') {r : V} {ws : List Str} (h : LRow H r ws) : LRow H' r ws := by
  cases h with
  | pl h => exact .pl (h.tk k)
  | ifs h v => exact .ifs (k _ _ h) (v.tk k)
  | whl h v => exact .whl (k _ _ h) (v.tk k)
  | tri h => exact .tri (k _ _ h)
  | df h a b => exact .df (k _ _ h) a b
theorem LRow.hd {H : Hp} {r : V} {ws : List Str} (h : LRow H r ws) : RowHd H r ws := by
  cases h with
  | pl h => exact h.hd
  | ifs h v => exact if_hd h v
  | whl h v => exact while_hd h v
  | tri h => exact try_hd h
  | df h a b => exact ⟨_, "def", _, 2, rfl, h, by omega, mem_words (by decide) (mem_words b (fun y hy => by cases hy)), .inl ⟨rfl, .word (.word .nil)⟩⟩
/-- how the law's loop sees it -/
theorem LRow.split {H : Hp} {r : V} {ws : List Str} (h : LRow H r ws) : ∃ (a : Addr) (wd : Str) (rest : List V), r = .ref a ∧ H a = some (.tup (.str wd :: rest)) ∧ wd.length ≤ 10 ∧
    ((wd = "try" ∧ ws = [("try" : Str)]) ∨ ((wd = "if" ∨ wd = "while") ∧ ∃ v rs us, rest = v :: rs ∧ Vl H 3 v us ∧ ws = wd :: us) ∨
     (wd ≠ "try" ∧ wd ≠ "if" ∧ wd ≠ "while" ∧ wd ≠ "call" ∧ rest.length ≤ 3 ∧ ∃ wss, Paired (Qt H 3) rest wss ∧ ws = wd :: wss.flatten) ∨
     (wd = "call" ∧ ∃ x f c vals wss, rest = [.str x, .str f, .ref c] ∧ x.length ≤ 10 ∧ f.length ≤ 10 ∧ H c = some (.tup vals) ∧ vals.length ≤ 2 ∧ Paired (Vl H 3) vals wss ∧ ws = ("call" : Str) :: x :: f :: wss.flatten)) := by
  cases h with
  | pl h =>
    cases h with
    | parts a b c d e f => have := plains_ne _ b; exact ⟨_, _, _, rfl, a, plains_10 _ b, .inr (.inr (.inl ⟨this.2.2.2.1, this.2.1, this.2.2.1, this.2.2.2.2, e, _, f, rfl⟩))⟩
    | call a b c d e f => exact ⟨_, _, _, rfl, a, by decide, .inr (.inr (.inr ⟨rfl, _, _, _, _, _, rfl, b, c, d, e, f, rfl⟩))⟩
  | ifs h v => exact ⟨_, _, _, rfl, h, by decide, .inr (.inl ⟨.inl rfl, _, _, _, rfl, v, rfl⟩)⟩
  | whl h v => exact ⟨_, _, _, rfl, h, by decide, .inr (.inl ⟨.inr rfl, _, _, _, rfl, v, rfl⟩)⟩
  | tri h => exact ⟨_, _, _, rfl, h, by decide, .inl ⟨rfl, rfl⟩⟩
  | @df a x h p q => exact ⟨_, _, _, rfl, h, by decide, .inr (.inr (.inl ⟨by decide, by decide, by decide, by decide, by show 1 ≤ 3; decide, [[x]], .cons (.inl ⟨x, rfl, rfl, p, q⟩) .nil, rfl⟩))⟩
def txs (x f : Str) (wss : List (List Str)) : Nat → List Str
  | 0 => ["call"]
  | 1 => ["call", x]
  | 2 => ["call", x, f]
  | _ => "call" :: x :: f :: wss.map joinW
def ifwh : List Str := ["if", "while"]
section
variable {P : Program} {w : World} {K : PySem.W.Frag} {mg : Str → Option Value} {base : Heap}
theorem sc_lrt : FnScope ["_law_row", "_law_words", "_law_part"] ["_law_row"] (defScope (top 27)) := ⟨rfl, rfl, rfl, by decide +kernel, rfl, by decide +kernel, by decide +kernel⟩
def spLRT : Sp := fun vs H Q _ => ∃ (r : V) (ws : List Str), vs = [r] ∧ LRow H r ws ∧ ∀ H', Same H H' → Q (.str (joinW ws)) H'
theorem d_lrt (T : Txt w K mg) (D_lvt : Def P w K mg base 4 "_law_value_text" ["_law_value_here"] (spVT 3)) (S : Src K mg "_law_row_text" (top 27) ["_law_row"]) : Def P w K mg base 5 "_law_row_text" ["_law_row"] spLRT := by
  refine S.ok sc_lrt (fun vs H Q E h => ?_) (fun f cdv A outer s H vs Q E hr h => ?_)
  · obtain ⟨v, ws, rfl, _⟩ := h; rfl
  obtain ⟨r, ws, rfl, hv, q⟩ := h
  obtain ⟨t, wd, rest, rfl, ht, hwd, hk⟩ := hv.split
  refine ⟨_, (pss_cons (ps_set (i := 1) sc_lrt.nd rfl (Or.inl rfl) (pe_lst (pac (pe_ix ix_tup (pv 0) pe_int (fun _ _ => rfl)) pa_nil)))
      (pss_cons (ps_if (pt_cmpR op_eq (pe_ix ix_tup (pv 0) pe_int (fun _ _ => rfl)) pe_str (nomark _))
      (pss_one (ps_ret pe_str)) pss_nil)
      (pss_cons (ps_if (pt_cmpR op_in_seq (pe_ix ix_tup (pv 0) pe_int (fun _ _ => rfl)) (pe_lst (pa_const [.str "if", .str "while"] (by rfl))) (by rfl))
      (pss_one (ps_ret (pe_op op_add_str (pe_op op_add_str (pe_ix ix_tup (pv 0) pe_int (fun _ _ => rfl)) pe_str) (pe_def (D_lvt) hr rfl (pac (pe_ix ix_tup (pv 0) pe_int (fun _ _ => rfl)) pa_nil))))) pss_nil)
      (pss_cons (ps_for PassesOwn.never rfl (pi_tup (pe_slice sl_tupW (pv 0) (po_some pe_int) po_none)) (pg_name (i := 2) sc_lrt.nd rfl (Or.inl rfl))
      (pss_one (ps_if (pt_val (pe_cB call_isi rfl T.z_isinstance bt_isinstance (pac (pv 2) (pac (pe_ty T.z_str bt_str rfl) pa_nil))))
      (pss_one (ps_expr (pe_bm PySem.F.plainAttrs_list PySem.F.slot_list_append PySem.F.type_list_append mt_append (pv 1) (pac (pv 2) pa_nil))))
      (pss_one (ps_if (pt_cmpR op_eq (pe_ix ix_tup (pv 0) pe_int (fun _ _ => rfl)) pe_str (nomark _))
      (pss_one (ps_set (i := 1) sc_lrt.nd rfl (Or.inl rfl) (pe_op op_cat (pv 1) (pe_comp (N' := ["_law_one"]) (comp_scope (defScope (top 27)) (by rfl) (by decide +kernel) (by decide +kernel) (by decide +kernel) (by decide +kernel) (by decide +kernel) (by decide +kernel)) rfl (capt 1 [] (by rfl) (by rfl) (by decide +kernel)) (pi_tup (pv 2)) (fun _ _ _ => pg_name (i := 0) (show (["_law_one"] : List Str).Nodup by decide +kernel) rfl (Or.inl rfl) (Or.inr rfl)) (fun _ _ _ => pifs_nil) (fun _ _ _ => (pe_def (D_lvt) hr rfl (pac (pv 0) pa_nil)))))))
      (pss_one (ps_expr (pe_bm PySem.F.plainAttrs_list PySem.F.slot_list_append PySem.F.type_list_append mt_append (pv 1) (pac (pe_def (D_lvt) hr rfl (pac (pv 2) pa_nil)) pa_nil)))))))))
      (pss_one (ps_ret (pe_bm PySem.F.plainAttrs_str PySem.F.slot_str_join PySem.F.type_str_join mt_join pe_str (pac (pv 1) pa_nil)))))))), ?_⟩
  have l3 : (100000 : Nat) < sizeLine := by rw [sizeLine_eq]; decide
  have l1 : (" " : Str).length = 1 := rfl
  refine ⟨_, rfl, t, _, 0, _, rfl, rfl, SqT.of ht, atI_nat (j := 0) rfl, (by show 1 ≤ sizeLine; omega), fun a ha => ?_⟩
  have sa := same_of_new ha (.lst [.str wd])
  have hla : upd H a (.lst [.str wd]) a = some (.lst ([wd].map V.str)) := upd_same
  generalize upd H a (.lst [.str wd]) = H1 at sa hla ⊢
  refine ⟨_, rfl, t, _, 0, _, rfl, rfl, SqT.of (sa _ _ ht), atI_nat (j := 0) rfl, rfl, _, rfl, ?_⟩
  rcases hk with ⟨rfl, rfl⟩ | hk
  · exact ifT (word_yes _) (q _ sa)
  have ntry : wd ≠ "try" := by
    rcases hk with ⟨h, _⟩ | ⟨h, _⟩ | ⟨h, _⟩
    · rcases h with rfl | rfl <;> decide
    · exact h
    · rw [h]; decide
  refine ifF (word_no ntry) ?_
  refine ⟨_, rfl, t, _, 0, _, rfl, rfl, SqT.of (sa _ _ ht), atI_nat (j := 0) rfl, (by show 2 ≤ sizeLine; omega), fun u hu => ?_⟩
  have su := same_of_new hu (.lst (ifwh.map V.str))
  refine ⟨u, _, rfl, .inl (SqL.of upd_same), rfl, flat_strs ifwh, _, rfl, ?_⟩
  have s2 := sa.trans su
  have hl2 := su _ _ hla
  rcases hk with ⟨hin, v, rs, us, rfl, hv3, rfl⟩ | hk
  · have hin' : wd ∈ ifwh := by rcases hin with rfl | rfl <;> decide
    refine ifT (show inV (.str wd) (ifwh.map V.str) = true by rw [inS]; exact decide_eq_true hin') ?_
    refine ⟨_, rfl, t, _, 0, _, rfl, rfl, SqT.of (s2 _ _ ht), atI_nat (j := 0) rfl, _, _, rfl, rfl, by omega, _, rfl, t, _, 1, _, rfl, rfl, SqT.of (s2 _ _ ht), atI_nat (j := 1) rfl, _, us, rfl, hv3.tk (TK.of s2), by decide, fun H3 s3 => ?_⟩
    have jl := joinW_len hv3.words
    have ul := hv3.len
    have e : vB 3 = 11 := rfl
    refine ⟨_, _, rfl, rfl, by rw [len_append]; omega, ?_⟩
    have : joinW (wd :: us) = wd ++ " " ++ joinW us := by
      obtain ⟨x, xs, rfl⟩ := hv3.ne
      rw [joinW_eq, joinW_eq]; rfl
    rw [← this]
    exact q _ (s2.trans s3)
  have nin : wd ∉ ifwh := by
    rcases hk with ⟨_, h2, h3, _⟩ | ⟨rfl, _⟩
    · intro z
      rcases List.mem_cons.mp z with z | z
      · exact h2 z
      · exact h3 (List.mem_singleton.mp z)
    · decide
  refine ifF (show inV (.str wd) (ifwh.map V.str) = false by rw [inS]; exact decide_eq_false nin) ?_
  refine ⟨_, rfl, 1, rfl, t, _, rfl, s2 _ _ ht, fun pt H3 s3 h3 => ?_⟩
  rw [cut_tail] at h3
  have s03 := s2.trans s3
  have hl3 := s3 _ _ hl2
  have pa : pt ≠ a := ne_of h3 hl3 (by intro z; cases z)
  refine ⟨pt, rfl, ⟨_, SqT.of h3⟩, ?_⟩
  rcases hk with ⟨_, n2, n3, n4, hr3, wss, hp, rfl⟩ | ⟨rfl, x, fn, c, vals, wss, rfl, hx, hfn, hc, hv2, hp, rfl⟩
  · have hpw := pairedQ_words (n := 3) (by omega) hp
    refine for_tup (xs := rest) (fun i σ H' => ∃ (w1 w2 : List (List Str)) (x2 : Option V), σ = [some (.ref t), some (.ref a), x2] ∧ Same H H' ∧ H' pt = some (.tup rest) ∧ H' a = some (.lst ((wd :: w1.map joinW).map V.str)) ∧ wss = w1 ++ w2 ∧ Paired (Qt H 3) (rest.drop i) w2 ∧ w1.length ≤ 3) ?_ ?_ ?_ ?_
    · exact ⟨[], wss, _, rfl, s03, h3, hl3, rfl, hp, by decide⟩
    · rintro i σ H' hi ⟨w1, w2, x2, rfl, s4, hpt, _⟩
      exact SqT.of hpt
    · rintro i x σ H' hxi ⟨w1, w2, x2, rfl, s4, hpt, hl4, rfl, hp4, hw1⟩
      have hil : i < rest.length := (List.getElem?_eq_some_iff.mp hxi).1
      have hd : rest.drop i = x :: rest.drop (i + 1) := by
        rw [List.drop_eq_getElem_cons hil]
        congr 1
        rw [List.getElem?_eq_getElem hil] at hxi
        injection hxi
      rw [hd] at hp4
      have hl12 : w1.length + w2.length = rest.length := by have := Paired.length hp; rw [List.length_append] at this; exact this.symm
      cases hp4 with
      | @cons _ ws _ w3 hx hp5 =>
      rw [List.length_cons] at hl12
      have ha0 : H a = none := ha
      have fin : ∀ (H5 : Hp), Same H' H5 → (∃ (l : Addr) (ys : List V) (y : V), V.ref a = .ref l ∧ [V.str (joinW ws)] = [y] ∧ H5 l = some (.lst ys) ∧ ys.length < sizeLine ∧ ∃ (w1' w2' : List (List Str)) (x2 : Option V), [some (V.ref t), some (V.ref a), some x] = [some (.ref t), some (.ref a), x2] ∧ Same H (upd H5 l (.lst (ys ++ [y]))) ∧ upd H5 l (.lst (ys ++ [y])) pt = some (.tup rest) ∧ upd H5 l (.lst (ys ++ [y])) a = some (.lst ((wd :: w1'.map joinW).map V.str)) ∧ w1 ++ ws :: w3 = w1' ++ w2' ∧ Paired (Qt H 3) (rest.drop (i + 1)) w2' ∧ w1'.length ≤ 3) := by
        intro H5 s5
        refine ⟨a, _, _, rfl, rfl, s5 _ _ hl4, by simp only [List.length_map, List.length_cons]; omega, w1 ++ [ws], w3, _, rfl, fun c o hc => by rw [upd_ne (ne_of_none hc ha0)]; exact s5 _ _ (s4 c o hc), by rw [upd_ne pa]; exact s5 _ _ hpt, ?_, by simp, hp5, by rw [List.length_append]; show w1.length + 1 ≤ 3; omega⟩
        rw [upd_same]
        simp
      rcases hx with ⟨y, rfl, rfl, y1, y2⟩ | hx
      · refine ⟨_, rfl, _, "str", "str", rfl, rfl, by decide, _, rfl, ifT (by decide) ?_⟩
        have := fin _ (Same.refl _)
        rw [joinW1] at this
        exact ⟨_, rfl, .inl ⟨rfl, _, SqL.of hl4⟩, _, rfl, this⟩
      · obtain ⟨t2, wd2, rest2, rfl, ht2, _⟩ := hx.split
        have ht2' := s4 _ _ ht2
        refine ⟨_, rfl, _, "str", "tuple", rfl, by unfold tyN; dsimp only; rw [ht2'], by decide, _, rfl, ifF (by decide) ?_⟩
        refine ⟨_, rfl, t, _, 0, _, rfl, rfl, SqT.of (s4 _ _ ht), atI_nat (j := 0) rfl, rfl, _, rfl, ifF (word_no n4) ?_⟩
        refine ⟨_, rfl, .inl ⟨rfl, _, SqL.of hl4⟩, _, rfl, _, ws, rfl, hx.tk (TK.of s4), by omega, fun H5 s5 => ?_⟩
        exact fin _ s5
    · rintro σ H' ⟨w1, w2, x2, rfl, s4, hpt, hl4, rfl, hp4, hw1⟩
      rw [List.drop_length] at hp4
      cases hp4
      rw [List.append_nil] at hpw q
      rw [← joinW_words fun ws hw => (hpw ws hw).1] at q
      refine ⟨rfl, _, rfl, " ", a, _, rfl, rfl, hl4, ?_, q _ s4⟩
      have h1 : ∀ x ∈ wd :: w1.map joinW, x.length ≤ 130 := fun x hx => by
        rcases List.mem_cons.mp hx with rfl | hx
        · omega
        · obtain ⟨ws, hw, rfl⟩ := List.mem_map.mp hx
          exact (hpw ws hw).2
      have h2 := sum_le h1
      simp only [List.length_cons, List.length_map] at h2 ⊢
      rw [l1]
      omega
  · have hvw : ∀ ws ∈ wss, ws ≠ [] ∧ (joinW ws).length ≤ 130 := pairedQ_words (n := 3) (by omega) (paired_imp (fun _ _ h => .inr h) hp)
    have ha0 : H a = none := ha
    have lv : vals.length = wss.length := Paired.length hp
    refine for_tup (xs := [.str x, .str fn, .ref c]) (fun i σ H' => ∃ (al : Addr) (x2 : Option V), σ = [some (.ref t), some (.ref al), x2] ∧ Same H H' ∧ H' pt = some (.tup [.str x, .str fn, .ref c]) ∧ H al = none ∧ pt ≠ al ∧ H' al = some (.lst ((txs x fn wss i).map V.str))) ?_ ?_ ?_ ?_
    · exact ⟨a, _, rfl, s03, h3, ha0, pa, hl3⟩
    · rintro i σ H' hi ⟨al, x2, rfl, s4, hpt, _⟩
      exact SqT.of hpt
    · rintro i y σ H' hxi ⟨al, x2, rfl, s4, hpt, nal, pal, hl4⟩
      match i, hxi with
      | 0, hxi =>
        obtain rfl : V.str x = y := by simpa using hxi
        refine ⟨_, rfl, _, "str", "str", rfl, rfl, by decide, _, rfl, ifT (by decide) ?_⟩
        refine ⟨_, rfl, .inl ⟨rfl, _, SqL.of hl4⟩, _, rfl, al, _, _, rfl, rfl, hl4, (by show 1 < sizeLine; omega), al, _, rfl, fun c o hc => by rw [upd_ne (ne_of_none hc nal)]; exact s4 c o hc, by rw [upd_ne pal]; exact hpt, nal, pal, by rw [upd_same]; rfl⟩
      | 1, hxi =>
        obtain rfl : V.str fn = y := by simpa using hxi
        refine ⟨_, rfl, _, "str", "str", rfl, rfl, by decide, _, rfl, ifT (by decide) ?_⟩
        refine ⟨_, rfl, .inl ⟨rfl, _, SqL.of hl4⟩, _, rfl, al, _, _, rfl, rfl, hl4, (by show 2 < sizeLine; omega), al, _, rfl, fun c o hc => by rw [upd_ne (ne_of_none hc nal)]; exact s4 c o hc, by rw [upd_ne pal]; exact hpt, nal, pal, by rw [upd_same]; rfl⟩
      | 2, hxi =>
        obtain rfl : V.ref c = y := by simpa using hxi
        have hc4 := s4 _ _ hc
        refine ⟨_, rfl, _, "str", "tuple", rfl, by unfold tyN; dsimp only; rw [hc4], by decide, _, rfl, ifF (by decide) ?_⟩
        refine ⟨_, rfl, t, _, 0, _, rfl, rfl, SqT.of (s4 _ _ ht), atI_nat (j := 0) rfl, rfl, _, rfl, ifT (word_yes _) ?_⟩
        refine ⟨_, rfl, _, rfl, c, rfl, ⟨_, SqT.of hc4⟩, ?_⟩
        refine walk_by (te := tDef (spVT 3) (tCons (tVar 0) tNil)) (cs := []) (Rel.same H') vals (fun x y => ∃ ws, Vl H 3 x ws ∧ y = .str (joinW ws)) (by omega) (fun i H2 s hi => ⟨vals, _, SqT.of (s _ _ hc4), List.getElem?_eq_getElem hi⟩) (fun H2 s => ⟨vals, SqT.of (s _ _ hc4), Nat.le_refl _⟩) (fun i H2 x H3 s _ y => ⟨y.1, y.2 vals (SqT.of (s _ _ hc4))⟩) (by rfl) (fun x acc ys H5 k hx hn hl s hk => ?_) (fun acc ys H5 hn s5 hl5 hp5 => ?_)
        · obtain ⟨ws, _, hvx⟩ := mem_paired hp x hx
          exact ⟨_, rfl, _, ws, rfl, hvx.tk (TK.of (s4.trans s)), by omega, fun H6 s6 => hk _ _ ⟨ws, hvx, rfl⟩ (s.trans s6) (s6 _ _ hl)⟩
        · have e1 := Paired.out (f := joinW) (fun _ _ _ h g => by
            obtain ⟨q, g1, g2⟩ := g
            rw [g2, h.one g1]) hp hp5
          subst e1
          refine ⟨al, acc, _, _, rfl, rfl, s5 _ _ hl4, hl5, by simp only [List.length_map]; show 3 + wss.length ≤ sizeLine; omega, fun p6 hp6 => ?_⟩
          have s6 := same_of_new hp6 (.lst (((txs x fn wss 2).map V.str) ++ ((wss.map joinW).map V.str)))
          have s46 := s4.trans (s5.trans s6)
          have hpt6 := s6 _ _ (s5 _ _ hpt)
          have np6 : pt ≠ p6 := fun z => by rw [← z, s5 _ _ hpt] at hp6; cases hp6
          refine ⟨p6, _, rfl, s46, hpt6, (s4.trans s5).free hp6, np6, ?_⟩
          rw [upd_same, ← List.map_append]
          rfl
      | i + 3, hxi => simp at hxi
    · rintro σ H' ⟨al, x2, rfl, s4, hpt, nal, pal, hl4⟩
      have e := joinW_words (wd := "call") (wss := [x] :: [fn] :: wss) fun ws hw => by
        rcases List.mem_cons.mp hw with rfl | hw
        · intro z; cases z
        rcases List.mem_cons.mp hw with rfl | hw
        · intro z; cases z
        · exact (hvw ws hw).1
      rw [List.map_cons, List.map_cons, joinW1, joinW1] at e
      have e' : joinW ("call" :: x :: fn :: wss.map joinW) = joinW ("call" :: x :: fn :: wss.flatten) := e
      rw [← e'] at q
      refine ⟨rfl, _, rfl, " ", al, _, rfl, rfl, hl4, ?_, q _ s4⟩
      have h1 : ∀ y ∈ txs x fn wss 3, y.length ≤ 130 := fun y hy => by
        have hy' : y ∈ (("call" :: x :: fn :: wss.map joinW) : List Str) := hy
        rcases List.mem_cons.mp hy' with rfl | hy
        · decide
        rcases List.mem_cons.mp hy with rfl | hy
        · omega
        rcases List.mem_cons.mp hy with rfl | hy
        · omega
        · obtain ⟨ws, hw, rfl⟩ := List.mem_map.mp hy
          exact (hvw ws hw).2
      have h2 := sum_le h1
      have h3 : (txs x fn wss 3).length = wss.length + 3 := by show (("call" :: x :: fn :: wss.map joinW) : List Str).length = _; simp
      show ((txs x fn wss 3).map (·.length)).sum + (txs x fn wss 3).length * (" " : Str).length ≤ _
      rw [l1]
      omega
end
end K10

set_option Elab.async false
set_option linter.all false
set_option maxRecDepth 100000
set_option maxHeartbeats 4000000
namespace K10
open PySem L2
seal L2.PE L2.PS L2.PSs L2.PT L2.PW L2.PA L2.PG L2.PGs L2.PI L2.PO L2.PIfs L2.PC L2.OpR L2.CallR L2.IxR L2.SlR L2.PSet L2.UnR
theorem Rs.uncons {H : Hp} {d : Nat} {r : V} {rest : List V} {o : Lns} (h : Rs H d (r :: rest) o) : ∃ o1 o2, o = o1 ++ o2 ∧ Rs H d [r] o1 ∧ Rs H d rest o2 := by
  cases h with
  | plain a b => exact ⟨[(0, _)], _, rfl, .plain a .nil, b⟩
  | ifs a b c d h1 h2 h3 => exact ⟨_, _, by simp only [List.cons_append, List.append_assoc, List.nil_append], .ifs a b c d h1 h2 .nil, h3⟩
  | whl a b c h1 h3 => exact ⟨_, _, by simp only [List.cons_append, List.append_assoc, List.nil_append], .whl a b c h1 .nil, h3⟩
  | tri a b c d h1 h2 h3 => exact ⟨_, _, by simp only [List.cons_append, List.append_assoc, List.nil_append], .tri a b c d h1 h2 .nil, h3⟩
theorem cut_all1 (x : V) : cutV [x] none (some ((1 : Nat) : Int)) = [x] := by rw [cut_to]; rfl
theorem cut_no1 (x : V) : cutV [x] none (some ((0 : Nat) : Int)) = [] := by rw [cut_to]; rfl
def comps : List Str := ["if", "while", "try"]
section
variable {P : Program} {w : World} {K : PySem.W.Frag} {mg : Str → Option Value} {base : Heap}
def spLn (d : Nat) : Sp := fun vs H Q _ => ∃ (r : Addr) (m : Nat) (rows : List V) (o : Lns), vs = [.ref r, .str (pad m)] ∧ H r = some (.tup rows) ∧ Rs H d rows o ∧ m + d ≤ 6 ∧ o.length ≤ 10000 ∧ ∀ l H', Same H H' → H l = none → H' l = some (.lst ((o.map (ln m)).map V.str)) → Q (.ref l) H'
def spLnL (d : Nat) : Sp := fun vs H Q E => ∃ d', d = d' + 1 ∧ spLn d' vs H Q E
def spRL (d : Nat) : Sp := fun vs H Q _ => ∃ (r : V) (m : Nat) (o : Lns), vs = [r, .str (pad m)] ∧ Rs H d [r] o ∧ m + d ≤ 6 ∧ o.length ≤ 10000 ∧ ∀ l H', Same H H' → H l = none → H' l = some (.lst ((o.map (ln m)).map V.str)) → Q (.ref l) H'
theorem sc_rl : FnScope ["_law_row", "_law_ahead", "_law_found", "_law_more"] ["_law_row", "_law_ahead"] (defScope (top 28)) := ⟨rfl, rfl, rfl, by decide +kernel, rfl, by decide +kernel, by decide +kernel⟩
theorem d_rl {d j : Nat} (hj : 5 ≤ j) (T : Txt w K mg) (D_lrt : Def P w K mg base 5 "_law_row_text" ["_law_row"] spLRT) (IH : Def P w K mg base j "_law_lines" ["_law_rows_here", "_law_ahead"] (spLnL d)) (S : Src K mg "_law_row_lines" (top 28) ["_law_row", "_law_ahead"]) : Def P w K mg base (j + 1) "_law_row_lines" ["_law_row", "_law_ahead"] (spRL d) := by
  refine S.ok sc_rl (fun vs H Q E h => ?_) (fun f cdv A outer s H vs Q E hr h => ?_)
  · obtain ⟨r, m, o, rfl, _⟩ := h; rfl
  obtain ⟨r, m, o, rfl, hR, hm, ho, q⟩ := h
  refine ⟨_, (pss_cons (ps_set (i := 2) sc_rl.nd rfl (Or.inl rfl) (pe_lst (pac (pe_op op_add_str (pv 1) (pe_def (D_lrt.mono (by omega)) hr rfl (pac (pv 0) pa_nil))) pa_nil)))
      (pss_cons (ps_set (i := 3) sc_rl.nd rfl (Or.inl rfl) (pe_op op_add_str (pv 1) pe_str))
      (pss_cons (ps_if (pt_cmpR op_eq (pe_ix ix_tup (pv 0) pe_int (fun _ _ => rfl)) pe_str (nomark _))
      (pss_cons (ps_set (i := 2) sc_rl.nd rfl (Or.inl rfl) (pe_op op_cat (pv 2) (pe_def (IH) hr rfl (pac (pe_ix ix_tup (pv 0) pe_int (fun _ _ => rfl)) (pac (pv 3) pa_nil)))))
      (pss_one (ps_if (pt_cmpR (op_neT0 hr.units0) (pe_ix ix_tup (pv 0) pe_int (fun _ _ => rfl)) (pe_tup pa_nil) (nomark _))
      (pss_one (ps_set (i := 2) sc_rl.nd rfl (Or.inl rfl) (pe_op op_cat (pe_op op_cat (pv 2) (pe_lst (pac (pe_op op_add_str (pv 1) pe_str) pa_nil))) (pe_def (IH) hr rfl (pac (pe_ix ix_tup (pv 0) pe_int (fun _ _ => rfl)) (pac (pv 3) pa_nil)))))) pss_nil))) pss_nil)
      (pss_cons (ps_if (pt_cmpR op_eq (pe_ix ix_tup (pv 0) pe_int (fun _ _ => rfl)) pe_str (nomark _))
      (pss_one (ps_set (i := 2) sc_rl.nd rfl (Or.inl rfl) (pe_op op_cat (pv 2) (pe_def (IH) hr rfl (pac (pe_ix ix_tup (pv 0) pe_int (fun _ _ => rfl)) (pac (pv 3) pa_nil)))))) pss_nil)
      (pss_cons (ps_if (pt_cmpR op_eq (pe_ix ix_tup (pv 0) pe_int (fun _ _ => rfl)) pe_str (nomark _))
      (pss_one (ps_set (i := 2) sc_rl.nd rfl (Or.inl rfl) (pe_op op_cat (pe_op op_cat (pe_op op_cat (pv 2) (pe_def (IH) hr rfl (pac (pe_ix ix_tup (pv 0) pe_int (fun _ _ => rfl)) (pac (pv 3) pa_nil)))) (pe_lst (pac (pe_op op_add_str (pe_op op_add_str (pv 1) pe_str) (pe_ix ix_tup (pv 0) pe_int (fun _ _ => rfl))) pa_nil))) (pe_def (IH) hr rfl (pac (pe_ix ix_tup (pv 0) pe_int (fun _ _ => rfl)) (pac (pv 3) pa_nil)))))) pss_nil)
      (pss_one (ps_ret (pe_op op_cat (pv 2) (pe_slice sl_list (pe_lst (pac (pe_op op_add_str (pv 1) pe_str) pa_nil)) po_none (po_some (pe_cT call_int1 rfl T.z_int bt_int (pac (pe_cmpR op_in_seq (pe_ix ix_tup (pv 0) pe_int (fun _ _ => rfl)) (pe_lst (pa_const [.str "if", .str "while", .str "try"] (by rfl))) (by rfl)) pa_nil)))))))))))), ?_⟩
  have l3 : (100000 : Nat) < sizeLine := by rw [sizeLine_eq]; decide
  have pl := pad_len m
  have l2 : ("  " : Str).length = 2 := rfl
  have le3 : ("end" : Str).length = 3 := rfl
  have le4 : ("else" : Str).length = 4 := rfl
  have le6 : ("catch " : Str).length = 6 := rfl
  have hok := hR.ok
  cases hR with
  | @plain _ _ _ ws o3 hP hR3 =>
    cases hR3
    obtain ⟨a, wd, rest, rfl, ha, n0, n1, n2, n3⟩ := hP.first
    have jl : (joinW ws).length ≤ 380 := (hok _ List.mem_cons_self).2
    refine ⟨_, rfl, _, rfl, _, ws, rfl, .pl hP, fun H1 s1 => ?_⟩
    refine ⟨_, _, rfl, rfl, by omega, (by show 1 ≤ sizeLine; omega), fun fa hfa => ?_⟩
    have s2 := s1.trans (same_of_new hfa (.lst [.str (pad m ++ joinW ws)]))
    have nfa : H fa = none := s1.free hfa
    have hl2 : upd H1 fa (.lst [.str (pad m ++ joinW ws)]) fa = some (.lst ([pad m ++ joinW ws].map V.str)) := upd_same
    generalize upd H1 fa (.lst [.str (pad m ++ joinW ws)]) = H2 at s2 hl2 ⊢
    refine ⟨_, rfl, _, _, rfl, rfl, by omega, ?_⟩
    refine ⟨_, rfl, a, _, 0, _, rfl, rfl, SqT.of (s2 _ _ ha), atI_nat (j := 0) rfl, rfl, _, rfl, ifF (word_no n1) ?_⟩
    refine ⟨_, rfl, a, _, 0, _, rfl, rfl, SqT.of (s2 _ _ ha), atI_nat (j := 0) rfl, rfl, _, rfl, ifF (word_no n2) ?_⟩
    refine ⟨_, rfl, a, _, 0, _, rfl, rfl, SqT.of (s2 _ _ ha), atI_nat (j := 0) rfl, rfl, _, rfl, ifF (word_no n3) ?_⟩
    have nin : wd ∉ comps := fun z => by
      rcases List.mem_cons.mp z with z | z
      · exact n1 z
      rcases List.mem_cons.mp z with z | z
      · exact n2 z
      · exact n3 (List.mem_singleton.mp z)
    refine ⟨_, rfl, _, rfl, _, _, rfl, rfl, by omega, (by show 1 ≤ sizeLine; omega), fun u hu => ?_⟩
    have sE := s2.trans (same_of_new hu (.lst [.str (pad m ++ "end")]))
    have hlE := same_of_new hu (.lst [.str (pad m ++ "end")]) _ _ hl2
    have huE : upd H2 u (.lst [.str (pad m ++ "end")]) u = some (.lst [.str (pad m ++ "end")]) := upd_same
    generalize upd H2 u (.lst [.str (pad m ++ "end")]) = HE at sE hlE huE ⊢
    refine ⟨_, rfl, a, _, 0, _, rfl, rfl, SqT.of (sE _ _ ha), atI_nat (j := 0) rfl, (by show 3 ≤ sizeLine; omega), fun u4 hu4 => ?_⟩
    have s4' := same_of_new hu4 (.lst (comps.map V.str))
    refine ⟨u4, _, rfl, .inl (SqL.of upd_same), rfl, flat_strs comps, .inr ⟨_, rfl, _, rfl, u, _, rfl, SqL.of (s4' _ _ huE), fun p5 hp5 => ?_⟩⟩
    have ec : cutV [.str (pad m ++ "end")] none (some (if inV (.str wd) (comps.map V.str) = true then 1 else 0)) = [] := by
      rw [inS, decide_eq_false nin, if_neg (by decide)]
      exact cut_no1 _
    have s5' := same_of_new hp5 (.lst (cutV [.str (pad m ++ "end")] none (some (if inV (.str wd) (comps.map V.str) = true then 1 else 0))))
    have s05 := sE.trans (s4'.trans s5')
    refine ⟨fa, p5, _, _, rfl, rfl, s5' _ _ (s4' _ _ hlE), upd_same, ?_, fun p6 hp6 => ?_⟩
    · show _ + (cutV [.str (pad m ++ "end")] none (some (if inV (.str wd) (comps.map V.str) = true then 1 else 0))).length ≤ sizeLine
      rw [ec]
      simp only [List.length_map, List.length_append, List.length_cons, List.length_nil]
      omega
    · refine q p6 _ (s05.trans (same_of_new hp6 _)) (s05.free hp6) ?_
      rw [upd_same]
      show some (HO.lst (_ ++ cutV [.str (pad m ++ "end")] none (some (if inV (.str wd) (comps.map V.str) = true then 1 else 0)))) = _
      rw [ec]
      simp only [List.map_append, List.map_cons, List.append_assoc, List.cons_append, List.nil_append, List.append_nil, ln_0, ln_up, List.map_nil]
  | @whl d' a b v bs _ ws p1 p3 ha hv hB h1 hR3 =>
    cases hR3
    simp only [List.length_cons, List.length_append, up_len, List.length_nil] at ho
    have jl : (joinW ("while" :: ws)).length ≤ 380 := (hok _ List.mem_cons_self).2
    refine ⟨_, rfl, _, rfl, _, ("while" :: ws), rfl, .whl ha hv, fun H1 s1 => ?_⟩
    refine ⟨_, _, rfl, rfl, by omega, (by show 1 ≤ sizeLine; omega), fun fa hfa => ?_⟩
    have s2 := s1.trans (same_of_new hfa (.lst [.str (pad m ++ joinW ("while" :: ws))]))
    have nfa : H fa = none := s1.free hfa
    have hl2 : upd H1 fa (.lst [.str (pad m ++ joinW ("while" :: ws))]) fa = some (.lst ([pad m ++ joinW ("while" :: ws)].map V.str)) := upd_same
    generalize upd H1 fa (.lst [.str (pad m ++ joinW ("while" :: ws))]) = H2 at s2 hl2 ⊢
    refine ⟨_, rfl, _, _, rfl, rfl, by omega, ?_⟩
    refine ⟨_, rfl, a, _, 0, _, rfl, rfl, SqT.of (s2 _ _ ha), atI_nat (j := 0) rfl, rfl, _, rfl, ifF (word_no (by decide)) ?_⟩
    refine ⟨_, rfl, a, _, 0, _, rfl, rfl, SqT.of (s2 _ _ ha), atI_nat (j := 0) rfl, rfl, _, rfl, ifT (word_yes _) ?_⟩
    refine ⟨_, rfl, _, rfl, a, _, 2, _, rfl, rfl, SqT.of (s2 _ _ ha), atI_nat (j := 2) rfl, _, rfl, d', rfl, b, m + 1, bs, p1, rfl, s2 _ _ hB, h1.tk (TK.of s2), by omega, by omega, fun l3' H3 s3 n3 hl3 => ?_⟩
    refine ⟨fa, l3', _, _, rfl, rfl, s3 _ _ hl2, hl3, by simp only [List.length_map, List.length_cons, List.length_nil]; omega, fun fb hfb => ?_⟩
    rw [← List.map_append]
    have s4 := s2.trans (s3.trans (same_of_new hfb (.lst (([pad m ++ joinW ("while" :: ws)] ++ p1.map (ln (m + 1))).map V.str))))
    have nfb : H fb = none := (s2.trans s3).free hfb
    have hl4 : upd H3 fb (.lst (([pad m ++ joinW ("while" :: ws)] ++ p1.map (ln (m + 1))).map V.str)) fb = _ := upd_same
    generalize upd H3 fb (.lst (([pad m ++ joinW ("while" :: ws)] ++ p1.map (ln (m + 1))).map V.str)) = H4 at s4 hl4 ⊢
    refine ⟨_, rfl, a, _, 0, _, rfl, rfl, SqT.of (s4 _ _ ha), atI_nat (j := 0) rfl, rfl, _, rfl, ifF (word_no (by decide)) ?_⟩
    refine ⟨_, rfl, _, rfl, _, _, rfl, rfl, by omega, (by show 1 ≤ sizeLine; omega), fun u hu => ?_⟩
    have sE := s4.trans (same_of_new hu (.lst [.str (pad m ++ "end")]))
    have hlE := same_of_new hu (.lst [.str (pad m ++ "end")]) _ _ hl4
    have huE : upd H4 u (.lst [.str (pad m ++ "end")]) u = some (.lst [.str (pad m ++ "end")]) := upd_same
    generalize upd H4 u (.lst [.str (pad m ++ "end")]) = HE at sE hlE huE ⊢
    refine ⟨_, rfl, a, _, 0, _, rfl, rfl, SqT.of (sE _ _ ha), atI_nat (j := 0) rfl, (by show 3 ≤ sizeLine; omega), fun u4 hu4 => ?_⟩
    have s4' := same_of_new hu4 (.lst (comps.map V.str))
    refine ⟨u4, _, rfl, .inl (SqL.of upd_same), rfl, flat_strs comps, .inr ⟨_, rfl, _, rfl, u, _, rfl, SqL.of (s4' _ _ huE), fun p5 hp5 => ?_⟩⟩
    have ec : cutV [.str (pad m ++ "end")] none (some (if inV (.str "while") (comps.map V.str) = true then 1 else 0)) = [.str (pad m ++ "end")] := by
      rw [inS, decide_eq_true (by decide), if_pos rfl]
      exact cut_all1 _
    have s5' := same_of_new hp5 (.lst (cutV [.str (pad m ++ "end")] none (some (if inV (.str "while") (comps.map V.str) = true then 1 else 0))))
    have s05 := sE.trans (s4'.trans s5')
    refine ⟨fb, p5, _, _, rfl, rfl, s5' _ _ (s4' _ _ hlE), upd_same, ?_, fun p6 hp6 => ?_⟩
    · show _ + (cutV [.str (pad m ++ "end")] none (some (if inV (.str "while") (comps.map V.str) = true then 1 else 0))).length ≤ sizeLine
      rw [ec]
      simp only [List.length_map, List.length_append, List.length_cons, List.length_nil]
      omega
    · refine q p6 _ (s05.trans (same_of_new hp6 _)) (s05.free hp6) ?_
      rw [upd_same]
      show some (HO.lst (_ ++ cutV [.str (pad m ++ "end")] none (some (if inV (.str "while") (comps.map V.str) = true then 1 else 0)))) = _
      rw [ec]
      simp only [List.map_append, List.map_cons, List.append_assoc, List.cons_append, List.nil_append, List.append_nil, ln_0, ln_up, List.map_nil]
  | @tri d' a b c y bs cs _ p1 p2 p3 ha hy hB hC h1 h2 hR3 =>
    cases hR3
    simp only [List.length_cons, List.length_append, up_len, List.length_nil] at ho
    have jl : (joinW ["try"]).length ≤ 380 := (hok _ List.mem_cons_self).2
    refine ⟨_, rfl, _, rfl, _, ["try"], rfl, .tri ha, fun H1 s1 => ?_⟩
    refine ⟨_, _, rfl, rfl, by omega, (by show 1 ≤ sizeLine; omega), fun fa hfa => ?_⟩
    have s2 := s1.trans (same_of_new hfa (.lst [.str (pad m ++ joinW ["try"])]))
    have nfa : H fa = none := s1.free hfa
    have hl2 : upd H1 fa (.lst [.str (pad m ++ joinW ["try"])]) fa = some (.lst ([pad m ++ joinW ["try"]].map V.str)) := upd_same
    generalize upd H1 fa (.lst [.str (pad m ++ joinW ["try"])]) = H2 at s2 hl2 ⊢
    refine ⟨_, rfl, _, _, rfl, rfl, by omega, ?_⟩
    refine ⟨_, rfl, a, _, 0, _, rfl, rfl, SqT.of (s2 _ _ ha), atI_nat (j := 0) rfl, rfl, _, rfl, ifF (word_no (by decide)) ?_⟩
    refine ⟨_, rfl, a, _, 0, _, rfl, rfl, SqT.of (s2 _ _ ha), atI_nat (j := 0) rfl, rfl, _, rfl, ifF (word_no (by decide)) ?_⟩
    refine ⟨_, rfl, a, _, 0, _, rfl, rfl, SqT.of (s2 _ _ ha), atI_nat (j := 0) rfl, rfl, _, rfl, ifT (word_yes _) ?_⟩
    refine ⟨_, rfl, _, rfl, a, _, 1, _, rfl, rfl, SqT.of (s2 _ _ ha), atI_nat (j := 1) rfl, _, rfl, d', rfl, b, m + 1, bs, p1, rfl, s2 _ _ hB, h1.tk (TK.of s2), by omega, by omega, fun l3' H3 s3 n3 hl3 => ?_⟩
    refine ⟨fa, l3', _, _, rfl, rfl, s3 _ _ hl2, hl3, by simp only [List.length_map, List.length_cons, List.length_nil]; omega, fun fb hfb => ?_⟩
    rw [← List.map_append]
    have s4 := s2.trans (s3.trans (same_of_new hfb (.lst (([pad m ++ joinW ["try"]] ++ p1.map (ln (m + 1))).map V.str))))
    have hl4 : upd H3 fb (.lst (([pad m ++ joinW ["try"]] ++ p1.map (ln (m + 1))).map V.str)) fb = _ := upd_same
    generalize upd H3 fb (.lst (([pad m ++ joinW ["try"]] ++ p1.map (ln (m + 1))).map V.str)) = H4 at s4 hl4 ⊢
    refine ⟨_, rfl, _, _, rfl, rfl, by omega, _, rfl, a, _, 2, _, rfl, rfl, SqT.of (s4 _ _ ha), atI_nat (j := 2) rfl, _, _, rfl, rfl, by rw [len_append]; omega, (by show 1 ≤ sizeLine; omega), fun u5 hu5 => ?_⟩
    have e5 : pad m ++ "catch " ++ y = pad m ++ joinW ["catch", y] := by
      rw [joinW2, app_assoc]; rfl
    rw [e5]
    have s5 := same_of_new hu5 (.lst [.str (pad m ++ joinW ["catch", y])])
    refine ⟨fb, u5, _, _, rfl, rfl, s5 _ _ hl4, upd_same, by simp only [List.length_map, List.length_append, List.length_cons, List.length_nil]; omega, fun fc hfc => ?_⟩
    rw [snoc_map]
    have s6 := s4.trans (s5.trans (same_of_new hfc (.lst (([pad m ++ joinW ["try"]] ++ p1.map (ln (m + 1)) ++ [pad m ++ joinW ["catch", y]]).map V.str))))
    have hl6 : upd (upd H4 u5 (.lst [.str (pad m ++ joinW ["catch", y])])) fc (.lst (([pad m ++ joinW ["try"]] ++ p1.map (ln (m + 1)) ++ [pad m ++ joinW ["catch", y]]).map V.str)) fc = _ := upd_same
    generalize upd (upd H4 u5 (.lst [.str (pad m ++ joinW ["catch", y])])) fc (.lst (([pad m ++ joinW ["try"]] ++ p1.map (ln (m + 1)) ++ [pad m ++ joinW ["catch", y]]).map V.str)) = H6 at s6 hl6 ⊢
    refine ⟨_, rfl, a, _, 3, _, rfl, rfl, SqT.of (s6 _ _ ha), atI_nat (j := 3) rfl, _, rfl, d', rfl, c, m + 1, cs, p2, rfl, s6 _ _ hC, h2.tk (TK.of s6), by omega, by omega, fun l7 H7 s7 n7 hl7 => ?_⟩
    refine ⟨fc, l7, _, _, rfl, rfl, s7 _ _ hl6, hl7, by simp only [List.length_map, List.length_append, List.length_cons, List.length_nil]; omega, fun fd hfd => ?_⟩
    rw [← List.map_append]
    have s8 := s6.trans (s7.trans (same_of_new hfd (.lst (([pad m ++ joinW ["try"]] ++ p1.map (ln (m + 1)) ++ [pad m ++ joinW ["catch", y]] ++ p2.map (ln (m + 1))).map V.str))))
    have hl8 : upd H7 fd (.lst (([pad m ++ joinW ["try"]] ++ p1.map (ln (m + 1)) ++ [pad m ++ joinW ["catch", y]] ++ p2.map (ln (m + 1))).map V.str)) fd = _ := upd_same
    generalize upd H7 fd (.lst (([pad m ++ joinW ["try"]] ++ p1.map (ln (m + 1)) ++ [pad m ++ joinW ["catch", y]] ++ p2.map (ln (m + 1))).map V.str)) = H8 at s8 hl8 ⊢
    refine ⟨_, rfl, _, rfl, _, _, rfl, rfl, by omega, (by show 1 ≤ sizeLine; omega), fun u hu => ?_⟩
    have sE := s8.trans (same_of_new hu (.lst [.str (pad m ++ "end")]))
    have hlE := same_of_new hu (.lst [.str (pad m ++ "end")]) _ _ hl8
    have huE : upd H8 u (.lst [.str (pad m ++ "end")]) u = some (.lst [.str (pad m ++ "end")]) := upd_same
    generalize upd H8 u (.lst [.str (pad m ++ "end")]) = HE at sE hlE huE ⊢
    refine ⟨_, rfl, a, _, 0, _, rfl, rfl, SqT.of (sE _ _ ha), atI_nat (j := 0) rfl, (by show 3 ≤ sizeLine; omega), fun u4 hu4 => ?_⟩
    have s4' := same_of_new hu4 (.lst (comps.map V.str))
    refine ⟨u4, _, rfl, .inl (SqL.of upd_same), rfl, flat_strs comps, .inr ⟨_, rfl, _, rfl, u, _, rfl, SqL.of (s4' _ _ huE), fun p5 hp5 => ?_⟩⟩
    have ec : cutV [.str (pad m ++ "end")] none (some (if inV (.str "try") (comps.map V.str) = true then 1 else 0)) = [.str (pad m ++ "end")] := by
      rw [inS, decide_eq_true (by decide), if_pos rfl]
      exact cut_all1 _
    have s5' := same_of_new hp5 (.lst (cutV [.str (pad m ++ "end")] none (some (if inV (.str "try") (comps.map V.str) = true then 1 else 0))))
    have s05 := sE.trans (s4'.trans s5')
    refine ⟨fd, p5, _, _, rfl, rfl, s5' _ _ (s4' _ _ hlE), upd_same, ?_, fun p6 hp6 => ?_⟩
    · show _ + (cutV [.str (pad m ++ "end")] none (some (if inV (.str "try") (comps.map V.str) = true then 1 else 0))).length ≤ sizeLine
      rw [ec]
      simp only [List.length_map, List.length_append, List.length_cons, List.length_nil]
      omega
    · refine q p6 _ (s05.trans (same_of_new hp6 _)) (s05.free hp6) ?_
      rw [upd_same]
      show some (HO.lst (_ ++ cutV [.str (pad m ++ "end")] none (some (if inV (.str "try") (comps.map V.str) = true then 1 else 0)))) = _
      rw [ec]
      simp only [List.map_append, List.map_cons, List.append_assoc, List.cons_append, List.nil_append, List.append_nil, ln_0, ln_up, List.map_nil]
  | @ifs d' a b c v bs cs _ ws p1 p2 p3 ha hv hB hC h1 h2 hR3 =>
    cases hR3
    have jl : (joinW ("if" :: ws)).length ≤ 380 := (hok _ List.mem_cons_self).2
    refine ⟨_, rfl, _, rfl, _, ("if" :: ws), rfl, .ifs ha hv, fun H1 s1 => ?_⟩
    refine ⟨_, _, rfl, rfl, by omega, (by show 1 ≤ sizeLine; omega), fun fa hfa => ?_⟩
    have s2 := s1.trans (same_of_new hfa (.lst [.str (pad m ++ joinW ("if" :: ws))]))
    have nfa : H fa = none := s1.free hfa
    have hl2 : upd H1 fa (.lst [.str (pad m ++ joinW ("if" :: ws))]) fa = some (.lst ([pad m ++ joinW ("if" :: ws)].map V.str)) := upd_same
    generalize upd H1 fa (.lst [.str (pad m ++ joinW ("if" :: ws))]) = H2 at s2 hl2 ⊢
    refine ⟨_, rfl, _, _, rfl, rfl, by omega, ?_⟩
    refine ⟨_, rfl, a, _, 0, _, rfl, rfl, SqT.of (s2 _ _ ha), atI_nat (j := 0) rfl, rfl, _, rfl, ifT (word_yes _) ?_⟩
    by_cases hcs : cs = []
    · rw [show els cs p2 = [] from if_pos hcs] at ho q
      simp only [List.length_cons, List.length_append, up_len, List.length_nil] at ho
      refine ⟨_, rfl, _, rfl, a, _, 2, _, rfl, rfl, SqT.of (s2 _ _ ha), atI_nat (j := 2) rfl, _, rfl, d', rfl, b, m + 1, bs, p1, rfl, s2 _ _ hB, h1.tk (TK.of s2), by omega, by omega, fun l3' H3 s3 n3 hl3 => ?_⟩
      refine ⟨fa, l3', _, _, rfl, rfl, s3 _ _ hl2, hl3, by simp only [List.length_map, List.length_cons, List.length_nil]; omega, fun fb hfb => ?_⟩
      rw [← List.map_append]
      have s4 := s2.trans (s3.trans (same_of_new hfb (.lst (([pad m ++ joinW ("if" :: ws)] ++ p1.map (ln (m + 1))).map V.str))))
      have hl4 : upd H3 fb (.lst (([pad m ++ joinW ("if" :: ws)] ++ p1.map (ln (m + 1))).map V.str)) fb = _ := upd_same
      generalize upd H3 fb (.lst (([pad m ++ joinW ("if" :: ws)] ++ p1.map (ln (m + 1))).map V.str)) = H4 at s4 hl4 ⊢
      refine ⟨_, rfl, a, _, 3, _, rfl, rfl, SqT.of (s4 _ _ ha), atI_nat (j := 3) rfl, (by show 0 ≤ sizeLine; omega), fun ue hue => ?_⟩
      have s5 := s4.trans (same_of_new hue (.tup []))
      have hl5 := same_of_new hue (.tup []) _ _ hl4
      refine ⟨c, ue, cs, rfl, rfl, SqT.of (s5 _ _ hC), SqT.of upd_same, _, rfl, ?_⟩
      generalize upd H4 ue (.tup []) = H5 at s5 hl5 ⊢
      refine ifF (by rw [hcs]; rfl) ?_
      refine ⟨_, rfl, a, _, 0, _, rfl, rfl, SqT.of (s5 _ _ ha), atI_nat (j := 0) rfl, rfl, _, rfl, ifF (word_no (by decide)) ?_⟩
      refine ⟨_, rfl, a, _, 0, _, rfl, rfl, SqT.of (s5 _ _ ha), atI_nat (j := 0) rfl, rfl, _, rfl, ifF (word_no (by decide)) ?_⟩
      refine ⟨_, rfl, _, rfl, _, _, rfl, rfl, by omega, (by show 1 ≤ sizeLine; omega), fun u hu => ?_⟩
      have sE := s5.trans (same_of_new hu (.lst [.str (pad m ++ "end")]))
      have hlE := same_of_new hu (.lst [.str (pad m ++ "end")]) _ _ hl5
      have huE : upd H5 u (.lst [.str (pad m ++ "end")]) u = some (.lst [.str (pad m ++ "end")]) := upd_same
      generalize upd H5 u (.lst [.str (pad m ++ "end")]) = HE at sE hlE huE ⊢
      refine ⟨_, rfl, a, _, 0, _, rfl, rfl, SqT.of (sE _ _ ha), atI_nat (j := 0) rfl, (by show 3 ≤ sizeLine; omega), fun u4 hu4 => ?_⟩
      have s4' := same_of_new hu4 (.lst (comps.map V.str))
      refine ⟨u4, _, rfl, .inl (SqL.of upd_same), rfl, flat_strs comps, .inr ⟨_, rfl, _, rfl, u, _, rfl, SqL.of (s4' _ _ huE), fun p5 hp5 => ?_⟩⟩
      have ec : cutV [.str (pad m ++ "end")] none (some (if inV (.str "if") (comps.map V.str) = true then 1 else 0)) = [.str (pad m ++ "end")] := by
        rw [inS, decide_eq_true (by decide), if_pos rfl]
        exact cut_all1 _
      have s5' := same_of_new hp5 (.lst (cutV [.str (pad m ++ "end")] none (some (if inV (.str "if") (comps.map V.str) = true then 1 else 0))))
      have s05 := sE.trans (s4'.trans s5')
      refine ⟨fb, p5, _, _, rfl, rfl, s5' _ _ (s4' _ _ hlE), upd_same, ?_, fun p6 hp6 => ?_⟩
      · show _ + (cutV [.str (pad m ++ "end")] none (some (if inV (.str "if") (comps.map V.str) = true then 1 else 0))).length ≤ sizeLine
        rw [ec]
        simp only [List.length_map, List.length_append, List.length_cons, List.length_nil]
        omega
      · refine q p6 _ (s05.trans (same_of_new hp6 _)) (s05.free hp6) ?_
        rw [upd_same]
        show some (HO.lst (_ ++ cutV [.str (pad m ++ "end")] none (some (if inV (.str "if") (comps.map V.str) = true then 1 else 0)))) = _
        rw [ec]
        simp only [List.map_append, List.map_cons, List.append_assoc, List.cons_append, List.nil_append, List.append_nil, ln_0, ln_up, List.map_nil]
    · rw [show els cs p2 = ((0, "else") : Nat × Str) :: up p2 from if_neg hcs] at ho q
      simp only [List.length_cons, List.length_append, up_len, List.length_nil] at ho
      refine ⟨_, rfl, _, rfl, a, _, 2, _, rfl, rfl, SqT.of (s2 _ _ ha), atI_nat (j := 2) rfl, _, rfl, d', rfl, b, m + 1, bs, p1, rfl, s2 _ _ hB, h1.tk (TK.of s2), by omega, by omega, fun l3' H3 s3 n3 hl3 => ?_⟩
      refine ⟨fa, l3', _, _, rfl, rfl, s3 _ _ hl2, hl3, by simp only [List.length_map, List.length_cons, List.length_nil]; omega, fun fb hfb => ?_⟩
      rw [← List.map_append]
      have s4 := s2.trans (s3.trans (same_of_new hfb (.lst (([pad m ++ joinW ("if" :: ws)] ++ p1.map (ln (m + 1))).map V.str))))
      have hl4 : upd H3 fb (.lst (([pad m ++ joinW ("if" :: ws)] ++ p1.map (ln (m + 1))).map V.str)) fb = _ := upd_same
      generalize upd H3 fb (.lst (([pad m ++ joinW ("if" :: ws)] ++ p1.map (ln (m + 1))).map V.str)) = H4 at s4 hl4 ⊢
      refine ⟨_, rfl, a, _, 3, _, rfl, rfl, SqT.of (s4 _ _ ha), atI_nat (j := 3) rfl, (by show 0 ≤ sizeLine; omega), fun ue hue => ?_⟩
      have s5 := s4.trans (same_of_new hue (.tup []))
      have hl5 := same_of_new hue (.tup []) _ _ hl4
      refine ⟨c, ue, cs, rfl, rfl, SqT.of (s5 _ _ hC), SqT.of upd_same, _, rfl, ?_⟩
      generalize upd H4 ue (.tup []) = H5 at s5 hl5 ⊢
      refine ifT (by cases cs with
        | nil => exact absurd rfl hcs
        | cons => rfl) ?_
      refine ⟨_, rfl, _, rfl, _, _, rfl, rfl, by omega, (by show 1 ≤ sizeLine; omega), fun u6 hu6 => ?_⟩
      have s6 := same_of_new hu6 (.lst [.str (pad m ++ "else")])
      refine ⟨fb, u6, _, _, rfl, rfl, s6 _ _ hl5, upd_same, by simp only [List.length_map, List.length_append, List.length_cons, List.length_nil]; omega, fun fc hfc => ?_⟩
      rw [snoc_map]
      have s7 := s5.trans (s6.trans (same_of_new hfc (.lst (([pad m ++ joinW ("if" :: ws)] ++ p1.map (ln (m + 1)) ++ [pad m ++ "else"]).map V.str))))
      have hl7 : upd (upd H5 u6 (.lst [.str (pad m ++ "else")])) fc (.lst (([pad m ++ joinW ("if" :: ws)] ++ p1.map (ln (m + 1)) ++ [pad m ++ "else"]).map V.str)) fc = _ := upd_same
      generalize upd (upd H5 u6 (.lst [.str (pad m ++ "else")])) fc (.lst (([pad m ++ joinW ("if" :: ws)] ++ p1.map (ln (m + 1)) ++ [pad m ++ "else"]).map V.str)) = H7 at s7 hl7 ⊢
      refine ⟨_, rfl, a, _, 3, _, rfl, rfl, SqT.of (s7 _ _ ha), atI_nat (j := 3) rfl, _, rfl, d', rfl, c, m + 1, cs, p2, rfl, s7 _ _ hC, h2.tk (TK.of s7), by omega, by omega, fun l8 H8 s8 n8 hl8 => ?_⟩
      refine ⟨fc, l8, _, _, rfl, rfl, s8 _ _ hl7, hl8, by simp only [List.length_map, List.length_append, List.length_cons, List.length_nil]; omega, fun fd hfd => ?_⟩
      rw [← List.map_append]
      have s9 := s7.trans (s8.trans (same_of_new hfd (.lst (([pad m ++ joinW ("if" :: ws)] ++ p1.map (ln (m + 1)) ++ [pad m ++ "else"] ++ p2.map (ln (m + 1))).map V.str))))
      have hl9 : upd H8 fd (.lst (([pad m ++ joinW ("if" :: ws)] ++ p1.map (ln (m + 1)) ++ [pad m ++ "else"] ++ p2.map (ln (m + 1))).map V.str)) fd = _ := upd_same
      generalize upd H8 fd (.lst (([pad m ++ joinW ("if" :: ws)] ++ p1.map (ln (m + 1)) ++ [pad m ++ "else"] ++ p2.map (ln (m + 1))).map V.str)) = H9 at s9 hl9 ⊢
      refine ⟨_, rfl, a, _, 0, _, rfl, rfl, SqT.of (s9 _ _ ha), atI_nat (j := 0) rfl, rfl, _, rfl, ifF (word_no (by decide)) ?_⟩
      refine ⟨_, rfl, a, _, 0, _, rfl, rfl, SqT.of (s9 _ _ ha), atI_nat (j := 0) rfl, rfl, _, rfl, ifF (word_no (by decide)) ?_⟩
      refine ⟨_, rfl, _, rfl, _, _, rfl, rfl, by omega, (by show 1 ≤ sizeLine; omega), fun u hu => ?_⟩
      have sE := s9.trans (same_of_new hu (.lst [.str (pad m ++ "end")]))
      have hlE := same_of_new hu (.lst [.str (pad m ++ "end")]) _ _ hl9
      have huE : upd H9 u (.lst [.str (pad m ++ "end")]) u = some (.lst [.str (pad m ++ "end")]) := upd_same
      generalize upd H9 u (.lst [.str (pad m ++ "end")]) = HE at sE hlE huE ⊢
      refine ⟨_, rfl, a, _, 0, _, rfl, rfl, SqT.of (sE _ _ ha), atI_nat (j := 0) rfl, (by show 3 ≤ sizeLine; omega), fun u4 hu4 => ?_⟩
      have s4' := same_of_new hu4 (.lst (comps.map V.str))
      refine ⟨u4, _, rfl, .inl (SqL.of upd_same), rfl, flat_strs comps, .inr ⟨_, rfl, _, rfl, u, _, rfl, SqL.of (s4' _ _ huE), fun p5 hp5 => ?_⟩⟩
      have ec : cutV [.str (pad m ++ "end")] none (some (if inV (.str "if") (comps.map V.str) = true then 1 else 0)) = [.str (pad m ++ "end")] := by
        rw [inS, decide_eq_true (by decide), if_pos rfl]
        exact cut_all1 _
      have s5' := same_of_new hp5 (.lst (cutV [.str (pad m ++ "end")] none (some (if inV (.str "if") (comps.map V.str) = true then 1 else 0))))
      have s05 := sE.trans (s4'.trans s5')
      refine ⟨fd, p5, _, _, rfl, rfl, s5' _ _ (s4' _ _ hlE), upd_same, ?_, fun p6 hp6 => ?_⟩
      · show _ + (cutV [.str (pad m ++ "end")] none (some (if inV (.str "if") (comps.map V.str) = true then 1 else 0))).length ≤ sizeLine
        rw [ec]
        simp only [List.length_map, List.length_append, List.length_cons, List.length_nil]
        omega
      · refine q p6 _ (s05.trans (same_of_new hp6 _)) (s05.free hp6) ?_
        rw [upd_same]
        show some (HO.lst (_ ++ cutV [.str (pad m ++ "end")] none (some (if inV (.str "if") (comps.map V.str) = true then 1 else 0)))) = _
        rw [ec]
        simp only [List.map_append, List.map_cons, List.append_assoc, List.cons_append, List.nil_append, List.append_nil, ln_0, ln_up, List.map_nil]
theorem sc_ln : FnScope ["_law_rows_here", "_law_ahead", "_law_found", "_law_row"] ["_law_rows_here", "_law_ahead"] (defScope (top 29)) := ⟨rfl, rfl, rfl, by decide +kernel, rfl, by decide +kernel, by decide +kernel⟩
theorem d_ln1 {d j : Nat} (T : Txt w K mg) (D_rl : Def P w K mg base j "_law_row_lines" ["_law_row", "_law_ahead"] (spRL d)) (S : Src K mg "_law_lines" (top 29) ["_law_rows_here", "_law_ahead"]) : Def P w K mg base (j + 1) "_law_lines" ["_law_rows_here", "_law_ahead"] (spLn d) := by
  refine S.ok sc_ln (fun vs H Q E h => ?_) (fun f cdv A outer s H vs Q E hr h => ?_)
  · obtain ⟨r, m, rows, o, rfl, _⟩ := h; rfl
  obtain ⟨r, m, rows, o, rfl, hrw, hR, hm, ho, q⟩ := h
  refine ⟨_, (pss_cons (ps_set (i := 2) sc_ln.nd rfl (Or.inl rfl) (pe_lst pa_nil))
      (pss_cons (ps_for PassesOwn.never rfl (pi_tup (pv 0)) (pg_name (i := 3) sc_ln.nd rfl (Or.inl rfl))
      (pss_one (ps_set (i := 2) sc_ln.nd rfl (Or.inl rfl) (pe_op op_cat (pv 2) (pe_def (D_rl) hr rfl (pac (pv 3) (pac (pv 1) pa_nil)))))))
      (pss_one (ps_ret (pv 2))))), ?_⟩
  have l3 : (100000 : Nat) < sizeLine := by rw [sizeLine_eq]; decide
  refine ⟨(by show 0 ≤ sizeLine; omega), fun f0 hf0 => ?_⟩
  have s0 := same_of_new hf0 (.lst [])
  refine ⟨_, rfl, r, rfl, ⟨_, SqT.of (s0 _ _ hrw)⟩, ?_⟩
  refine for_tup (xs := rows) (fun i σ H' => ∃ (fa : Addr) (o1 o2 : Lns) (x3 : Option V), σ = [some (.ref r), some (.str (pad m)), some (.ref fa), x3] ∧ Same H H' ∧ H fa = none ∧ H' fa = some (.lst ((o1.map (ln m)).map V.str)) ∧ o = o1 ++ o2 ∧ Rs H d (rows.drop i) o2) ?_ ?_ ?_ ?_
  · exact ⟨f0, [], o, _, rfl, s0, hf0, upd_same, rfl, hR⟩
  · rintro i σ H' hi ⟨fa, o1, o2, x3, rfl, s1, _⟩
    exact SqT.of (s1 _ _ hrw)
  · rintro i x σ H' hxi ⟨fa, o1, o2, x3, rfl, s1, nfa, hfa, rfl, hR2⟩
    have hil : i < rows.length := (List.getElem?_eq_some_iff.mp hxi).1
    have hd : rows.drop i = x :: rows.drop (i + 1) := by
      rw [List.drop_eq_getElem_cons hil]
      congr 1
      rw [List.getElem?_eq_getElem hil] at hxi
      injection hxi
    rw [hd] at hR2
    obtain ⟨p1, p2, rfl, h1, h2⟩ := hR2.uncons
    simp only [List.length_append] at ho
    refine ⟨_, rfl, _, rfl, _, rfl, x, m, p1, rfl, h1.tk (TK.of s1), hm, by omega, fun l2 H2 s2 n2 hl2 => ?_⟩
    refine ⟨fa, l2, _, _, rfl, rfl, s2 _ _ hfa, hl2, by simp only [List.length_map]; omega, fun fb hfb => ?_⟩
    have s3 := s1.trans s2
    refine ⟨fb, o1 ++ p1, p2, _, rfl, s3.trans (same_of_new hfb _), s3.free hfb, ?_, by rw [List.append_assoc], h2⟩
    rw [upd_same, List.map_append, List.map_append]
  · rintro σ H' ⟨fa, o1, o2, x3, rfl, s1, nfa, hfa, rfl, hR2⟩
    rw [List.drop_length] at hR2
    cases hR2
    rw [List.append_nil] at q
    exact ⟨_, rfl, q fa H' s1 nfa hfa⟩
theorem d_ln (T : Txt w K mg) (D_lrt : Def P w K mg base 5 "_law_row_text" ["_law_row"] spLRT) (Sr : Src K mg "_law_row_lines" (top 28) ["_law_row", "_law_ahead"]) (S : Src K mg "_law_lines" (top 29) ["_law_rows_here", "_law_ahead"]) : ∀ d : Nat, Def P w K mg base (2 * d + 7) "_law_lines" ["_law_rows_here", "_law_ahead"] (spLn d)
  | 0 => d_ln1 T (d_rl (j := 5) (Nat.le_refl _) T D_lrt (S.no fun vs H Q E h => by obtain ⟨k', hk, _⟩ := h; omega) Sr) S
  | d + 1 => d_ln1 (j := 2 * d + 8) T (d_rl (j := 2 * d + 7) (by omega) T D_lrt ((d_ln T D_lrt Sr S d).imp fun vs H Q E h => by
      obtain ⟨k', hk, h⟩ := h
      obtain rfl : d = k' := by omega
      exact h) Sr) S
end
end K10

set_option Elab.async false
set_option linter.all false
set_option maxRecDepth 100000
set_option maxHeartbeats 4000000
namespace K10
open PySem L2
seal L2.PE L2.PS L2.PSs L2.PT L2.PW L2.PA L2.PG L2.PGs L2.PI L2.PO L2.PIfs L2.PC L2.OpR L2.CallR L2.IxR L2.SlR L2.PSet L2.UnR
def rS : R2 := fun x y H Q => ∃ i j, x = .str i ∧ y = .str j ∧ i.length + j.length ≤ sizeLine ∧ Q (.str (i ++ j)) H
def rStr : List V → Hp → VK → Prop := fun xs H Q => ∃ i, xs = [.int i] ∧ i.natAbs.log2 < 1920 ∧ Q (.str (toString i)) H
def rJn : V → List V → Hp → VK → Prop := fun x xs H Q => ∃ (z : Str) (l : Addr) (ys : List Str), x = .str z ∧ xs = [.ref l] ∧ H l = some (.lst (ys.map V.str)) ∧ (ys.map (·.length)).sum + ys.length * z.length ≤ 16777216 ∧ Q (.str (Txt.join z ys)) H
def ownL : V → V
  | .str x => .str (("  own " : Str) ++ x)
  | v => v
theorem own_eq (x : Str) : ("  own " : Str) ++ x = ("  " : Str) ++ joinW ["own", x] := by
  rw [joinW2, ← app_assoc, ← app_assoc]; rfl
theorem ownL_map (xs : List Str) : (xs.map V.str).map ownL = (xs.map fun x => ("  " : Str) ++ joinW ["own", x]).map V.str := by
  rw [List.map_map, List.map_map]
  congr 1
  funext x
  show V.str (("  own " : Str) ++ x) = V.str (("  " : Str) ++ joinW ["own", x])
  rw [own_eq]
theorem box_eq (x y : Str) : ("box " : Str) ++ x ++ " " ++ y = joinW ["box", x, y] := by
  rw [joinW_eq]
  show ("box " : Str) ++ x ++ " " ++ y = ("box" : Str) ++ " " ++ (x ++ " " ++ y)
  rw [show ("box " : Str) = ("box" : Str) ++ " " from rfl]
  simp only [app_assoc]
def numT : V → V
  | .int i => .str (toString i)
  | v => v
theorem numT_map (ns : List Int) : (ns.map V.int).map numT = (ns.map fun i => (toString i : Str)).map V.str := by
  rw [List.map_map, List.map_map]; rfl
section
variable {P : Program} {w : World} {K : PySem.W.Frag} {mg : Str → Option Value} {base : Heap}
theorem sc_pl : FnScope ["_law_program_here", "_law_found", "_law_name", "_law_params", "_law_owns", "_law_rows_here"] ["_law_program_here"] (defScope (top 30)) := ⟨rfl, rfl, rfl, by decide +kernel, rfl, by decide +kernel, by decide +kernel⟩
def spPL : Sp := fun vs H Q _ => ∃ (v : V) (p : Pg), vs = [v] ∧ ProgIs H v p ∧ ∀ l H', Same H H' → H l = none → H' l = some (.lst (p.lines.map V.str)) → Q (.ref l) H'
theorem d_pl (T : Txt w K mg) (D_ln : Def P w K mg base 13 "_law_lines" ["_law_rows_here", "_law_ahead"] (spLn 3)) (S : Src K mg "_law_program_lines" (top 30) ["_law_program_here"]) : Def P w K mg base 14 "_law_program_lines" ["_law_program_here"] spPL := by
  refine S.ok sc_pl (fun vs H Q E h => ?_) (fun f cdv A outer s H vs Q E hr h => ?_)
  · obtain ⟨v, p, rfl, _⟩ := h; rfl
  obtain ⟨v, p, rfl, hP, q⟩ := h
  have hlen := hP.len
  obtain ⟨a, ba, la, fa, ra, bs, ls, fs, rfl, ha, hba, hbs, hla, hls, hfa, hfs, hra, hR, c1, c2, c3, c4⟩ := id hP
  refine ⟨_, (pss_cons (ps_comp (i0 := 1) sc_pl.nd rfl (Or.inl rfl) (N' := ["_law_name", "_law_number"]) (comp_scope (defScope (top 30)) (by rfl) (by decide +kernel) (by decide +kernel) (by decide +kernel) (by decide +kernel) (by decide +kernel) (by decide +kernel)) rfl (capt 2 [] (by rfl) (by rfl) (by decide +kernel)) (pi_tup (pe_ix ix_tup (pv 0) pe_int (fun _ _ => rfl))) (fun _ _ _ => (show PG _ _ (gTup K 2 (gCons (gName 0) (gCons (gName 1) gNil))) from pg_tup (n := 2) rfl (pgs_cons (pg_name (i := 0) (show (["_law_name", "_law_number"] : List Str).Nodup by decide +kernel) rfl (Or.inl rfl) (Or.inr rfl)) (pgs_cons (pg_name (i := 1) (show (["_law_name", "_law_number"] : List Str).Nodup by decide +kernel) rfl (Or.inl rfl) (Or.inr rfl)) pgs_nil)))) (fun _ _ _ => pifs_nil) (fun _ _ _ => (pe_op op_add_str (pe_op op_add_str (pe_op op_add_str pe_str (pv 0)) pe_str) (pe_cT call_str_int rfl T.z_str bt_str (pac (pv 1) pa_nil)))))
      (pss_cons (ps_set (i := 1) sc_pl.nd rfl (Or.inl rfl) (pe_op op_cat (pv 1) (pe_comp (N' := ["_law_name", "_law_numbers"]) (comp_scope (defScope (top 30)) (by rfl) (by decide +kernel) (by decide +kernel) (by decide +kernel) (by decide +kernel) (by decide +kernel) (by decide +kernel)) rfl (capt 2 [] (by rfl) (by rfl) (by decide +kernel)) (pi_tup (pe_ix ix_tup (pv 0) pe_int (fun _ _ => rfl))) (fun _ _ _ => (show PG _ _ (gTup K 2 (gCons (gName 0) (gCons (gName 1) gNil))) from pg_tup (n := 2) rfl (pgs_cons (pg_name (i := 0) (show (["_law_name", "_law_numbers"] : List Str).Nodup by decide +kernel) rfl (Or.inl rfl) (Or.inr rfl)) (pgs_cons (pg_name (i := 1) (show (["_law_name", "_law_numbers"] : List Str).Nodup by decide +kernel) rfl (Or.inl rfl) (Or.inr rfl)) pgs_nil)))) (fun _ _ _ => pifs_nil) (fun _ _ _ => (show PE _ _ (tBM K "str" _ _ _) from (pe_bm PySem.F.plainAttrs_str PySem.F.slot_str_join PySem.F.type_str_join mt_join pe_str (pac (pe_op op_cat (pe_lst (pac pe_str (pac (pv 0) pa_nil))) (pe_comp (N' := ["_law_one"]) (comp_scope0 (by rfl) (by decide +kernel) (by decide +kernel) (by decide +kernel) (by decide +kernel)) rfl (capt 1 [] (by rfl) (by rfl) (by decide +kernel)) (show PI _ _ _ (iTup K _) from (pi_tup (pv 1))) (fun _ _ _ => pg_name (i := 0) (show (["_law_one"] : List Str).Nodup by decide +kernel) rfl (Or.inl rfl) (Or.inr rfl)) (fun _ _ _ => pifs_nil) (fun _ _ _ => (pe_cT call_str_int rfl T.z_str bt_str (pac (pv 0) pa_nil))))) pa_nil)))))))
      (pss_cons (ps_for PassesOwn.never rfl (pi_tup (pe_ix ix_tup (pv 0) pe_int (fun _ _ => rfl))) (pg_tup rfl (pgs_cons (pg_name (i := 2) sc_pl.nd rfl (Or.inl rfl)) (pgs_cons (pg_name (i := 3) sc_pl.nd rfl (Or.inl rfl)) (pgs_cons (pg_name (i := 4) sc_pl.nd rfl (Or.inl rfl)) (pgs_cons (pg_name (i := 5) sc_pl.nd rfl (Or.inl rfl)) pgs_nil)))))
      (pss_cons (ps_expr (pe_bm PySem.F.plainAttrs_list PySem.F.slot_list_append PySem.F.type_list_append mt_append (pv 1) (pac (pe_bm PySem.F.plainAttrs_str PySem.F.slot_str_join PySem.F.type_str_join mt_join pe_str (pac (pe_op op_cat (pe_lst (pac pe_str (pac (pv 2) pa_nil))) (pe_cT call_list_of rfl T.z_list bt_list (pac (pv 3) pa_nil))) pa_nil)) pa_nil)))
      (pss_one (ps_set (i := 1) sc_pl.nd rfl (Or.inl rfl) (pe_op op_cat (pe_op op_cat (pe_op op_cat (pv 1) (pe_comp (N' := ["_law_own"]) (comp_scope (defScope (top 30)) (by rfl) (by decide +kernel) (by decide +kernel) (by decide +kernel) (by decide +kernel) (by decide +kernel) (by decide +kernel)) rfl (capt 1 [] (by rfl) (by rfl) (by decide +kernel)) (pi_tup (pv 4)) (fun _ _ _ => pg_name (i := 0) (show (["_law_own"] : List Str).Nodup by decide +kernel) rfl (Or.inl rfl) (Or.inr rfl)) (fun _ _ _ => pifs_nil) (fun _ _ _ => (pe_op op_add_str pe_str (pv 0))))) (pe_def (D_ln.mono (by omega)) hr rfl (pac (pv 5) (pac pe_str pa_nil)))) (pe_lst (pa_const [.str "end"] (by rfl))))))))
      (pss_one (ps_ret (pe_op op_cat (pv 1) (pe_def (D_ln.mono (by omega)) hr rfl (pac (pe_ix ix_tup (pv 0) pe_int (fun _ _ => rfl)) (pac pe_str pa_nil))))))))), ?_⟩
  have l3 : (100000 : Nat) < sizeLine := by rw [sizeLine_eq]; decide
  have lb : bs.length = p.bx.length := Paired.length hbs
  have ll : ls.length = p.lx.length := Paired.length hls
  refine ⟨_, rfl, a, _, 0, _, rfl, rfl, SqT.of ha, atI_nat (j := 0) rfl, ba, rfl, ⟨_, SqT.of hba⟩, ?_⟩
  refine walk_pairs (K := K) (te := tOp rS (tOp rS (tOp rS (tC (.str "box ")) (tVar 0)) (tC (.str " "))) (tCB rStr (tCons (tVar 1) tNil))) (cs := []) (Rel.same H) bs (fun x y => ∃ p, BoxIs H x p ∧ y = .str (boxL p)) (by omega) (fun i H2 s hi => ⟨bs, _, SqT.of (s _ _ hba), List.getElem?_eq_getElem hi⟩) (fun H2 s => ⟨bs, SqT.of (s _ _ hba), Nat.le_refl _⟩) (fun i H2 x H3 s _ y => ⟨y.1, y.2 bs (SqT.of (s _ _ hba))⟩) rfl (by rfl) (fun v hv => ?_) (fun t x y acc ys H2 k hx ht hn hl s hk => ?_) (fun f1 ys H2 hn s2 hl hp => ?_)
  · obtain ⟨pb, _, t, rfl, ht, _⟩ := mem_paired hbs v hv
    exact ⟨t, _, _, rfl, fun H2 s => s _ _ ht⟩
  · obtain ⟨pb, _, hpb⟩ := mem_paired hbs _ hx
    obtain ⟨t', e, ht', n1, n2, n3⟩ := id hpb
    injection e with e
    subst e
    rw [s _ _ ht'] at ht
    simp at ht
    obtain ⟨rfl, rfl⟩ := ht
    have nl := num_len n2 n3
    have b4 : ("box " : Str).length = 4 := rfl
    have b1 : (" " : Str).length = 1 := rfl
    refine ⟨_, rfl, _, _, rfl, rfl, by omega, _, _, rfl, rfl, by rw [len_append]; omega, _, rfl, _, rfl, log_small n2 n3, _, _, rfl, rfl, by rw [len_append, len_append]; omega, hk _ _ ⟨pb, hpb, ?_⟩ s hl⟩
    rw [box_eq]; rfl
  have e1 := Paired.out (f := boxL) (fun _ _ _ h g => by
    obtain ⟨q, g1, g2⟩ := g
    rw [g2, box_one h g1]) hbs hp
  subst e1
  have la2 := s2 _ _ hla
  refine ⟨_, rfl, _, rfl, a, _, 1, _, rfl, rfl, SqT.of (s2 _ _ ha), atI_nat (j := 1) rfl, la, rfl, ⟨_, SqT.of la2⟩, ?_⟩
  refine walk_pairs (K := K) (te := tBM K "str" rJn (tC (.str " ")) (tCons (tOp rCat (tLst (tCons (tC (.str "list")) (tCons (tVar 0) tNil))) (tComp (iTup K (tVar 1)) (gName 0) (fun x H Q => Q true H) (tCB rStr (tCons (tVar 0) tNil)) (captS 1 []))) tNil)) (cs := []) (Rel.same H2) ls (fun x y => ∃ p, LstIs H x p ∧ y = .str (lstL p)) (by omega) (fun i H2 s hi => ⟨ls, _, SqT.of (s _ _ la2), List.getElem?_eq_getElem hi⟩) (fun H2 s => ⟨ls, SqT.of (s _ _ la2), Nat.le_refl _⟩) (fun i H2 x H3 s _ y => ⟨y.1, y.2 ls (SqT.of (s _ _ la2))⟩) rfl (by rfl) (fun v hv => ?_) (fun t x y acc ys H3 k hx ht hn hl s hk => ?_) (fun f2 ys3 H3 hn3 s3 hl3 hp3 => ?_)
  · obtain ⟨pb, _, t, u, rfl, ht, _⟩ := mem_paired hls v hv
    exact ⟨t, _, _, rfl, fun H3 s => s _ _ (s2 _ _ ht)⟩
  · obtain ⟨pb, _, hpb⟩ := mem_paired hls _ hx
    obtain ⟨t', u', e, ht', hu', n1, n2, n3⟩ := id hpb
    injection e with e
    subst e
    have s03 := s2.trans s
    rw [s03 _ _ ht'] at ht
    simp at ht
    obtain ⟨rfl, rfl⟩ := ht
    refine ⟨rfl, _, rfl, (by show 2 ≤ sizeLine; omega), fun v1 hv1 => ?_⟩
    have s4 := same_of_new hv1 (.lst [.str "list", .str pb.1])
    have hl4 := s4 _ _ hl
    have hv4 : upd H3 v1 (.lst [.str "list", .str pb.1]) v1 = some (.lst ((["list", pb.1] : List Str).map V.str)) := upd_same
    generalize upd H3 v1 (.lst [.str "list", .str pb.1]) = H4 at s4 hl4 hv4 ⊢
    have hu4 := s4 _ _ (s03 _ _ hu')
    refine ⟨_, rfl, u', rfl, ⟨_, SqT.of hu4⟩, walk_tup (te := tCB rStr (tCons (tVar 0) tNil)) (cs := []) numT hu4 (by rw [List.length_map]; omega) (by rfl) (fun x H5 k5 hx5 s5 hk5 => ?_) (fun acc5 H5 hna5 s5 hl5 => ?_)⟩
    · obtain ⟨i, hi, rfl⟩ := List.mem_map.mp hx5
      exact ⟨_, rfl, _, rfl, log_small (n3 i hi).1 (n3 i hi).2, hk5 _ (Same.refl _)⟩
    · rw [numT_map] at hl5
      refine ⟨v1, acc5, _, _, rfl, rfl, s5 _ _ hv4, hl5, by simp only [List.length_map, List.length_cons, List.length_nil]; omega, fun v6 hv6 => ?_⟩
      rw [← List.map_append]
      have s6 := same_of_new hv6 (.lst (((["list", pb.1] : List Str) ++ pb.2.map fun i => (toString i : Str)).map V.str))
      have hw : ∀ y ∈ ((["list", pb.1] : List Str) ++ pb.2.map fun i => (toString i : Str)), y.length ≤ 10 := mem_words (by decide) (mem_words n1 fun y hy => by
        obtain ⟨i, hi, rfl⟩ := List.mem_map.mp hy
        exact num_len (n3 i hi).1 (n3 i hi).2)
      have hs := sum_le hw
      have b1 : (" " : Str).length = 1 := rfl
      refine ⟨" ", v6, _, rfl, rfl, upd_same, ?_, hk _ _ ⟨pb, hpb, rfl⟩ (s.trans (s4.trans (s5.trans s6))) (s6 _ _ (s5 _ _ hl4))⟩
      rw [b1]
      simp only [List.length_append, List.length_map, List.length_cons, List.length_nil] at hs ⊢
      omega
  have e3 := Paired.out (f := lstL) (fun _ _ _ h g => by
    obtain ⟨q, g1, g2⟩ := g
    rw [g2, lst_one h g1]) hls hp3
  subst e3
  have hl23 := s3 _ _ hl
  refine ⟨f1, f2, _, _, rfl, rfl, hl23, hl3, by simp only [List.length_map]; omega, fun f3 hf3 => ?_⟩
  rw [← List.map_append]
  have s03 := s2.trans s3
  have nf3 : H f3 = none := s03.free hf3
  have s4 := s03.trans (same_of_new hf3 (.lst ((p.bx.map boxL ++ p.lx.map lstL).map V.str)))
  have hl4 : upd H3 f3 (.lst ((p.bx.map boxL ++ p.lx.map lstL).map V.str)) f3 = _ := upd_same
  generalize upd H3 f3 (.lst ((p.bx.map boxL ++ p.lx.map lstL).map V.str)) = H4 at s4 hl4 ⊢
  refine ⟨_, rfl, a, _, 2, _, rfl, rfl, SqT.of (s4 _ _ ha), atI_nat (j := 2) rfl, fa, rfl, ⟨_, SqT.of (s4 _ _ hfa)⟩, ?_⟩
  unfold Pg.lines at hlen q
  simp only [List.length_append, List.length_map] at hlen
  refine for_tup (xs := fs) (fun i σ H' => ∃ (al : Addr) (x2 x3 x4 x5 : Option V) (f1 f2 : List Fn), σ = [some (.ref a), some (.ref al), x2, x3, x4, x5] ∧ Same H H' ∧ H al = none ∧ p.fx = f1 ++ f2 ∧ Paired (FunIs H) (fs.drop i) f2 ∧ H' al = some (.lst (((p.bx.map boxL ++ p.lx.map lstL) ++ (f1.map Fn.lines).flatten).map V.str))) ?_ ?_ ?_ ?_
  · exact ⟨f3, _, _, _, _, [], p.fx, rfl, s4, nf3, rfl, hfs, by simpa using hl4⟩
  · rintro i σ H' hi ⟨al, x2, x3, x4, x5, g1, g2, rfl, s5, _⟩
    exact SqT.of (s5 _ _ hfa)
  · rintro i x σ H' hxi ⟨al, x2, x3, x4, x5, g1, g2, rfl, s5, nal, e5, hP5, hl5⟩
    have hil : i < fs.length := (List.getElem?_eq_some_iff.mp hxi).1
    have hd : fs.drop i = x :: fs.drop (i + 1) := by
      rw [List.drop_eq_getElem_cons hil]
      congr 1
      rw [List.getElem?_eq_getElem hil] at hxi
      injection hxi
    rw [hd] at hP5
    cases hP5 with
    | @cons _ fn _ g3 hf hfr =>
    rw [e5] at hlen
    simp only [List.map_append, List.flatten_append, List.map_cons, List.flatten_cons, List.length_append, fn.len] at hlen
    obtain ⟨b, pa, oa, ra', rfl, hb, hpa, hoa, hra', hR', n1, n2, n3, n4, n5, n6⟩ := hf
    have hb' := s5 _ _ hb
    refine ⟨b, _, rfl, SqT.of hb', rfl, _, _, rfl, _, _, rfl, _, _, rfl, _, _, rfl, rfl, ?_⟩
    refine ⟨_, rfl, .inl ⟨rfl, _, SqL.of hl5⟩, rfl, _, rfl, (by show 2 ≤ sizeLine; omega), fun v1 hv1 => ?_⟩
    have t1 := same_of_new hv1 (.lst [.str "def", .str fn.name])
    have hv4 : upd H' v1 (.lst [.str "def", .str fn.name]) v1 = some (.lst ((["def", fn.name] : List Str).map V.str)) := upd_same
    generalize upd H' v1 (.lst [.str "def", .str fn.name]) = H6 at t1 hv4 ⊢
    refine ⟨_, rfl, pa, _, rfl, .inr (SqT.of (t1 _ _ (s5 _ _ hpa))), fun v2 hv2 => ?_⟩
    have t2 := same_of_new hv2 (.lst (fn.params.map V.str))
    refine ⟨v1, v2, _, _, rfl, rfl, t2 _ _ hv4, upd_same, by simp only [List.length_map, List.length_cons, List.length_nil]; omega, fun v3 hv3 => ?_⟩
    rw [← List.map_append]
    have t3 := same_of_new hv3 (.lst (((["def", fn.name] : List Str) ++ fn.params).map V.str))
    have hw1 : ∀ y ∈ ((["def", fn.name] : List Str) ++ fn.params), y.length ≤ 10 := mem_words (by decide) (mem_words n1 n2)
    have hs := sum_le hw1
    have b1 : (" " : Str).length = 1 := rfl
    have t03 := t1.trans (t2.trans t3)
    have hl6 := t03 _ _ hl5
    refine ⟨" ", v3, _, rfl, rfl, upd_same, ?_, al, _, _, rfl, rfl, hl6, by simp only [List.length_append, List.length_map]; omega, ?_⟩
    · rw [b1]
      simp only [List.length_append, List.length_cons, List.length_nil] at hs ⊢
      omega
    rw [snoc_map]
    have s7 : Same H (upd (upd (upd H6 v2 (.lst (fn.params.map V.str))) v3 (.lst (((["def", fn.name] : List Str) ++ fn.params).map V.str))) al (.lst ((p.bx.map boxL ++ p.lx.map lstL ++ (g1.map Fn.lines).flatten ++ [Txt.join " " ((["def", fn.name] : List Str) ++ fn.params)]).map V.str))) := fun c o hc => by rw [upd_ne (ne_of_none hc nal)]; exact t03 _ _ (s5 c o hc)
    have hl7 : upd (upd (upd H6 v2 (.lst (fn.params.map V.str))) v3 (.lst (((["def", fn.name] : List Str) ++ fn.params).map V.str))) al (.lst ((p.bx.map boxL ++ p.lx.map lstL ++ (g1.map Fn.lines).flatten ++ [Txt.join " " ((["def", fn.name] : List Str) ++ fn.params)]).map V.str)) al = _ := upd_same
    generalize upd (upd (upd H6 v2 (.lst (fn.params.map V.str))) v3 (.lst (((["def", fn.name] : List Str) ++ fn.params).map V.str))) al (.lst ((p.bx.map boxL ++ p.lx.map lstL ++ (g1.map Fn.lines).flatten ++ [Txt.join " " ((["def", fn.name] : List Str) ++ fn.params)]).map V.str)) = H7 at s7 hl7 ⊢
    refine ⟨_, rfl, _, rfl, oa, rfl, ⟨_, SqT.of (s7 _ _ hoa)⟩, walk_tup (te := tOp rS (tC (.str "  own ")) (tVar 0)) (cs := []) ownL (s7 _ _ hoa) (by rw [List.length_map]; omega) (by rfl) (fun x H8 k8 hx8 s8 hk8 => ?_) (fun acc8 H8 hna8 s8 hl8 => ?_)⟩
    · obtain ⟨y, hy, rfl⟩ := List.mem_map.mp hx8
      have b6 : ("  own " : Str).length = 6 := rfl
      have := n4 y hy
      exact ⟨_, rfl, _, _, rfl, rfl, by omega, hk8 _ (Same.refl _)⟩
    rw [ownL_map] at hl8
    have hl78 := s8 _ _ hl7
    refine ⟨al, acc8, _, _, rfl, rfl, hl78, hl8, by simp only [List.length_append, List.length_map, List.length_cons, List.length_nil]; omega, fun f9 hf9 => ?_⟩
    rw [← List.map_append]
    have s78 := s7.trans s8
    have s9 := s78.trans (same_of_new hf9 (.lst ((p.bx.map boxL ++ p.lx.map lstL ++ (g1.map Fn.lines).flatten ++ [Txt.join " " ((["def", fn.name] : List Str) ++ fn.params)] ++ fn.owns.map (fun x => ("  " : Str) ++ joinW ["own", x])).map V.str)))
    have hl9 : upd H8 f9 (.lst ((p.bx.map boxL ++ p.lx.map lstL ++ (g1.map Fn.lines).flatten ++ [Txt.join " " ((["def", fn.name] : List Str) ++ fn.params)] ++ fn.owns.map (fun x => ("  " : Str) ++ joinW ["own", x])).map V.str)) f9 = _ := upd_same
    generalize upd H8 f9 (.lst ((p.bx.map boxL ++ p.lx.map lstL ++ (g1.map Fn.lines).flatten ++ [Txt.join " " ((["def", fn.name] : List Str) ++ fn.params)] ++ fn.owns.map (fun x => ("  " : Str) ++ joinW ["own", x])).map V.str)) = H9 at s9 hl9 ⊢
    refine ⟨_, rfl, ra', 1, fn.rows, fn.o, rfl, s9 _ _ hra', hR'.tk (TK.of s9), by omega, by omega, fun l10 H10 s10 n10 hl10 => ?_⟩
    refine ⟨f9, l10, _, _, rfl, rfl, s10 _ _ hl9, hl10, by simp only [List.length_append, List.length_map, List.length_cons, List.length_nil]; omega, fun f11 hf11 => ?_⟩
    rw [← List.map_append]
    have s910 := s9.trans s10
    have u11 := same_of_new hf11 (.lst ((p.bx.map boxL ++ p.lx.map lstL ++ (g1.map Fn.lines).flatten ++ [Txt.join " " ((["def", fn.name] : List Str) ++ fn.params)] ++ fn.owns.map (fun x => ("  " : Str) ++ joinW ["own", x]) ++ fn.o.map (ln 1)).map V.str))
    have hl11 : upd H10 f11 (.lst ((p.bx.map boxL ++ p.lx.map lstL ++ (g1.map Fn.lines).flatten ++ [Txt.join " " ((["def", fn.name] : List Str) ++ fn.params)] ++ fn.owns.map (fun x => ("  " : Str) ++ joinW ["own", x]) ++ fn.o.map (ln 1)).map V.str)) f11 = _ := upd_same
    have s11 := s910.trans u11
    generalize upd H10 f11 (.lst ((p.bx.map boxL ++ p.lx.map lstL ++ (g1.map Fn.lines).flatten ++ [Txt.join " " ((["def", fn.name] : List Str) ++ fn.params)] ++ fn.owns.map (fun x => ("  " : Str) ++ joinW ["own", x]) ++ fn.o.map (ln 1)).map V.str)) = H11 at s11 hl11 ⊢
    refine ⟨(by show 1 ≤ sizeLine; omega), fun v12 hv12 => ?_⟩
    have u12 := same_of_new hv12 (.lst [.str "end"])
    refine ⟨f11, v12, _, _, rfl, rfl, u12 _ _ hl11, upd_same, by simp only [List.length_append, List.length_map, List.length_cons, List.length_nil]; omega, fun f13 hf13 => ?_⟩
    have s12 := s11.trans u12
    refine ⟨f13, _, _, _, _, g1 ++ [fn], g3, rfl, s12.trans (same_of_new hf13 _), s12.free hf13, by rw [e5, List.append_assoc]; rfl, hfr, ?_⟩
    rw [upd_same, snoc_map]
    congr 3
    have ej : Txt.join " " ((["def", fn.name] : List Str) ++ fn.params) = joinW ("def" :: fn.name :: fn.params) := rfl
    rw [ej]
    simp only [List.map_append, List.flatten_append, List.map_cons, List.flatten_cons, List.append_assoc, List.map_nil, List.flatten_nil, List.append_nil, Fn.lines, List.cons_append, List.nil_append]
  · rintro σ H' ⟨al, x2, x3, x4, x5, g1, g2, rfl, s5, nal, e5, hP5, hl5⟩
    rw [List.drop_length] at hP5
    cases hP5
    rw [List.append_nil] at e5
    subst e5
    have tk5 := TK.of s5
    refine ⟨_, rfl, _, rfl, a, _, 3, _, rfl, rfl, SqT.of (s5 _ _ ha), atI_nat (j := 3) rfl, ra, 0, p.rows, p.o, rfl, s5 _ _ hra, hR.tk tk5, by omega, by omega, fun l6 H6 s6 n6 hl6 => ?_⟩
    refine ⟨al, l6, _, _, rfl, rfl, s6 _ _ hl5, hl6, by simp only [List.length_append, List.length_map]; omega, fun l7 hl7 => ?_⟩
    have s56 := s5.trans s6
    refine q l7 _ (s56.trans (same_of_new hl7 _)) (s56.free hl7) ?_
    rw [upd_same, ← List.map_append]
    simp only [List.append_assoc]
end
end K10

set_option Elab.async false
set_option linter.all false
set_option maxRecDepth 100000
set_option maxHeartbeats 4000000
namespace K10
open PySem L2
seal L2.PE L2.PS L2.PSs L2.PT L2.PW L2.PA L2.PG L2.PGs L2.PI L2.PO L2.PIfs L2.PC L2.OpR L2.CallR L2.IxR L2.SlR L2.PSet L2.UnR
theorem cut_from (xs : List V) (j : Nat) : cutV xs (some (j : Int)) none = xs.drop j := by
  unfold cutV
  rw [HT.sIx_nat, HT.sIx_none]
  rcases Nat.le_total j xs.length with h | h
  · rw [Nat.min_eq_left h, List.take_of_length_le (by rw [List.length_drop]; exact Nat.le_refl _)]
  · rw [Nat.min_eq_right h, List.drop_of_length_le h, List.drop_of_length_le (Nat.le_refl _), List.take_nil]
theorem cut_12 (y : V) (ys : List V) : cutV (y :: ys) (some ((1 : Nat) : Int)) (some ((2 : Nat) : Int)) = ys.take 1 := by
  unfold cutV
  rw [HT.sIx_nat, HT.sIx_nat]
  cases ys with
  | nil => simp
  | cons z zs => simp [List.length_cons]
def wI (wd : Str) (rs : List V) : List V := if wd = "if" then rs.drop 1 else if wd = "while" then rs.drop 1 else if wd = "try" then rs.take 1 ++ rs.drop 2 else []
def SubR (H : Hp) (d : Nat) (v : V) (o : Lns) : Prop := ∃ d' b bs, d = d' + 1 ∧ v = .ref b ∧ H b = some (.tup bs) ∧ Rs H d' bs o
theorem SubR.tk {H H' : Hp} (k : TK H H') {d : Nat} {v : V} {o : Lns} (h : SubR H d v o) : SubR H' d v o := let ⟨d', b, bs, e, e2, h1, h2⟩ := h; ⟨d', b, bs, e, e2, k _ _ h1, h2.tk k⟩
theorem Rs.row {H : Hp} {d : Nat} {r : V} {rest : List V} {o : Lns} (h : Rs H d (r :: rest) o) : ∃ (a : Addr) (wd : Str) (rs : List V) (ws : List Str) (o2 : Lns) (os : List Lns), r = .ref a ∧ H a = some (.tup (.str wd :: rs)) ∧ LRow H r ws ∧ Rs H d rest o2 ∧ Paired (SubR H d) (wI wd rs) os ∧ 1 + (os.map (·.length)).sum + o2.length ≤ o.length ∧ rs.length ≤ 3 := by
  cases h with
  | plain a b =>
    obtain ⟨t, wd, rs, rfl, ht, _, n1, n2, n3⟩ := a.first
    refine ⟨t, wd, rs, _, _, [], rfl, ht, .pl a, b, ?_, ?_, ?_⟩
    · unfold wI; rw [if_neg n1, if_neg n2, if_neg n3]; exact .nil
    · rw [List.length_cons]; show 1 + 0 + _ ≤ _; omega
    · cases a with
      | parts h _ _ _ e _ => rw [h] at ht; simp at ht; rw [← ht.2]; exact e
      | call h => rw [h] at ht; simp at ht; rw [← ht.2]; exact Nat.le_refl 3
  | @ifs d' a b c v bs cs _ ws p1 p2 p3 ha hv hB hC h1 h2 h3 =>
    refine ⟨a, _, _, _, _, if cs = [] then [p1, []] else [p1, p2], rfl, ha, .ifs ha hv, h3, ?_, ?_, Nat.le_refl 3⟩
    · show Paired (SubR H (d' + 1)) [.ref b, .ref c] _
      split
      · rename_i z
        subst z
        exact .cons ⟨d', b, bs, rfl, rfl, hB, h1⟩ (.cons ⟨d', c, [], rfl, rfl, hC, .nil⟩ .nil)
      · exact .cons ⟨d', b, bs, rfl, rfl, hB, h1⟩ (.cons ⟨d', c, cs, rfl, rfl, hC, h2⟩ .nil)
    · unfold els
      split <;> simp [up_len] <;> omega
  | @whl d' a b v bs _ ws p1 p3 ha hv hB h1 h3 =>
    refine ⟨a, _, _, _, _, [p1], rfl, ha, .whl ha hv, h3, ?_, ?_, by show 2 ≤ 3; decide⟩
    · exact .cons ⟨d', b, bs, rfl, rfl, hB, h1⟩ .nil
    · simp [up_len]; omega
  | @tri d' a b c y bs cs _ p1 p2 p3 ha hy hB hC h1 h2 h3 =>
    refine ⟨a, _, _, _, _, [p1, p2], rfl, ha, .tri ha, h3, ?_, ?_, Nat.le_refl 3⟩
    · exact .cons ⟨d', b, bs, rfl, rfl, hB, h1⟩ (.cons ⟨d', c, cs, rfl, rfl, hC, h2⟩ .nil)
    · simp [up_len]; omega
theorem at_if (v1 v2 v3 : V) : atK [(.inr "if", v1), (.inr "while", v2), (.inr "try", v3)] "if" = some v1 := by unfold atK; simp
theorem at_wh (v1 v2 v3 : V) : atK [(.inr "if", v1), (.inr "while", v2), (.inr "try", v3)] "while" = some v2 := by
  unfold atK
  rw [List.find?_cons, decide_eq_false (fun z => absurd (Sum.inr.inj z) (by decide))]
  simp
theorem at_tr (v1 v2 v3 : V) : atK [(.inr "if", v1), (.inr "while", v2), (.inr "try", v3)] "try" = some v3 := by
  unfold atK
  rw [List.find?_cons, decide_eq_false (fun z => absurd (Sum.inr.inj z) (by decide))]
  show Option.map _ (List.find? _ [((.inr "while" : Key), v2), (.inr "try", v3)]) = _
  rw [List.find?_cons, decide_eq_false (fun z => absurd (Sum.inr.inj z) (by decide))]
  simp
theorem at_no {wd : Str} (n1 : wd ≠ "if") (n2 : wd ≠ "while") (n3 : wd ≠ "try") (v1 v2 v3 : V) : atK [(.inr "if", v1), (.inr "while", v2), (.inr "try", v3)] wd = none := by
  unfold atK
  rw [List.find?_cons, decide_eq_false (fun z => n1 (Sum.inr.inj z).symm)]
  show Option.map _ (List.find? _ [((.inr "while" : Key), v2), (.inr "try", v3)]) = _
  rw [List.find?_cons, decide_eq_false (fun z => n2 (Sum.inr.inj z).symm)]
  show Option.map _ (List.find? _ [((.inr "try" : Key), v3)]) = _
  rw [List.find?_cons, decide_eq_false (fun z => n3 (Sum.inr.inj z).symm)]
  rfl
section
variable {P : Program} {w : World} {K : PySem.W.Frag} {mg : Str → Option Value} {base : Heap}
theorem sc_within : FnScope ["_law_row"] ["_law_row"] (defScope (top 23)) := ⟨rfl, rfl, rfl, by decide +kernel, rfl, by decide +kernel, by decide +kernel⟩
def spWithin : Sp := fun vs H Q _ => ∃ (a : Addr) (wd : Str) (rs : List V), vs = [.ref a] ∧ H a = some (.tup (.str wd :: rs)) ∧ rs.length ≤ 3 ∧ ∀ t H', Same H H' → H' t = some (.tup (wI wd rs)) → Q (.ref t) H'
theorem d_within (T : Txt w K mg) (S : Src K mg "_law_within" (top 23) ["_law_row"]) : Def P w K mg base 1 "_law_within" ["_law_row"] spWithin := by
  refine S.ok sc_within (fun vs H Q E h => ?_) (fun f cdv A outer s H vs Q E hr h => ?_)
  · obtain ⟨a, wd, rs, rfl, _⟩ := h; rfl
  obtain ⟨a, wd, rs, rfl, ha, hrs, q⟩ := h
  refine ⟨_, (pss_one (ps_ret (pe_bm PySem.F.plainAttrs_dict PySem.F.slot_dict_get PySem.F.type_dict_get mt_dgetD (pe_dict3 pe_str pe_str pe_str (pe_slice sl_tupW (pv 0) (po_some pe_int) po_none) (pe_slice sl_tupW (pv 0) (po_some pe_int) po_none) (pe_op op_catTw (pe_slice sl_tupW (pv 0) (po_some pe_int) (po_some pe_int)) (pe_slice sl_tupW (pv 0) (po_some pe_int) po_none)) (by decide) (by decide) (by decide)) (pac (pe_ix ix_tup (pv 0) pe_int (fun _ _ => rfl)) (pac (pe_tup pa_nil) pa_nil))))), ?_⟩
  have l3 : (100000 : Nat) < sizeLine := by rw [sizeLine_eq]; decide
  refine fun p hp => ?_
  have s0 := same_of_new hp (.dK [])
  have hp0 : upd H p (.dK []) p = some (.dK []) := upd_same
  generalize upd H p (.dK []) = H0 at s0 hp0 ⊢
  refine ⟨_, rfl, 2, rfl, a, _, rfl, s0 _ _ ha, fun t1 H1 s1 h1 => ?_⟩
  have ha1 := s1 _ _ (s0 _ _ ha)
  refine ⟨_, rfl, 2, rfl, a, _, rfl, ha1, fun t2 H2 s2 h2 => ?_⟩
  have ha2 := s2 _ _ ha1
  refine ⟨_, rfl, 1, rfl, 2, rfl, a, _, rfl, ha2, fun t3 H3 s3 h3 => ?_⟩
  have ha3 := s3 _ _ ha2
  refine ⟨_, rfl, 3, rfl, a, _, rfl, ha3, fun t4 H4 s4 h4 => ?_⟩
  rw [show ((2 : Int)) = ((2 : Nat) : Int) from rfl, cut_from] at h1 h2
  rw [show ((3 : Int)) = ((3 : Nat) : Int) from rfl, cut_from] at h4
  rw [show ((1 : Int)) = ((1 : Nat) : Int) from rfl, show ((2 : Int)) = ((2 : Nat) : Int) from rfl, cut_12] at h3
  refine ⟨t3, t4, _, _, rfl, rfl, s4 _ _ h3, h4, by rw [List.length_take, List.length_drop, List.length_cons]; omega, fun t5 H5 s5 h5 => ?_⟩
  have s15 := s1.trans (s2.trans (s3.trans (s4.trans s5)))
  have s05 := s0.trans s15
  refine ⟨s15 _ _ hp0, ?_⟩
  have s06 : Same H (upd H5 p (.dK [(.inr "if", .ref t1), (.inr "while", .ref t2), (.inr "try", .ref t5)])) := fun c o hc => by rw [upd_ne (ne_of_none hc hp)]; exact s05 c o hc
  have hp6 : upd H5 p (.dK [(.inr "if", .ref t1), (.inr "while", .ref t2), (.inr "try", .ref t5)]) p = _ := upd_same
  have n1 : t1 ≠ p := ne_of ((s2.trans (s3.trans (s4.trans s5))) _ _ h1) (s15 _ _ hp0) (by intro z; cases z)
  have n2 : t2 ≠ p := ne_of ((s3.trans (s4.trans s5)) _ _ h2) (s15 _ _ hp0) (by intro z; cases z)
  have n5 : t5 ≠ p := ne_of h5 (s15 _ _ hp0) (by intro z; cases z)
  have k1 : upd H5 p (.dK [(.inr "if", .ref t1), (.inr "while", .ref t2), (.inr "try", .ref t5)]) t1 = some (.tup (rs.drop 1)) := by rw [upd_ne n1]; exact (s2.trans (s3.trans (s4.trans s5))) _ _ h1
  have k2 : upd H5 p (.dK [(.inr "if", .ref t1), (.inr "while", .ref t2), (.inr "try", .ref t5)]) t2 = some (.tup (rs.drop 1)) := by rw [upd_ne n2]; exact (s3.trans (s4.trans s5)) _ _ h2
  have k5 : upd H5 p (.dK [(.inr "if", .ref t1), (.inr "while", .ref t2), (.inr "try", .ref t5)]) t5 = some (.tup (rs.take 1 ++ rs.drop 2)) := by rw [upd_ne n5]; exact h5
  generalize upd H5 p (.dK [(.inr "if", .ref t1), (.inr "while", .ref t2), (.inr "try", .ref t5)]) = H6 at s06 hp6 k1 k2 k5 ⊢
  refine ⟨.inr (.inr (.inl ⟨rfl, .inl ⟨_, hp6⟩⟩)), _, rfl, a, _, 0, _, rfl, rfl, SqT.of (s06 _ _ ha), atI_nat (j := 0) rfl, (by show 0 ≤ sizeLine; omega), fun u hu => ?_⟩
  have su := same_of_new hu (.tup [])
  refine ⟨p, _, wd, _, rfl, rfl, su _ _ hp6, ?_⟩
  have s07 := s06.trans su
  unfold wI at q
  by_cases c1 : wd = "if"
  · subst c1
    rw [if_pos rfl] at q
    rw [at_if]
    exact q _ _ s07 (su _ _ k1)
  rw [if_neg c1] at q
  by_cases c2 : wd = "while"
  · subst c2
    rw [if_pos rfl] at q
    rw [at_wh]
    exact q _ _ s07 (su _ _ k2)
  rw [if_neg c2] at q
  by_cases c3 : wd = "try"
  · subst c3
    rw [if_pos rfl] at q
    rw [at_tr]
    exact q _ _ s07 (su _ _ k5)
  rw [if_neg c3] at q
  rw [at_no c1 c2 c3]
  exact q _ _ s07 upd_same
/-! ### _law_walk -/
def Tr (H : Hp) (u : V) : Prop := ∃ (t : Addr) (n : Int) (r : V) (a : Int) (ws : List Str), u = .ref t ∧ H t = some (.tup [.int n, r, .int a]) ∧ LRow H r ws
theorem Tr.tk {H H' : Hp} (k : TK H H') {u : V} (h : Tr H u) : Tr H' u := let ⟨t, n, r, a, ws, e, h1, h2⟩ := h; ⟨t, n, r, a, ws, e, k _ _ h1, h2.tk k⟩
theorem sc_walk : FnScope ["_law_rows_here", "_law_around", "_law_found", "_law_row", "_law_number", "_law_some"] ["_law_rows_here", "_law_around", "_law_found"] (defScope (top 24)) := ⟨rfl, rfl, rfl, by decide +kernel, rfl, by decide +kernel, by decide +kernel⟩
def spWalk (d : Nat) : Sp := fun vs H Q _ => ∃ (r : Addr) (a : Int) (l : Addr) (us rows : List V) (o : Lns), vs = [.ref r, .int a, .ref l] ∧ H r = some (.tup rows) ∧ Rs H d rows o ∧ H l = some (.lst us) ∧ us.length + o.length ≤ 20000 ∧
  ∀ H' new, But l H H' → H' l = some (.lst (us ++ new)) → (∀ u ∈ new, Tr H' u) → new.length ≤ o.length → Q .non H'
def spWalkL (d : Nat) : Sp := fun vs H Q E => ∃ d', d = d' + 1 ∧ spWalk d' vs H Q E
theorem d_walk1 {d j : Nat} (hj : 1 ≤ j) (T : Txt w K mg) (D_within : Def P w K mg base 1 "_law_within" ["_law_row"] spWithin) (IH : Def P w K mg base j "_law_walk" ["_law_rows_here", "_law_around", "_law_found"] (spWalkL d)) (S : Src K mg "_law_walk" (top 24) ["_law_rows_here", "_law_around", "_law_found"]) : Def P w K mg base (j + 1) "_law_walk" ["_law_rows_here", "_law_around", "_law_found"] (spWalk d) := by
  refine S.ok sc_walk (fun vs H Q E h => ?_) (fun f cdv A outer s H vs Q E hr h => ?_)
  · obtain ⟨r, a, l, us, rows, o, rfl, _⟩ := h; rfl
  obtain ⟨r, a, l, us, rows, o, rfl, hrw, hR, hl, hn, q⟩ := h
  refine ⟨_, (pss_one (ps_for PassesOwn.never rfl (pi_tup (pv 0)) (pg_name (i := 3) sc_walk.nd rfl (Or.inl rfl))
      (pss_cons (ps_set (i := 4) sc_walk.nd rfl (Or.inl rfl) (pe_cB call_len_seq rfl T.z_len bt_len (pac (pv 2) pa_nil)))
      (pss_cons (ps_expr (pe_bm PySem.F.plainAttrs_list PySem.F.slot_list_append PySem.F.type_list_append mt_append (pv 2) (pac (pe_tup (pac (pv 4) (pac (pv 3) (pac (pv 1) pa_nil)))) pa_nil)))
      (pss_one (ps_for PassesOwn.never rfl (pi_tup (pe_def (D_within.mono (by omega)) hr rfl (pac (pv 3) pa_nil))) (pg_name (i := 5) sc_walk.nd rfl (Or.inl rfl))
      (pss_one (ps_expr (pe_def (IH) hr rfl (pac (pv 5) (pac (pv 4) (pac (pv 2) pa_nil)))))))))))), ?_⟩
  have l3 : (100000 : Nat) < sizeLine := by rw [sizeLine_eq]; decide
  have rl : r ≠ l := ne_of hrw hl (by intro z; cases z)
  refine ⟨_, rfl, r, rfl, ⟨_, SqT.of hrw⟩, ?_⟩
  refine for_tup (xs := rows) (fun i σ H' => ∃ (new : List V) (n1 : Nat) (o2 : Lns) (x3 x4 x5 : Option V), σ = [some (.ref r), some (.int a), some (.ref l), x3, x4, x5] ∧ But l H H' ∧ H' l = some (.lst (us ++ new)) ∧ (∀ u ∈ new, Tr H' u) ∧ new.length + o2.length ≤ o.length ∧ Rs H d (rows.drop i) o2) ?_ ?_ ?_ ?_
  · refine ⟨[], 0, o, _, _, _, rfl, But.refl _ _, by rw [List.append_nil]; exact hl, ?_, by simp, hR⟩
    intro u hu
    cases hu
  · rintro i σ H' hi ⟨new, n1, o2, x3, x4, x5, rfl, hb, _⟩
    exact SqT.of (hb r _ rl hrw)
  · rintro i x σ H' hxi ⟨new, n1, o2, x3, x4, x5, rfl, hb, hL, hT, hno, hR2⟩
    have hil : i < rows.length := (List.getElem?_eq_some_iff.mp hxi).1
    have hd : rows.drop i = x :: rows.drop (i + 1) := by
      rw [List.drop_eq_getElem_cons hil]
      congr 1
      rw [List.getElem?_eq_getElem hil] at hxi
      injection hxi
    rw [hd] at hR2
    have tkH := But.tk hb hl
    obtain ⟨ra, wd, rs, ws, o3, os, rfl, hra, hLR, hR3, hSub, hcount, hrs⟩ := hR2.row
    refine ⟨_, rfl, l, _, rfl, .inl (SqL.of hL), ?_⟩
    refine ⟨_, rfl, .inl ⟨rfl, _, SqL.of hL⟩, _, rfl, _, rfl, _, rfl, (by show 3 ≤ sizeLine; omega), fun u hu => ?_⟩
    have su := same_of_new hu (.tup [.int ((us ++ new).length : Int), .ref ra, .int a])
    have lnew : (us ++ new).length < sizeLine := by rw [List.length_append]; omega
    refine ⟨l, _, _, rfl, rfl, su _ _ hL, lnew, ?_⟩
    generalize hm : (us ++ new).length = mm at su hu ⊢
    have ul : u ≠ l := fun z => by rw [z, hL] at hu; cases hu
    have b2 := But.trans hb (But.trans (But.of (T := l) su) (But.upd l (upd H' u (.tup [.int (mm : Int), .ref ra, .int a])) (.lst ((us ++ new) ++ [.ref u]))))
    have tk12 : TK H' (upd (upd H' u (.tup [.int (mm : Int), .ref ra, .int a])) l (.lst ((us ++ new) ++ [.ref u]))) := But.tk (But.trans (But.of (T := l) su) (But.upd l _ _)) hL
    have hl2 : upd (upd H' u (.tup [.int (mm : Int), .ref ra, .int a])) l (.lst ((us ++ new) ++ [.ref u])) l = some (.lst ((us ++ new) ++ [.ref u])) := upd_same
    have hu2 : upd (upd H' u (.tup [.int (mm : Int), .ref ra, .int a])) l (.lst ((us ++ new) ++ [.ref u])) u = some (.tup [.int (mm : Int), .ref ra, .int a]) := by rw [upd_ne ul]; exact upd_same
    generalize upd (upd H' u (.tup [.int (mm : Int), .ref ra, .int a])) l (.lst ((us ++ new) ++ [.ref u])) = H2 at b2 hl2 hu2 tk12 ⊢
    have tk2 := But.tk b2 hl
    refine ⟨_, rfl, ra, wd, rs, rfl, tk2 _ _ hra, hrs, fun wt H3 s3 h3 => ?_⟩
    have hl3 := s3 _ _ hl2
    have b3 := But.trans b2 (But.of (T := l) s3)
    have tk3 := But.tk b3 hl
    have wl : wt ≠ l := ne_of h3 hl3 (by intro z; cases z)
    refine ⟨wt, rfl, ⟨_, SqT.of h3⟩, ?_⟩
    refine for_tup (xs := wI wd rs) (fun k σ H5 => ∃ (new2 : List V) (os2 : List Lns) (x5 : Option V), σ = [some (.ref r), some (.int a), some (.ref l), some (.ref ra), some (.int (mm : Int)), x5] ∧ But l H H5 ∧ H5 wt = some (.tup (wI wd rs)) ∧ H5 l = some (.lst (us ++ (new ++ (.ref u :: new2)))) ∧ (∀ v ∈ new ++ (.ref u :: new2), Tr H5 v) ∧ new2.length + (os2.map (·.length)).sum ≤ (os.map (·.length)).sum ∧ Paired (SubR H d) ((wI wd rs).drop k) os2) ?_ ?_ ?_ ?_
    · refine ⟨[], os, _, rfl, b3, h3, by rw [hl3]; simp, ?_, by simp, hSub⟩
      intro v hv
      rcases List.mem_append.mp hv with hv | hv
      · exact (hT v hv).tk (tk12.trans (TK.of s3))
      · rw [List.mem_singleton.mp hv]
        exact ⟨u, _, _, _, ws, rfl, s3 _ _ hu2, hLR.tk tk3⟩
    · rintro k σ H5 hk ⟨new2, os2, x5', rfl, b5, hw5, _⟩
      exact SqT.of hw5
    · rintro k y σ H5 hyk ⟨new2, os2, x5', rfl, b5, hw5, hl5, hT5, hc5, hS5⟩
      have hkl : k < (wI wd rs).length := (List.getElem?_eq_some_iff.mp hyk).1
      have hdk : (wI wd rs).drop k = y :: (wI wd rs).drop (k + 1) := by
        rw [List.drop_eq_getElem_cons hkl]
        congr 1
        rw [List.getElem?_eq_getElem hkl] at hyk
        injection hyk
      rw [hdk] at hS5
      cases hS5 with
      | @cons _ oo _ os3 hs1 hs2 =>
      obtain ⟨d', b, bs, rfl, rfl, hB, hRb⟩ := hs1
      have tk5 := But.tk b5 hl
      simp only [List.map_cons, List.sum_cons] at hc5
      refine ⟨_, rfl, _, rfl, _, rfl, d', rfl, b, (mm : Int), l, _, bs, oo, rfl, tk5 _ _ hB, hRb.tk tk5, hl5, ?_, fun H6 new3 b6 hl6 hT6 hc6 => ?_⟩
      · simp only [List.length_append, List.length_cons] at hm ⊢
        omega
      · have tk6 := But.tk b6 hl5
        refine ⟨new2 ++ new3, os3, _, rfl, But.trans b5 b6, b6 _ _ wl hw5, by rw [hl6]; simp, ?_, by rw [List.length_append]; omega, hs2⟩
        intro v hv
        have hv' : v ∈ (new ++ (.ref u :: new2)) ++ new3 := by simpa using hv
        rcases List.mem_append.mp hv' with hv | hv
        · exact (hT5 v hv).tk tk6
        · exact hT6 v hv
    · rintro σ H5 ⟨new2, os2, x5', rfl, b5, hw5, hl5, hT5, hc5, hS5⟩
      refine ⟨new ++ (.ref u :: new2), 0, o3, _, _, _, rfl, b5, hl5, hT5, ?_, hR3⟩
      simp only [List.length_append, List.length_cons]
      omega
  · rintro σ H' ⟨new, n1, o2, x3, x4, x5, rfl, hb, hL, hT, hno, hR2⟩
    exact q H' new hb hL hT (by omega)
theorem d_walk (T : Txt w K mg) (D_within : Def P w K mg base 1 "_law_within" ["_law_row"] spWithin) (S : Src K mg "_law_walk" (top 24) ["_law_rows_here", "_law_around", "_law_found"]) : ∀ d : Nat, Def P w K mg base (d + 2) "_law_walk" ["_law_rows_here", "_law_around", "_law_found"] (spWalk d)
  | 0 => d_walk1 (j := 1) (Nat.le_refl _) T D_within (S.no fun vs H Q E h => by obtain ⟨k', hk, _⟩ := h; omega) S
  | d + 1 => d_walk1 (j := d + 2) (by omega) T D_within ((d_walk T D_within S d).imp fun vs H Q E h => by
      obtain ⟨k', hk, h⟩ := h
      obtain rfl : d = k' := by omega
      exact h) S
end
end K10

set_option Elab.async false
set_option linter.all false
set_option maxRecDepth 100000
set_option maxHeartbeats 4000000
namespace K10
open PySem L2
seal L2.PE L2.PS L2.PSs L2.PT L2.PW L2.PA L2.PG L2.PGs L2.PI L2.PO L2.PIfs L2.PC L2.OpR L2.CallR L2.IxR L2.SlR L2.PSet L2.UnR
def sti : List Str := ["set", "tell", "if"]
/-- the value that the law asks of a row -/
theorem LRow.value {H : Hp} {r : V} {ws : List Str} (h : LRow H r ws) : ∃ (a : Addr) (wd : Str) (rest : List V), r = .ref a ∧ H a = some (.tup (.str wd :: rest)) ∧ (wd ∉ sti ∨ (wd = "set" ∧ ∃ x v us, rest = [x, v] ∧ Vl H 3 v us) ∨ (wd ∈ sti ∧ wd ≠ "set" ∧ ∃ v rs us, rest = v :: rs ∧ Vl H 3 v us)) := by
  cases h with
  | pl h =>
    cases h with
    | @parts a wd rest _ _ h b _ _ _ _ g =>
      refine ⟨a, wd, rest, rfl, h, ?_⟩
      by_cases c1 : wd = "set"
      · exact .inr (.inl ⟨c1, g.1 c1⟩)
      by_cases c2 : wd = "tell"
      · obtain ⟨v, us, e, hv⟩ := g.2 c2
        exact .inr (.inr ⟨by rw [c2]; decide, c1, v, [], us, e, hv⟩)
      · refine .inl fun z => ?_
        rcases List.mem_cons.mp z with z | z
        · exact c1 z
        rcases List.mem_cons.mp z with z | z
        · exact c2 z
        · exact (plains_ne _ b).2.1 (List.mem_singleton.mp z)
    | call h => exact ⟨_, _, _, rfl, h, .inl (by decide)⟩
  | ifs h v => exact ⟨_, _, _, rfl, h, .inr (.inr ⟨by decide, by decide, _, _, _, rfl, v⟩)⟩
  | whl h v => exact ⟨_, _, _, rfl, h, .inl (by decide)⟩
  | tri h => exact ⟨_, _, _, rfl, h, .inl (by decide)⟩
  | df h => exact ⟨_, _, _, rfl, h, .inl (by decide)⟩
section
variable {P : Program} {w : World} {K : PySem.W.Frag} {mg : Str → Option Value} {base : Heap}
/-! ### _law_listed -/
theorem sc_listed : FnScope ["_law_program_here", "_law_found", "_law_title", "_law_params", "_law_owns", "_law_rows_here", "_law_number"] ["_law_program_here"] (defScope (top 25)) := ⟨rfl, rfl, rfl, by decide +kernel, rfl, by decide +kernel, by decide +kernel⟩
def spListed : Sp := fun vs H Q _ => ∃ (v : V) (p : Pg), vs = [v] ∧ ProgIs H v p ∧ ∀ l us H', Same H H' → H l = none → H' l = some (.lst us) → (∀ u ∈ us, Tr H' u) → us.length ≤ 9000 → Q (.ref l) H'
theorem d_listed (T : Txt w K mg) (D_walk : Def P w K mg base 5 "_law_walk" ["_law_rows_here", "_law_around", "_law_found"] (spWalk 3)) (S : Src K mg "_law_listed" (top 25) ["_law_program_here"]) : Def P w K mg base 6 "_law_listed" ["_law_program_here"] spListed := by
  refine S.ok sc_listed (fun vs H Q E h => ?_) (fun f cdv A outer s H vs Q E hr h => ?_)
  · obtain ⟨v, p, rfl, _⟩ := h; rfl
  obtain ⟨v, p, rfl, hP, q⟩ := h
  have hlen := hP.len
  obtain ⟨a, ba, la, fa, ra, bs, ls, fs, rfl, ha, hba, hbs, hla, hls, hfa, hfs, hra, hR, c1, c2, c3, c4⟩ := id hP
  refine ⟨_, (pss_cons (ps_set (i := 1) sc_listed.nd rfl (Or.inl rfl) (pe_lst pa_nil))
      (pss_cons (ps_for PassesOwn.never rfl (pi_tup (pe_ix ix_tup (pv 0) pe_int (fun _ _ => rfl))) (pg_tup rfl (pgs_cons (pg_name (i := 2) sc_listed.nd rfl (Or.inl rfl)) (pgs_cons (pg_name (i := 3) sc_listed.nd rfl (Or.inl rfl)) (pgs_cons (pg_name (i := 4) sc_listed.nd rfl (Or.inl rfl)) (pgs_cons (pg_name (i := 5) sc_listed.nd rfl (Or.inl rfl)) pgs_nil)))))
      (pss_cons (ps_set (i := 6) sc_listed.nd rfl (Or.inl rfl) (pe_cB call_len_seq rfl T.z_len bt_len (pac (pv 1) pa_nil)))
      (pss_cons (ps_expr (pe_bm PySem.F.plainAttrs_list PySem.F.slot_list_append PySem.F.type_list_append mt_append (pv 1) (pac (pe_tup (pac (pv 6) (pac (pe_tup (pac pe_str (pac (pv 2) pa_nil))) (pac (pe_un un_neg pe_int) pa_nil)))) pa_nil)))
      (pss_one (ps_expr (pe_def (D_walk) hr rfl (pac (pv 5) (pac (pv 6) (pac (pv 1) pa_nil)))))))))
      (pss_cons (ps_expr (pe_def (D_walk) hr rfl (pac (pe_ix ix_tup (pv 0) pe_int (fun _ _ => rfl)) (pac (pe_un un_neg pe_int) (pac (pv 1) pa_nil)))))
      (pss_one (ps_ret (pv 1)))))), ?_⟩
  have l3 : (100000 : Nat) < sizeLine := by rw [sizeLine_eq]; decide
  refine ⟨(by show 0 ≤ sizeLine; omega), fun l hl => ?_⟩
  have s0 := same_of_new hl (.lst [])
  have nl : H l = none := hl
  have hl0 : upd H l (.lst []) l = some (.lst []) := upd_same
  generalize upd H l (.lst []) = H0 at s0 hl0 ⊢
  refine ⟨_, rfl, a, _, 2, _, rfl, rfl, SqT.of (s0 _ _ ha), atI_nat (j := 2) rfl, fa, rfl, ⟨_, SqT.of (s0 _ _ hfa)⟩, ?_⟩
  unfold Pg.lines at hlen
  simp only [List.length_append, List.length_map] at hlen
  refine for_tup (xs := fs) (fun i σ H' => ∃ (x2 x3 x4 x5 x6 : Option V) (f1 f2 : List Fn) (us : List V), σ = [some (.ref a), some (.ref l), x2, x3, x4, x5, x6] ∧ Same H H' ∧ p.fx = f1 ++ f2 ∧ Paired (FunIs H) (fs.drop i) f2 ∧ H' l = some (.lst us) ∧ (∀ u ∈ us, Tr H' u) ∧ us.length ≤ (f1.map Fn.lines).flatten.length) ?_ ?_ ?_ ?_
  · refine ⟨_, _, _, _, _, [], p.fx, [], rfl, s0, rfl, hfs, hl0, ?_, Nat.le_refl _⟩
    intro u hu
    cases hu
  · rintro i σ H' hi ⟨x2, x3, x4, x5, x6, f1, f2, us, rfl, s5, _⟩
    exact SqT.of (s5 _ _ hfa)
  · rintro i x σ H' hxi ⟨x2, x3, x4, x5, x6, f1, f2, us, rfl, s5, e5, hP5, hl5, hT5, hc5⟩
    have hil : i < fs.length := (List.getElem?_eq_some_iff.mp hxi).1
    have hd : fs.drop i = x :: fs.drop (i + 1) := by
      rw [List.drop_eq_getElem_cons hil]
      congr 1
      rw [List.getElem?_eq_getElem hil] at hxi
      injection hxi
    rw [hd] at hP5
    cases hP5 with
    | @cons _ fn _ f3 hf hfr =>
    rw [e5] at hlen
    simp only [List.map_append, List.flatten_append, List.map_cons, List.flatten_cons, List.length_append, fn.len] at hlen
    obtain ⟨b, pa, oa, ra', rfl, hb, hpa, hoa, hra', hR', n1, n2, n3, n4, n5, n6, n7⟩ := hf
    refine ⟨b, _, rfl, SqT.of (s5 _ _ hb), rfl, _, _, rfl, _, _, rfl, _, _, rfl, _, _, rfl, rfl, ?_⟩
    refine ⟨_, rfl, l, _, rfl, .inl (SqL.of hl5), ?_⟩
    refine ⟨_, rfl, .inl ⟨rfl, _, SqL.of hl5⟩, _, rfl, _, rfl, (by show 2 ≤ sizeLine; omega), fun u1 hu1 => ?_⟩
    have t1 := same_of_new hu1 (.tup [.str "def", .str fn.name])
    have hd1 : upd H' u1 (.tup [.str "def", .str fn.name]) u1 = some (.tup [.str "def", .str fn.name]) := upd_same
    generalize upd H' u1 (.tup [.str "def", .str fn.name]) = H6 at t1 hd1 ⊢
    refine ⟨1, rfl, (by show 3 ≤ sizeLine; omega), fun u2 hu2 => ?_⟩
    have t2 := same_of_new hu2 (.tup [.int (us.length : Int), .ref u1, .int (-1)])
    have hl6 := t2 _ _ (t1 _ _ hl5)
    refine ⟨l, _, _, rfl, rfl, hl6, by omega, ?_⟩
    have u2l : u2 ≠ l := fun z => by rw [z, t1 _ _ hl5] at hu2; cases hu2
    have s7 : Same H (upd (upd H6 u2 (.tup [.int (us.length : Int), .ref u1, .int (-1)])) l (.lst (us ++ [.ref u2]))) := fun c o hc => by rw [upd_ne (ne_of_none hc nl)]; exact t2 _ _ (t1 _ _ (s5 c o hc))
    have b7 : But l H' (upd (upd H6 u2 (.tup [.int (us.length : Int), .ref u1, .int (-1)])) l (.lst (us ++ [.ref u2]))) := But.trans (But.of (T := l) (t1.trans t2)) (But.upd _ _ _)
    have tk7 := But.tk b7 hl5
    have hl7 : upd (upd H6 u2 (.tup [.int (us.length : Int), .ref u1, .int (-1)])) l (.lst (us ++ [.ref u2])) l = some (.lst (us ++ [.ref u2])) := upd_same
    have hu7 : upd (upd H6 u2 (.tup [.int (us.length : Int), .ref u1, .int (-1)])) l (.lst (us ++ [.ref u2])) u2 = some (.tup [.int (us.length : Int), .ref u1, .int (-1)]) := by rw [upd_ne u2l]; exact upd_same
    have u1l : u1 ≠ l := ne_of hd1 (t1 _ _ hl5) (by intro z; cases z)
    have hd7 : upd (upd H6 u2 (.tup [.int (us.length : Int), .ref u1, .int (-1)])) l (.lst (us ++ [.ref u2])) u1 = some (.tup [.str "def", .str fn.name]) := by rw [upd_ne u1l]; exact t2 _ _ hd1
    generalize upd (upd H6 u2 (.tup [.int (us.length : Int), .ref u1, .int (-1)])) l (.lst (us ++ [.ref u2])) = H7 at s7 hl7 hu7 hd7 tk7 ⊢
    refine ⟨_, rfl, _, rfl, _, rfl, ra', _, l, _, fn.rows, fn.o, rfl, s7 _ _ hra', hR'.tk (TK.of s7), hl7, by rw [List.length_append, List.length_singleton]; omega, fun H8 new b8 hl8 hT8 hc8 => ?_⟩
    have tk8 := But.tk b8 hl7
    refine ⟨_, _, _, _, _, f1 ++ [fn], f3, _, rfl, fun c o hc => b8 c o (ne_of_none hc nl) (s7 c o hc), by rw [e5, List.append_assoc]; rfl, hfr, hl8, ?_, ?_⟩
    · intro u hu
      rcases List.mem_append.mp hu with hu | hu
      · rcases List.mem_append.mp hu with hu | hu
        · exact (hT5 u hu).tk (tk7.trans tk8)
        · rw [List.mem_singleton.mp hu]
          exact ⟨u2, _, _, _, _, rfl, tk8 _ _ hu7, .df (tk8 _ _ hd7) n7 n1⟩
      · exact hT8 u hu
    · simp only [List.length_append, List.map_append, List.flatten_append, List.map_cons, List.flatten_cons, List.map_nil, List.flatten_nil, List.length_cons, List.length_nil, fn.len]
      omega
  · rintro σ H' ⟨x2, x3, x4, x5, x6, f1, f2, us, rfl, s5, e5, hP5, hl5, hT5, hc5⟩
    rw [List.drop_length] at hP5
    cases hP5
    rw [List.append_nil] at e5
    rw [e5] at hlen
    refine ⟨_, rfl, a, _, 3, _, rfl, rfl, SqT.of (s5 _ _ ha), atI_nat (j := 3) rfl, 1, rfl, _, rfl, ra, _, l, us, p.rows, p.o, rfl, s5 _ _ hra, hR.tk (TK.of s5), hl5, by omega, fun H6 new b6 hl6 hT6 hc6 => ?_⟩
    have tk6 := But.tk b6 hl5
    refine ⟨_, rfl, q l _ H6 (fun c o hc => b6 c o (ne_of_none hc nl) (s5 c o hc)) nl hl6 ?_ (by rw [List.length_append]; omega)⟩
    intro u hu
    rcases List.mem_append.mp hu with hu | hu
    · exact (hT5 u hu).tk tk6
    · exact hT6 u hu
/-! ### _law_same -/
theorem sc_same : FnScope ["_law_found", "_law_due"] ["_law_found", "_law_due"] (defScope (top 31)) := ⟨rfl, rfl, rfl, by decide +kernel, rfl, by decide +kernel, by decide +kernel⟩
def spSame : Sp := fun vs H Q _ => ∃ x : Str, vs = [.str x, .str x] ∧ Q (.bl true) H
theorem d_same (T : Txt w K mg) (S : Src K mg "_law_same" (top 31) ["_law_found", "_law_due"]) : Def P w K mg base 1 "_law_same" ["_law_found", "_law_due"] spSame := by
  refine S.ok sc_same (fun vs H Q E h => ?_) (fun f cdv A outer s H vs Q E hr h => ?_)
  · obtain ⟨x, rfl, _⟩ := h; rfl
  obtain ⟨x, rfl, q⟩ := h
  refine ⟨_, (pss_one (ps_ret (pe_and (pe_cB call_isi rfl T.z_isinstance bt_isinstance (pac (pv 0) (pac (pe_ty T.z_str bt_str rfl) pa_nil))) (pe_one (pe_cmpR op_eq (pv 0) (pv 1) (nomark _)))))), ?_⟩
  refine ⟨_, rfl, _, "str", "str", rfl, rfl, by decide, _, rfl, ifT (by decide) ?_⟩
  refine ⟨_, rfl, _, rfl, rfl, ?_⟩
  rw [word_yes]
  exact q
end
end K10

set_option Elab.async false
set_option linter.all false
set_option maxRecDepth 100000
set_option maxHeartbeats 4000000
namespace K10
open PySem L2
seal L2.PE L2.PS L2.PSs L2.PT L2.PW L2.PA L2.PG L2.PGs L2.PI L2.PO L2.PIfs L2.PC L2.OpR L2.CallR L2.IxR L2.SlR L2.PSet L2.UnR
section
variable {P : Program} {w : World} {K : PySem.W.Frag} {mg : Str → Option Value} {base : Heap}
theorem sc_right : FnScope ["_law_program_here", "_law_number", "_law_row", "_law_around", "_law_value_here"] ["_law_program_here"] (defScope (top 32)) := ⟨rfl, rfl, rfl, by decide +kernel, rfl, by decide +kernel, by decide +kernel⟩
def spRight : Sp := fun vs H Q _ => ∃ (v : V) (p : Pg), vs = [v] ∧ ProgIs H v p ∧ ∀ H', Same H H' → Q (.bl true) H'
theorem d_right (T : Txt w K mg) (D_written : Def P w K mg base 12 "written" ["program"] spWritten) (D_rowt : Def P w K mg base 2 "row_text" ["row"] spRowT) (D_valt : Def P w K mg base 2 "value_text" ["value"] spValT) (D_pl : Def P w K mg base 14 "_law_program_lines" ["_law_program_here"] spPL)
    (D_listed : Def P w K mg base 6 "_law_listed" ["_law_program_here"] spListed) (D_lrt : Def P w K mg base 5 "_law_row_text" ["_law_row"] spLRT) (D_lvt : Def P w K mg base 4 "_law_value_text" ["_law_value_here"] (spVT 3)) (D_same : Def P w K mg base 1 "_law_same" ["_law_found", "_law_due"] spSame)
    (S : Src K mg "_law_right" (top 32) ["_law_program_here"]) : Def P w K mg base 15 "_law_right" ["_law_program_here"] spRight := by
  refine S.ok sc_right (fun vs H Q E h => ?_) (fun f cdv A outer s H vs Q E hr h => ?_)
  · obtain ⟨v, p, rfl, _⟩ := h; rfl
  obtain ⟨v, p, rfl, hP, q⟩ := h
  refine ⟨_, (pss_cons (ps_if (pt_not (pt_val (pe_def (D_same.mono (by decide)) hr rfl (pac (pe_def (D_written.mono (by decide)) hr rfl (pac (pv 0) pa_nil)) (pac (pe_bm PySem.F.plainAttrs_str PySem.F.slot_str_join PySem.F.type_str_join mt_join pe_str (pac (pe_comp (N' := ["_law_line"]) (comp_scope (defScope (top 32)) (by rfl) (by decide +kernel) (by decide +kernel) (by decide +kernel) (by decide +kernel) (by decide +kernel) (by decide +kernel)) rfl (capt 1 [] (by rfl) (by rfl) (by decide +kernel)) (pi_list (pe_def (D_pl.mono (by decide)) hr rfl (pac (pv 0) pa_nil))) (fun _ _ _ => pg_name (i := 0) (show (["_law_line"] : List Str).Nodup by decide +kernel) rfl (Or.inl rfl) (Or.inr rfl)) (fun _ _ _ => pifs_nil) (fun _ _ _ => (pe_op op_add_str (pv 0) pe_str))) pa_nil)) pa_nil)))))
      (pss_one (ps_ret pe_bl)) pss_nil)
      (pss_cons (ps_for PassesOwn.never rfl (pi_list (pe_def (D_listed.mono (by decide)) hr rfl (pac (pv 0) pa_nil))) (pg_tup rfl (pgs_cons (pg_name (i := 1) sc_right.nd rfl (Or.inl rfl)) (pgs_cons (pg_name (i := 2) sc_right.nd rfl (Or.inl rfl)) (pgs_cons (pg_name (i := 3) sc_right.nd rfl (Or.inl rfl)) pgs_nil))))
      (pss_cons (ps_if (pt_not (pt_val (pe_def (D_same.mono (by decide)) hr rfl (pac (pe_def (D_rowt.mono (by decide)) hr rfl (pac (pv 2) pa_nil)) (pac (pe_def (D_lrt.mono (by decide)) hr rfl (pac (pv 2) pa_nil)) pa_nil)))))
      (pss_one (ps_ret pe_bl)) pss_nil)
      (pss_one (ps_if (pt_cmpR op_in_seq (pe_ix ix_tup (pv 2) pe_int (fun _ _ => rfl)) (pe_lst (pa_const [.str "set", .str "tell", .str "if"] (by rfl))) (by rfl))
      (pss_cons (ps_set (i := 4) sc_right.nd rfl (Or.inl rfl) (pe_ix ix_tup (pv 2) (pe_ix ix_list (pe_lst (pa_const [.int 1, .int 2] (by rfl))) (pe_cT call_int1 rfl T.z_int bt_int (pac (pe_cmpR op_eq (pe_ix ix_tup (pv 2) pe_int (fun _ _ => rfl)) pe_str (nomark _)) pa_nil)) (fun _ _ => rfl)) (fun _ _ => rfl)))
      (pss_one (ps_if (pt_not (pt_val (pe_def (D_same.mono (by decide)) hr rfl (pac (pe_def (D_valt.mono (by decide)) hr rfl (pac (pv 4) pa_nil)) (pac (pe_def (D_lvt.mono (by decide)) hr rfl (pac (pv 4) pa_nil)) pa_nil)))))
      (pss_one (ps_ret pe_bl)) pss_nil))) pss_nil))))
      (pss_one (ps_ret pe_bl)))), ?_⟩
  have l3 : (100000 : Nat) < sizeLine := by rw [sizeLine_eq]; decide
  have hlen := hP.len
  have hshort : ∀ x ∈ p.lines, x.length ≤ 400 := hP.short
  refine ⟨_, rfl, v, p, rfl, hP, fun H1 s1 => ?_⟩
  have hP1 := hP.tk (TK.of s1)
  refine ⟨rfl, _, rfl, v, p, rfl, hP1, fun l H2 s2 n2 hl2 => ?_⟩
  have s02 := s1.trans s2
  refine ⟨l, rfl, ⟨_, SqL.of hl2⟩, walk_lst (te := tOp rS (tVar 0) (tC (.str "\n"))) (cs := []) nl hl2 (by rw [List.length_map]; omega) (by rfl) (fun x H3 k3 hx3 s3 hk3 => ?_) (fun acc H3 hna s3 hl3 => ?_)⟩
  · obtain ⟨x, hx, rfl⟩ := List.mem_map.mp hx3
    have h1 : ("\n" : Str).length = 1 := rfl
    have := hshort x hx
    exact ⟨_, rfl, x, "\n", rfl, rfl, by omega, hk3 _ (Same.refl _)⟩
  rw [nl_map] at hl3
  refine ⟨"", acc, _, rfl, rfl, hl3, joinL_ok (by omega) hshort, joinL p.lines, rfl, ?_⟩
  have s03 := s02.trans s3
  refine ⟨true, rfl, ifF (by decide) ?_⟩
  refine ⟨_, rfl, v, p, rfl, hP.tk (TK.of s03), fun l4 us H4 s4 n4 hl4 hT4 hc4 => ?_⟩
  have s04 := s03.trans s4
  refine ⟨l4, rfl, ⟨_, SqL.of hl4⟩, ?_⟩
  refine for_list (xs := us) (fun i σ H' => ∃ (x1 x2 x3 x4 : Option V), σ = [some v, x1, x2, x3, x4] ∧ Same H4 H') ?_ ?_ ?_ ?_
  · exact ⟨_, _, _, _, rfl, Same.refl _⟩
  · rintro i σ H' hi ⟨x1, x2, x3, x4, rfl, s5⟩
    exact SqL.of (s5 _ _ hl4)
  · rintro i x σ H' hxi ⟨x1, x2, x3, x4, rfl, s5⟩
    obtain ⟨t, n, r, ar, ws, rfl, ht, hLR⟩ := hT4 x (List.mem_of_getElem? hxi)
    refine ⟨t, _, rfl, SqT.of (s5 _ _ ht), rfl, _, _, rfl, _, _, rfl, _, _, rfl, rfl, ?_⟩
    have hL5 := hLR.tk (TK.of s5)
    refine ⟨_, rfl, r, ws, rfl, hL5.hd, fun H6 s6 => ?_⟩
    refine ⟨_, rfl, r, ws, rfl, hL5.tk (TK.of s6), fun H7 s7 => ?_⟩
    refine ⟨joinW ws, rfl, true, rfl, ifF (by decide) ?_⟩
    have s57 := s5.trans (s6.trans s7)
    have hL7 := hLR.tk (TK.of s57)
    obtain ⟨a, wd, rest, rfl, ha, hk⟩ := hL7.value
    refine ⟨_, rfl, a, _, 0, _, rfl, rfl, SqT.of ha, atI_nat (j := 0) rfl, (by show 3 ≤ sizeLine; omega), fun u hu => ?_⟩
    have su := same_of_new hu (.lst (sti.map V.str))
    refine ⟨u, _, rfl, .inl (SqL.of upd_same), rfl, flat_strs sti, _, rfl, ?_⟩
    rcases hk with hno | hk
    · refine ifF (show inV (.str wd) (sti.map V.str) = false by rw [inS]; exact decide_eq_false hno) ?_
      exact ⟨_, _, _, _, rfl, s57.trans su⟩
    have hin : wd ∈ sti := by
      rcases hk with ⟨rfl, _⟩ | ⟨h, _⟩
      · decide
      · exact h
    refine ifT (show inV (.str wd) (sti.map V.str) = true by rw [inS]; exact decide_eq_true hin) ?_
    refine ⟨_, rfl, (by show 2 ≤ sizeLine; omega), fun u2 hu2 => ?_⟩
    have su2 := same_of_new hu2 (.lst [.int 1, .int 2])
    have sA := su.trans su2
    refine ⟨_, rfl, a, _, 0, _, rfl, rfl, SqT.of (sA _ _ ha), atI_nat (j := 0) rfl, rfl, .inr ⟨_, rfl, ?_⟩⟩
    rcases hk with ⟨rfl, x, y, ys, rfl, hv⟩ | ⟨_, hns, y, rs, ys, rfl, hv⟩
    · rw [word_yes]
      refine ⟨u2, _, 1, _, rfl, rfl, SqL.of upd_same, atI_nat (j := 1) rfl, a, _, 2, _, rfl, rfl, SqT.of (sA _ _ ha), atI_nat (j := 2) rfl, ?_⟩
      refine ⟨_, rfl, y, ys, rfl, hv.tk (TK.of sA), fun H8 s8 => ?_⟩
      refine ⟨_, rfl, y, ys, rfl, (hv.tk (TK.of sA)).tk (TK.of s8), by omega, fun H9 s9 => ?_⟩
      exact ⟨joinW ys, rfl, true, rfl, ifF (by decide) ⟨_, _, _, _, rfl, s57.trans (sA.trans (s8.trans s9))⟩⟩
    · rw [word_no hns]
      refine ⟨u2, _, 0, _, rfl, rfl, SqL.of upd_same, atI_nat (j := 0) rfl, a, _, 1, _, rfl, rfl, SqT.of (sA _ _ ha), atI_nat (j := 1) rfl, ?_⟩
      refine ⟨_, rfl, y, ys, rfl, hv.tk (TK.of sA), fun H8 s8 => ?_⟩
      refine ⟨_, rfl, y, ys, rfl, (hv.tk (TK.of sA)).tk (TK.of s8), by omega, fun H9 s9 => ?_⟩
      exact ⟨joinW ys, rfl, true, rfl, ifF (by decide) ⟨_, _, _, _, rfl, s57.trans (sA.trans (s8.trans s9))⟩⟩
  · rintro σ H' ⟨x1, x2, x3, x4, rfl, s5⟩
    exact q _ (s04.trans s5)
end
end K10

set_option Elab.async false
set_option linter.all false
set_option maxRecDepth 100000
set_option maxHeartbeats 4000000
namespace K10
open PySem L2
seal L2.PE L2.PS L2.PSs L2.PT L2.PW L2.PA L2.PG L2.PGs L2.PI L2.PO L2.PIfs L2.PC L2.OpR L2.CallR L2.IxR L2.SlR L2.PSet L2.UnR
/-- the names that rows may use -/
structure NmE (H : Hp) (N b l fu dr : Addr) (bs ls : List Str) (fus : List V) (ds : List Str) (ins : Bool) : Prop where
  n : H N = some (.tup [.ref b, .ref l, .ref fu, .ref dr, .bl ins])
  b : H b = some (.lst (bs.map V.str))
  l : H l = some (.lst (ls.map V.str))
  fu : H fu = some (.lst fus)
  dr : H dr = some (.lst (ds.map V.str))
  f : ∀ f ∈ fus, ∃ t x k, f = .ref t ∧ H t = some (.tup [.str x, .int k]) ∧ 0 ≤ k ∧ k ≤ 2 ∧ x.length ≤ 10
  bl : ∀ x ∈ bs, 1 ≤ x.length ∧ x.length ≤ 10
  ll : ∀ x ∈ ls, 1 ≤ x.length ∧ x.length ≤ 10
  dl : ∀ x ∈ ds, 1 ≤ x.length ∧ x.length ≤ 10
theorem NmE.kn {H H' : Hp} {N b l fu dr : Addr} {bs ls : List Str} {fus : List V} {ds : List Str} {ins : Bool} (k : Kn H H') (h : NmE H N b l fu dr bs ls fus ds ins) : NmE H' N b l fu dr bs ls fus ds ins := by
  have sn : ∀ (ws : List Str) (n : Int), HO.lst (ws.map V.str) ≠ .lst [.int n] := fun ws n z => strs_ne n (by injection z)
  refine ⟨k.tk _ _ h.n, k _ _ (sn bs) h.b, k _ _ (sn ls) h.l, k _ _ (fun n z => ?_) h.fu, k _ _ (sn ds) h.dr, fun f hf => ?_, h.bl, h.ll, h.dl⟩
  · injection z with z
    obtain ⟨t, _, _, e, _⟩ := h.f (.int n) (by rw [z]; simp)
    cases e
  · obtain ⟨t, x, m, e, ht, r⟩ := h.f f hf
    exact ⟨t, x, m, e, k.tk _ _ ht, r⟩
theorem mk1 {H : Hp} {u : Addr} {wd : Str} {v : V} {us : List Str} (h : H u = some (.tup [.str wd, v])) (hv : Vl H 3 v us) (hw : wd ∈ (["tell", "fail", "return"] : List Str)) : ∃ ws, PRow H (.ref u) ws := by
  have a : ∀ x ∈ (["tell", "fail", "return"] : List Str), x ∈ plains ∧ rforms x = some [("value" : Str)] ∧ x ≠ "set" := by decide +kernel
  obtain ⟨a1, a2, a3⟩ := a wd hw
  exact ⟨_, .parts (wss := [us]) h a1 a2 rfl (by show 1 ≤ 3; decide) (.cons (.inr hv) .nil) ⟨fun z => absurd z a3, fun _ => ⟨v, us, rfl, hv⟩⟩⟩
theorem mkS {H : Hp} {u : Addr} {wd x : Str} {v : V} {us : List Str} (h : H u = some (.tup [.str wd, .str x, v])) (hx : 1 ≤ x.length ∧ x.length ≤ 10) (hv : Vl H 3 v us) (hw : wd ∈ (["set", "push"] : List Str)) : ∃ ws, PRow H (.ref u) ws := by
  have a : ∀ x ∈ (["set", "push"] : List Str), x ∈ plains ∧ (∃ ks, rforms x = some ks ∧ ks.length = 2) ∧ x ≠ "tell" := by
    intro x hx
    rcases List.mem_cons.mp hx with rfl | hx
    · exact ⟨by decide, ⟨_, rfl, rfl⟩, by decide⟩
    · rw [List.mem_singleton.mp hx]; exact ⟨by decide, ⟨_, rfl, rfl⟩, by decide⟩
  obtain ⟨a1, ⟨ks, a2, a3⟩, a4⟩ := a wd hw
  exact ⟨_, .parts (wss := [[x], us]) h a1 a2 a3 (by show 2 ≤ 3; decide) (.cons (.inl ⟨x, rfl, rfl, hx.1, hx.2⟩) (.cons (.inr hv) .nil)) ⟨fun _ => ⟨_, v, us, rfl, hv⟩, fun z => absurd z a4⟩⟩
theorem mkP {H : Hp} {u : Addr} {wd x y : Str} (h : H u = some (.tup [.str wd, .str x, .str y])) (hx : 1 ≤ x.length ∧ x.length ≤ 10) (hy : 1 ≤ y.length ∧ y.length ≤ 10) (hw : wd ∈ (["pop", "ask"] : List Str)) : ∃ ws, PRow H (.ref u) ws := by
  have a : ∀ x ∈ (["pop", "ask"] : List Str), x ∈ plains ∧ (∃ ks, rforms x = some ks ∧ ks.length = 2) ∧ x ≠ "tell" ∧ x ≠ "set" := by
    intro x hx
    rcases List.mem_cons.mp hx with rfl | hx
    · exact ⟨by decide, ⟨_, rfl, rfl⟩, by decide, by decide⟩
    · rw [List.mem_singleton.mp hx]; exact ⟨by decide, ⟨_, rfl, rfl⟩, by decide, by decide⟩
  obtain ⟨a1, ⟨ks, a2, a3⟩, a4, a5⟩ := a wd hw
  exact ⟨_, .parts (wss := [[x], [y]]) h a1 a2 a3 (by show 2 ≤ 3; decide) (.cons (.inl ⟨x, rfl, rfl, hx.1, hx.2⟩) (.cons (.inl ⟨y, rfl, rfl, hy.1, hy.2⟩) .nil)) ⟨fun z => absurd z a5, fun z => absurd z a4⟩⟩
theorem mkU {H : Hp} {u : Addr} {x : Str} {v v' : V} {us us' : List Str} (h : H u = some (.tup [.str "put", .str x, v, v'])) (hx : 1 ≤ x.length ∧ x.length ≤ 10) (hv : Vl H 3 v us) (hv' : Vl H 3 v' us') : ∃ ws, PRow H (.ref u) ws :=
  ⟨_, .parts (wss := [[x], us, us']) h (by decide) rfl rfl (by show 3 ≤ 3; decide) (.cons (.inl ⟨x, rfl, rfl, hx.1, hx.2⟩) (.cons (.inr hv) (.cons (.inr hv') .nil))) ⟨fun z => absurd z (by decide), fun z => absurd z (by decide)⟩⟩
section
variable {P : Program} {w : World} {K : PySem.W.Frag} {mg : Str → Option Value} {base : Heap}
/-! ### _law_plain -/
theorem sc_plain : FnScope ["_law_state_here", "_law_names_here", "_law_boxes", "_law_lists", "_law_functions", "_law_doors", "_law_inside", "_law_kind", "_law_value_here", "_law_box", "_law_name", "_law_place", "_law_some", "_law_amount"] ["_law_state_here", "_law_names_here"] (defScope (top 20)) := ⟨rfl, rfl, rfl, by decide +kernel, rfl, by decide +kernel, by decide +kernel⟩
def spPlain : Sp := fun vs H Q _ => ∃ (p N b l fu dr : Addr) (bs ls : List Str) (fus : List V) (ds : List Str) (ins : Bool), vs = [.ref p, .ref N] ∧ Gen p H ∧ NmE H N b l fu dr bs ls fus ds ins ∧ ∀ (r : V) (H' : Hp), Ext p H H' → (∃ ws, PRow H' r ws) → Q r H'
theorem d_plain (T : Txt w K mg) (D_next : Def P w K mg base 1 "_law_next" ["_law_state_here", "_law_size"] spNext) (D_value : ∀ n : Nat, Def P w K mg base (n + 1) "_law_value" ["_law_state_here", "_law_deep", "_law_boxes", "_law_lists"] (spValue n))
    (S : Src K mg "_law_plain" (top 20) ["_law_state_here", "_law_names_here"]) : Def P w K mg base 5 "_law_plain" ["_law_state_here", "_law_names_here"] spPlain := by
  refine S.ok sc_plain (fun vs H Q E h => ?_) (fun f cdv A outer s H vs Q E hr h => ?_)
  · obtain ⟨p, N, b, l, fu, dr, bs, ls, fus, ds, ins, rfl, _⟩ := h; rfl
  obtain ⟨p, N, b, l, fu, dr, bs, ls, fus, ds, ins, rfl, g, hN, q⟩ := h
  refine ⟨_, (pss_cons (ps_asg (pv 1) (pg_tup rfl (pgs_cons (pg_name (i := 2) sc_plain.nd rfl (Or.inr rfl)) (pgs_cons (pg_name (i := 3) sc_plain.nd rfl (Or.inr rfl)) (pgs_cons (pg_name (i := 4) sc_plain.nd rfl (Or.inl rfl)) (pgs_cons (pg_name (i := 5) sc_plain.nd rfl (Or.inl rfl)) (pgs_cons (pg_name (i := 6) sc_plain.nd rfl (Or.inl rfl)) pgs_nil)))))))
      (pss_cons (ps_set (i := 7) sc_plain.nd rfl (Or.inl rfl) (pe_def (D_next.mono (by decide)) hr rfl (pac (pv 0) (pac pe_int pa_nil))))
      (pss_cons (ps_set (i := 8) sc_plain.nd rfl (Or.inl rfl) (pe_def ((D_value 3).mono (by decide)) hr rfl (pac (pv 0) (pac (pe_op op_add pe_int (pe_def (D_next.mono (by decide)) hr rfl (pac (pv 0) (pac pe_int pa_nil)))) (pac (pv 2) (pac (pv 3) pa_nil))))))
      (pss_cons (ps_if (pt_cmpR op_eq (pe_cB call_len_seq rfl T.z_len bt_len (pac (pv 2) pa_nil)) pe_int (nomark _))
      (pss_one (ps_ret (pe_tup (pac pe_str (pac (pv 8) pa_nil))))) pss_nil)
      (pss_cons (ps_set (i := 9) sc_plain.nd rfl (Or.inl rfl) (pe_ix ix_list (pv 2) (pe_def (D_next.mono (by decide)) hr rfl (pac (pv 0) (pac (pe_cB call_len_seq rfl T.z_len bt_len (pac (pv 2) pa_nil)) pa_nil))) (fun _ _ => rfl)))
      (pss_cons (ps_if (pt_cut (PW.pt (pw_and (pt_cmpR op_lt (pv 7) pe_int (nomark _)) (pw_and1 (pt_cmpR op_gt (pe_cB call_len_seq rfl T.z_len bt_len (pac (pv 3) pa_nil)) pe_int (nomark _))))))
      (pss_cons (ps_set (i := 10) sc_plain.nd rfl (Or.inl rfl) (pe_ix ix_list (pv 3) (pe_def (D_next.mono (by decide)) hr rfl (pac (pv 0) (pac (pe_cB call_len_seq rfl T.z_len bt_len (pac (pv 3) pa_nil)) pa_nil))) (fun _ _ => rfl)))
      (pss_cons (ps_set (i := 11) sc_plain.nd rfl (Or.inl rfl) (pe_ix ix_list (pe_lst (pac (pe_tup (pac pe_str (pac (pe_def (D_next.mono (by decide)) hr rfl (pac (pv 0) (pac pe_int pa_nil))) pa_nil))) (pac (pe_def ((D_value 3).mono (by decide)) hr rfl (pac (pv 0) (pac pe_int (pac (pv 2) (pac (pv 3) pa_nil))))) pa_nil))) (pe_def (D_next.mono (by decide)) hr rfl (pac (pv 0) (pac pe_int pa_nil))) (fun _ _ => rfl)))
      (pss_cons (ps_set (i := 12) sc_plain.nd rfl (Or.inl rfl) (pe_lst (pac (pe_tup (pac pe_str (pac (pv 10) (pac (pv 8) pa_nil)))) (pac (pe_tup (pac pe_str (pac (pv 10) (pac (pv 8) pa_nil)))) (pac (pe_tup (pac pe_str (pac (pv 9) (pac (pv 10) pa_nil)))) (pac (pe_tup (pac pe_str (pac (pv 10) (pac (pv 11) (pac (pv 8) pa_nil))))) pa_nil))))))
      (pss_one (ps_ret (pe_ix ix_list (pv 12) (pe_def (D_next.mono (by decide)) hr rfl (pac (pv 0) (pac pe_int pa_nil))) (fun _ _ => rfl))))))) pss_nil)
      (pss_cons (ps_if (pt_cut (PW.pt (pw_and (pt_cmpR op_lt (pv 7) pe_int (nomark _)) (pw_and1 (pt_cmpR op_gt (pe_cB call_len_seq rfl T.z_len bt_len (pac (pv 4) pa_nil)) pe_int (nomark _))))))
      (pss_cons (ps_asg (pe_ix ix_list (pv 4) (pe_def (D_next.mono (by decide)) hr rfl (pac (pv 0) (pac (pe_cB call_len_seq rfl T.z_len bt_len (pac (pv 4) pa_nil)) pa_nil))) (fun _ _ => rfl)) (pg_tup rfl (pgs_cons (pg_name (i := 10) sc_plain.nd rfl (Or.inl rfl)) (pgs_cons (pg_name (i := 13) sc_plain.nd rfl (Or.inl rfl)) pgs_nil))))
      (pss_one (ps_ret (pe_tup (pac pe_str (pac (pv 9) (pac (pv 10) (pac (pe_cT call_tuple_of rfl T.z_tuple bt_tuple (pac (pe_comp (N' := ["_law_k", "_law_state_here", "_law_boxes", "_law_lists"]) (comp_scope (defScope (top 20)) (by rfl) (by decide +kernel) (by decide +kernel) (by decide +kernel) (by decide +kernel) (by decide +kernel) (by decide +kernel)) rfl (capt 1 [0, 2, 3] (by rfl) (by rfl) (by decide +kernel)) (pi_range1 rfl T.z_range (pac (pv 13) pa_nil)) (fun _ _ _ => pg_name (i := 0) (show (["_law_k", "_law_state_here", "_law_boxes", "_law_lists"] : List Str).Nodup by decide +kernel) rfl (Or.inl rfl) (Or.inr rfl)) (fun _ _ _ => pifs_nil) (fun _ _ _ => (pe_def ((D_value 3).mono (by decide)) hr rfl (pac (pv 1) (pac pe_int (pac (pv 2) (pac (pv 3) pa_nil))))))) pa_nil)) pa_nil)))))))) pss_nil)
      (pss_cons (ps_if (pt_cut (PW.pt (pw_and (pt_cmpR op_eq (pv 7) pe_int (nomark _)) (pw_and1 (pt_cmpR op_gt (pe_cB call_len_seq rfl T.z_len bt_len (pac (pv 5) pa_nil)) pe_int (nomark _))))))
      (pss_one (ps_ret (pe_tup (pac pe_str (pac (pv 9) (pac (pe_ix ix_list (pv 5) (pe_def (D_next.mono (by decide)) hr rfl (pac (pv 0) (pac (pe_cB call_len_seq rfl T.z_len bt_len (pac (pv 5) pa_nil)) pa_nil))) (fun _ _ => rfl)) pa_nil)))))) pss_nil)
      (pss_cons (ps_if (pt_cmpR op_eq (pv 7) pe_int (nomark _))
      (pss_one (ps_ret (pe_tup (pac pe_str (pac (pv 8) pa_nil))))) pss_nil)
      (pss_cons (ps_if (pt_cut (PW.pt (pw_and (pt_cmpR op_eq (pv 7) pe_int (nomark _)) (pw_and1 (pt_val (pv 6))))))
      (pss_one (ps_ret (pe_tup (pac pe_str (pac (pv 8) pa_nil))))) pss_nil)
      (pss_cons (ps_if (pt_cut (PW.pt (pw_and (pt_cmpR op_eq (pv 7) pe_int (nomark _)) (pw_and1 (pt_cmpR op_eq (pe_def (D_next.mono (by decide)) hr rfl (pac (pv 0) (pac pe_int pa_nil))) pe_int (nomark _))))))
      (pss_one (ps_ret (pe_tup (pac pe_str (pac (pe_ix ix_list (pe_lst (pac (pe_tup (pac pe_str (pac (pe_def (D_next.mono (by decide)) hr rfl (pac (pv 0) (pac pe_int pa_nil))) pa_nil))) (pac (pv 8) pa_nil))) (pe_def (D_next.mono (by decide)) hr rfl (pac (pv 0) (pac pe_int pa_nil))) (fun _ _ => rfl)) pa_nil))))) pss_nil)
      (pss_one (ps_ret (pe_tup (pac pe_str (pac (pv 9) (pac (pv 8) pa_nil))))))))))))))))), ?_⟩
  have l3 : (100 : Nat) < sizeLine := by decide
  have fin1 : ∀ {H4 : Hp} (e4 : Ext p H H4) {u : Addr} (hu : H4 u = none) {wd : Str} {y : V} {us : List Str}, Vl H4 3 y us → wd ∈ (["tell", "fail", "return"] : List Str) → Q (.ref u) (upd H4 u (.tup [.str wd, y])) := fun {H4} e4 {u} hu {wd y us} hv hw => q _ _ (e4.trans (Ext.new e4.gen hu _)) (mk1 upd_same (hv.tk (Ext.kn e4.gen (Ext.new e4.gen hu _)).tk) hw)
  refine ⟨_, rfl, N, _, rfl, SqT.of hN.n, rfl, _, _, rfl, _, _, rfl, _, _, rfl, _, _, rfl, _, _, rfl, rfl, ?_⟩
  refine ⟨_, rfl, p, 16, rfl, g, by decide, fun kd H1 k0 k1 e1 => ?_⟩
  refine ⟨_, rfl, _, rfl, p, 3, rfl, e1.gen, by decide, fun r3 H2 r30 r31 e2 => ?_⟩
  have e02 := e1.trans e2
  have n2 := hN.kn (Ext.kn g e02)
  refine ⟨_, _, rfl, rfl, _, rfl, _, rfl, p, 1 + r3, b, l, bs, ls, rfl, e2.gen, by omega, by omega, n2.b, n2.l, n2.bl, n2.ll, fun vh vws H3 e3 hvh => ?_⟩
  have e03 := e02.trans e3
  have n3 := hN.kn (Ext.kn g e03)
  have vh_ : ∀ {H' : Hp}, Ext p H3 H' → Vl H' 3 vh vws := fun e => hvh.tk (Ext.kn e3.gen e).tk
  refine ⟨_, rfl, b, _, rfl, .inl (SqL.of n3.b), rfl, _, rfl, ite2 (fun c => ?_) (fun c => ?_)⟩
  · exact ⟨_, rfl, (by show 2 ≤ sizeLine; omega), fun u hu => fin1 e03 hu hvh (by decide)⟩
  have hbne : (0 : Int) < ((bs.map V.str).length : Int) := by
    cases bs with
    | nil => exact absurd (decide_eq_true rfl) c
    | cons x r => rw [List.map_cons, List.length_cons]; omega
  refine ⟨_, rfl, _, rfl, _, rfl, b, _, rfl, .inl (SqL.of n3.b), p, _, rfl, e3.gen, hbne, fun r4 H4 r40 r41 e4 => ?_⟩
  have e04 := e03.trans e4
  have n4 := hN.kn (Ext.kn g e04)
  obtain ⟨bx, hbx, hbxm⟩ := at_str (ns := bs) r40 (by rw [List.length_map] at r41; exact r41)
  refine ⟨b, _, r4, _, rfl, rfl, SqL.of n4.b, hbx, ?_⟩
  -- lists
  refine ⟨fun t H' => H4 = H' ∧ (t = true → (0 : Int) < ((ls.map V.str).length : Int)), ?_, ?_⟩
  · refine ⟨_, rfl, _, _, rfl, rfl, _, rfl, ite2 (fun _ => ?_) (fun _ => ⟨rfl, fun z => by cases z⟩)⟩
    exact ⟨_, rfl, l, _, rfl, .inl (SqL.of n4.l), _, _, rfl, rfl, _, rfl, rfl, fun z => of_decide_eq_true z⟩
  rintro t H' ⟨rfl, ht⟩
  refine ite2 (fun ct => ?_) (fun _ => ?_)
  · refine ⟨_, rfl, _, rfl, _, rfl, l, _, rfl, .inl (SqL.of n4.l), p, _, rfl, e4.gen, ht ct, fun r5 H5 r50 r51 e5 => ?_⟩
    have e05 := e04.trans e5
    have n5 := hN.kn (Ext.kn g e05)
    obtain ⟨lx, hlx, hlxm⟩ := at_str (ns := ls) r50 (by rw [List.length_map] at r51; exact r51)
    refine ⟨l, _, r5, _, rfl, rfl, SqL.of n5.l, hlx, ?_⟩
    refine ⟨_, rfl, p, 4, rfl, e5.gen, by decide, fun r6 H6 r60 r61 e6 => ⟨(by show 2 ≤ sizeLine; omega), fun u1 hu1 => ?_⟩⟩
    have e06 := (e05.trans e6).trans (Ext.new e6.gen hu1 (.tup [.str "number", .int r6]))
    have x06 := (e4.trans (e5.trans e6)).trans (Ext.new e6.gen hu1 (.tup [.str "number", .int r6]))
    have hu1v : Vl _ 3 (.ref u1) _ := .num (upd_same (H := H6) (a := u1) (o := .tup [.str "number", .int r6])) r60 (by omega)
    have n6 := hN.kn (Ext.kn g e06)
    refine ⟨_, rfl, _, rfl, _, rfl, p, 2, b, l, bs, ls, rfl, e06.gen, by decide, by decide, n6.b, n6.l, n6.bl, n6.ll, fun v7 w7 H7 e7 hv7 => ⟨(by show 2 ≤ sizeLine; omega), fun u2 hu2 => ?_⟩⟩
    have e08 := (e06.trans e7).trans (Ext.new e7.gen hu2 (.lst [.ref u1, v7]))
    have x08 := (x06.trans e7).trans (Ext.new e7.gen hu2 (.lst [.ref u1, v7]))
    have y78 := Ext.new e7.gen hu2 (.lst [.ref u1, v7])
    refine ⟨_, rfl, p, 2, rfl, e08.gen, by decide, fun r8 H8 r80 r81 e8 => ?_⟩
    have u2p : u2 ≠ p := e7.gen.ne hu2
    obtain ⟨pl, hpl, hplm⟩ := at_mem (xs := [.ref u1, v7]) r80 r81
    have hplv : ∃ us, Vl H8 3 pl us := by
      simp only [List.mem_cons, List.not_mem_nil, or_false] at hplm
      rcases hplm with rfl | rfl
      · exact ⟨_, hu1v.tk (Ext.kn e06.gen (e7.trans (y78.trans e8))).tk⟩
      · exact ⟨_, hv7.tk (Ext.kn e7.gen (y78.trans e8)).tk⟩
    obtain ⟨plw, hplv⟩ := hplv
    refine ⟨u2, _, r8, _, rfl, rfl, SqL.of (e8.but _ _ u2p upd_same), hpl, ?_⟩
    have e09 := e08.trans e8
    have x09 := x08.trans e8
    have hbx10 := n4.bl bx hbxm
    have hlx10 := n4.ll lx hlxm
    refine ⟨_, rfl, _, rfl, (by show 3 ≤ sizeLine; omega), fun w1 hw1 => ?_⟩
    have g1 := Ext.new e09.gen hw1 (.tup [.str "push", .str lx, vh])
    have f1 := e09.trans g1
    refine ⟨_, rfl, _, rfl, (by show 3 ≤ sizeLine; omega), fun w2 hw2 => ?_⟩
    have g2 := Ext.new f1.gen hw2 (.tup [.str "push", .str lx, vh])
    have f2 := f1.trans g2
    refine ⟨_, rfl, _, rfl, (by show 3 ≤ sizeLine; omega), fun w3 hw3 => ?_⟩
    have g3 := Ext.new f2.gen hw3 (.tup [.str "pop", .str bx, .str lx])
    have f3 := f2.trans g3
    refine ⟨_, rfl, _, rfl, _, rfl, (by show 4 ≤ sizeLine; omega), fun w4 hw4 => ?_⟩
    have g4 := Ext.new f3.gen hw4 (.tup [.str "put", .str lx, pl, vh])
    have f4 := f3.trans g4
    refine ⟨(by show 4 ≤ sizeLine; omega), fun sm hsm => ?_⟩
    have g5 := Ext.new f4.gen hsm (.lst [.ref w1, .ref w2, .ref w3, .ref w4])
    have f5 := f4.trans g5
    have smp : sm ≠ p := f4.gen.ne hsm
    refine ⟨_, rfl, _, rfl, p, 4, rfl, f5.gen, by decide, fun r9 H9 r90 r91 e9 => ?_⟩
    obtain ⟨rw', hrw, hrm⟩ := at_mem (xs := [V.ref w1, .ref w2, .ref w3, .ref w4]) r90 r91
    refine ⟨sm, _, r9, _, rfl, rfl, SqL.of (e9.but _ _ smp upd_same), hrw, ?_⟩
    have t59 : TK _ H9 := (Ext.kn f4.gen g5).tk.trans (Ext.kn f5.gen e9).tk
    have t4 := (Ext.kn f3.gen g4).tk
    have t3 := (Ext.kn f2.gen g3).tk
    have t2 := (Ext.kn f1.gen g2).tk
    refine q _ _ (f5.trans e9) ?_
    simp only [List.mem_cons, List.not_mem_nil, or_false] at hrm
    rcases hrm with rfl | rfl | rfl | rfl
    · exact mkS (t59 _ _ (t4 _ _ (t3 _ _ (t2 _ _ upd_same)))) hlx10 (vh_ (x09.trans (g1.trans (g2.trans (g3.trans (g4.trans (g5.trans e9))))))) (by decide)
    · exact mkS (t59 _ _ (t4 _ _ (t3 _ _ upd_same))) hlx10 (vh_ (x09.trans (g1.trans (g2.trans (g3.trans (g4.trans (g5.trans e9))))))) (by decide)
    · exact mkP (t59 _ _ (t4 _ _ upd_same)) hbx10 hlx10 (by decide)
    · exact mkU (t59 _ _ upd_same) hlx10 (hplv.tk (Ext.kn e8.gen (g1.trans (g2.trans (g3.trans (g4.trans (g5.trans e9)))))).tk) (vh_ (x09.trans (g1.trans (g2.trans (g3.trans (g4.trans (g5.trans e9)))))))
  -- calls
  refine ⟨fun t H' => H4 = H' ∧ (t = true → (0 : Int) < (fus.length : Int)), ?_, ?_⟩
  · refine ⟨_, rfl, _, _, rfl, rfl, _, rfl, ite2 (fun _ => ?_) (fun _ => ⟨rfl, fun z => by cases z⟩)⟩
    exact ⟨_, rfl, fu, _, rfl, .inl (SqL.of n4.fu), _, _, rfl, rfl, _, rfl, rfl, fun z => of_decide_eq_true z⟩
  rintro t H' ⟨rfl, ht⟩
  refine ite2 (fun ct => ?_) (fun _ => ?_)
  · refine ⟨_, rfl, _, rfl, _, rfl, fu, _, rfl, .inl (SqL.of n4.fu), p, _, rfl, e4.gen, ht ct, fun r5 H5 r50 r51 e5 => ?_⟩
    have e05 := e04.trans e5
    have n5 := hN.kn (Ext.kn g e05)
    obtain ⟨fx, hfx, hfm⟩ := at_mem (xs := fus) r50 r51
    obtain ⟨ft, fn, fk, rfl, hft, fk0, fk2, hfn10⟩ := n5.f fx hfm
    refine ⟨fu, _, r5, _, rfl, rfl, SqL.of n5.fu, hfx, ft, _, rfl, SqT.of hft, rfl, _, _, rfl, _, _, rfl, rfl, ?_⟩
    refine ⟨_, rfl, _, rfl, _, rfl, fk, rfl, by omega, by omega, fun acc hacc => ?_⟩
    have accp : acc ≠ p := e5.gen.ne hacc
    have ea := Ext.new e5.gen hacc (.lst [])
    refine ⟨fun i m σ2 ys H2 => m = fk.toNat - i ∧ i ≤ fk.toNat ∧ (∃ y0, σ2 = [y0, some (.ref p), some (.ref b), some (.ref l)]) ∧ ys.length = i ∧ (∃ wss, Paired (Vl H2 3) ys wss) ∧ H2 acc = some (.lst ys) ∧ Ext p H5 H2, ⟨_, rfl, Nat.zero_le _, ⟨_, rfl⟩, rfl, ⟨[], .nil⟩, upd_same, ea⟩, ?_⟩
    rintro i _ σ2 ys H2' ⟨rfl, hi, ⟨y0, rfl⟩, hyl, ⟨wss, hwss⟩, hac, ex⟩
    refine ⟨hac, ?_⟩
    by_cases hlt : i < fk.toNat
    · refine .inr ⟨hlt, by omega, ?_⟩
      rintro x H3' ⟨rfl, rfl⟩
      have nx := hN.kn (Ext.kn g (e05.trans ex))
      refine ⟨_, rfl, _, rfl, _, rfl, p, 2, b, l, bs, ls, rfl, ex.gen, by decide, by decide, nx.b, nx.l, nx.bl, nx.ll, fun v7 w7 H7 e7 hv7 => ?_⟩
      have hac7 := e7.but _ _ accp hac
      have tku : TK H7 (upd H7 acc (.lst (ys ++ [v7]))) := fun c xs hc => by rw [upd_ne (ne_of hc hac7 (by intro z; cases z))]; exact hc
      have tk37 := (Ext.kn ex.gen e7).tk
      refine ⟨hac7, _, (by omega : fk.toNat - (i + 1) < fk.toNat - i), rfl, hlt, ⟨_, rfl⟩, by rw [List.length_append, hyl]; rfl, ⟨wss ++ [w7], paired_app (paired_imp (fun _ _ h => h.tk (tk37.trans tku)) hwss) (.cons (hv7.tk tku) .nil)⟩, upd_same, ⟨fun b' o' hb' h => ?_, ?_⟩⟩
      · rw [upd_ne (ne_of_none h hacc)]; exact (ex.trans e7).but _ _ hb' h
      · obtain ⟨n', hp', r'⟩ := e7.gen
        exact ⟨n', by rw [upd_ne (Ne.symm accp)]; exact hp', r'⟩
    · obtain rfl : i = fk.toNat := by omega
      refine .inl ⟨Nat.le_refl _, ?_⟩
      refine ⟨acc, _, rfl, .inl ⟨SqL.of hac, fun u1 hu1 => ?_⟩⟩
      have e9 := (e05.trans ex).trans (Ext.new ex.gen hu1 (.tup ys))
      refine ⟨(by show 4 ≤ sizeLine; omega), fun u hu => q _ _ (e9.trans (Ext.new e9.gen hu _)) ?_⟩
      have tk1 := (Ext.kn ex.gen (Ext.new ex.gen hu1 (.tup ys))).tk
      have tk2 := (Ext.kn e9.gen (Ext.new e9.gen hu (.tup [.str "call", .str bx, .str fn, .ref u1]))).tk
      exact ⟨_, .call upd_same (n4.bl bx hbxm).2 hfn10 (tk2 _ _ upd_same) (by omega) (paired_imp (fun _ _ h => h.tk (tk1.trans tk2)) hwss)⟩
  -- doors
  refine ⟨fun t H' => H4 = H' ∧ (t = true → (0 : Int) < ((ds.map V.str).length : Int)), ?_, ?_⟩
  · refine ⟨_, rfl, rfl, _, rfl, ite2 (fun _ => ?_) (fun _ => ⟨rfl, fun z => by cases z⟩)⟩
    exact ⟨_, rfl, dr, _, rfl, .inl (SqL.of n4.dr), _, _, rfl, rfl, _, rfl, rfl, fun z => of_decide_eq_true z⟩
  rintro t H' ⟨rfl, ht⟩
  refine ite2 (fun ct => ?_) (fun _ => ?_)
  · refine ⟨_, rfl, _, rfl, _, rfl, _, rfl, dr, _, rfl, .inl (SqL.of n4.dr), p, _, rfl, e4.gen, ht ct, fun r5 H5 r50 r51 e5 => ?_⟩
    have e05 := e04.trans e5
    have n5 := hN.kn (Ext.kn g e05)
    obtain ⟨dx, hdx, hdm⟩ := at_str (ns := ds) r50 (by rw [List.length_map] at r51; exact r51)
    refine ⟨dr, _, r5, _, rfl, rfl, SqL.of n5.dr, hdx, (by show 3 ≤ sizeLine; omega), fun u hu => ?_⟩
    exact q _ _ (e05.trans (Ext.new e05.gen hu _)) (mkP upd_same (n4.bl bx hbxm) (n4.dl dx hdm) (by decide))
  refine ⟨_, rfl, rfl, _, rfl, ite2 (fun _ => ?_) (fun _ => ?_)⟩
  · exact ⟨_, rfl, (by show 2 ≤ sizeLine; omega), fun u hu => fin1 e04 hu (vh_ e4) (by decide)⟩
  refine ⟨fun t H' => H4 = H', ?_, ?_⟩
  · exact ⟨_, rfl, rfl, _, rfl, ite2 (fun _ => ⟨_, rfl, _, rfl, rfl⟩) (fun _ => rfl)⟩
  rintro t H' rfl
  refine ite2 (fun ct => ?_) (fun _ => ?_)
  · exact ⟨_, rfl, (by show 2 ≤ sizeLine; omega), fun u hu => fin1 e04 hu (vh_ e4) (by decide)⟩
  refine ⟨fun t H' => Ext p H4 H', ?_, ?_⟩
  · refine ⟨_, rfl, rfl, _, rfl, ite2 (fun _ => ?_) (fun _ => Ext.refl e4.gen)⟩
    exact ⟨_, rfl, p, 2, rfl, e4.gen, by decide, fun r5 H5 _ _ e5 => ⟨rfl, _, rfl, e5⟩⟩
  intro t H5 e5
  have e05 := e04.trans e5
  refine ite2 (fun ct => ?_) (fun _ => ?_)
  · refine ⟨_, rfl, p, 9, rfl, e5.gen, by decide, fun r6 H6 r60 r61 e6 => ⟨(by show 2 ≤ sizeLine; omega), fun u1 hu1 => ?_⟩⟩
    have hu1v : Vl _ 3 (.ref u1) _ := .num (upd_same (H := H6) (a := u1) (o := .tup [.str "number", .int r6])) r60 (by omega)
    have x06 := (e4.trans (e5.trans e6)).trans (Ext.new e6.gen hu1 (.tup [.str "number", .int r6]))
    have e06 := (e05.trans e6).trans (Ext.new e6.gen hu1 (.tup [.str "number", .int r6]))
    refine ⟨_, rfl, (by show 2 ≤ sizeLine; omega), fun u2 hu2 => ?_⟩
    have y67 := Ext.new e06.gen hu2 (.lst [.ref u1, vh])
    have e07 := e06.trans y67
    have u2p : u2 ≠ p := e06.gen.ne hu2
    refine ⟨_, rfl, p, 2, rfl, e07.gen, by decide, fun r8 H8 r80 r81 e8 => ?_⟩
    obtain ⟨pl, hpl, hplm⟩ := at_mem (xs := [.ref u1, vh]) r80 r81
    have hplv : ∃ us, Vl H8 3 pl us := by
      simp only [List.mem_cons, List.not_mem_nil, or_false] at hplm
      rcases hplm with rfl | rfl
      · exact ⟨_, hu1v.tk (Ext.kn e06.gen (y67.trans e8)).tk⟩
      · exact ⟨_, vh_ (x06.trans (y67.trans e8))⟩
    obtain ⟨plw, hplv⟩ := hplv
    refine ⟨u2, _, r8, _, rfl, rfl, SqL.of (e8.but _ _ u2p upd_same), hpl, (by show 2 ≤ sizeLine; omega), fun u hu => fin1 (e07.trans e8) hu hplv (by decide)⟩
  · exact ⟨_, rfl, _, rfl, (by show 3 ≤ sizeLine; omega), fun u hu => q _ _ (e05.trans (Ext.new e05.gen hu _)) (mkS upd_same (n4.bl bx hbxm) (vh_ ((e4.trans e5).trans (Ext.new e5.gen hu _))) (by decide))⟩
end
end K10

set_option Elab.async false
set_option linter.all false
set_option maxRecDepth 100000
set_option maxHeartbeats 4000000
namespace K10
open PySem L2
seal L2.PE L2.PS L2.PSs L2.PT L2.PW L2.PA L2.PG L2.PGs L2.PI L2.PO L2.PIfs L2.PC L2.OpR L2.CallR L2.IxR L2.SlR L2.PSet L2.UnR
theorem tk_upd {H : Hp} {a : Addr} {xs : List V} {o : HO} (h : H a = some (.lst xs)) : TK H (upd H a o) := fun b ys hb => by
  rw [upd_ne (ne_of hb h (by intro z; cases z))]
  exact hb
def cC : Nat → Nat
  | 0 => 1
  | d + 1 => 5 * cC d + 5
theorem cC_pos : ∀ d, 1 ≤ cC d
  | 0 => Nat.le_refl 1
  | d + 1 => by show 1 ≤ 5 * cC d + 5; omega
theorem le_len (cs : List V) (o : Lns) : (els cs o).length ≤ o.length + 1 := els_len cs o
/-- all is kept but the two lists of one number -/
structure E2 (p q : Addr) (H H' : Hp) : Prop where
  but : ∀ c o, c ≠ p → c ≠ q → H c = some o → H' c = some o
  gen : Gen p H'
  lf : ∃ n : Int, H' q = some (.lst [.int n])
theorem E2.trans {p q : Addr} {H H1 H2 : Hp} (a : E2 p q H H1) (b : E2 p q H1 H2) : E2 p q H H2 := ⟨fun c o h1 h2 h => b.but c o h1 h2 (a.but c o h1 h2 h), b.gen, b.lf⟩
theorem E2.kn {p q : Addr} {H H' : Hp} (g : Gen p H) (l : ∃ n : Int, H q = some (.lst [.int n])) (e : E2 p q H H') : Kn H H' := fun a o n h => e.but a o (fun z => by
  obtain ⟨k, hp, _⟩ := g
  rw [z, hp] at h
  injection h with h
  exact n k h.symm) (fun z => by
  obtain ⟨k, hp⟩ := l
  rw [z, hp] at h
  injection h with h
  exact n k h.symm) h
theorem E2.of {p q : Addr} {H H' : Hp} (n : q ≠ p) (l : ∃ n : Int, H q = some (.lst [.int n])) (e : Ext p H H') : E2 p q H H' := ⟨fun c o h1 _ h => e.but c o h1 h, e.gen, let ⟨k, h⟩ := l; ⟨k, e.but q _ n h⟩⟩
theorem E2.set {p q : Addr} {H : Hp} (n : q ≠ p) (g : Gen p H) (k : Int) : E2 p q H (upd H q (.lst [.int k])) := ⟨fun c o _ h2 h => by rw [upd_ne h2]; exact h, let ⟨m, hp, r⟩ := g; ⟨m, by rw [upd_ne (Ne.symm n)]; exact hp, r⟩, ⟨k, upd_same⟩⟩
theorem E2.fo {p q fo : Addr} {H H' : Hp} {o : HO} (e : E2 p q H H') (h : H fo = none) (h1 : fo ≠ p) (h2 : fo ≠ q) : E2 p q H (upd H' fo o) := ⟨fun c u a b k => by rw [upd_ne (ne_of_none k h)]; exact e.but c u a b k,
  let ⟨m, hp, r⟩ := e.gen; ⟨m, by rw [upd_ne (Ne.symm h1)]; exact hp, r⟩, let ⟨k, hq⟩ := e.lf; ⟨k, by rw [upd_ne (Ne.symm h2)]; exact hq⟩⟩
section
variable {P : Program} {w : World} {K : PySem.W.Frag} {mg : Str → Option Value} {base : Heap}
/-! ### _law_rows -/
theorem sc_lrows : FnScope ["_law_state_here", "_law_names_here", "_law_deep", "_law_most", "_law_left", "_law_found", "_law_k", "_law_boxes", "_law_kind", "_law_box", "_law_rows_here", "_law_value_here", "_law_less"] ["_law_state_here", "_law_names_here", "_law_deep", "_law_most", "_law_left"] (defScope (top 21)) := ⟨rfl, rfl, rfl, by decide +kernel, rfl, by decide +kernel, by decide +kernel⟩
def spRg (D : Nat) : Sp := fun vs H Q _ => ∃ (p N b l fu dr : Addr) (bs ls : List Str) (fus : List V) (ds : List Str) (ins : Bool) (q : Addr) (deep most : Int), vs = [.ref p, .ref N, .int deep, .int most, .ref q] ∧ Gen p H ∧ NmE H N b l fu dr bs ls fus ds ins ∧ (∃ n : Int, H q = some (.lst [.int n])) ∧ q ≠ p ∧ deep = 5 - (D : Int) ∧ 1 ≤ D ∧
  0 ≤ most ∧ most ≤ 6 ∧ ∀ (R : Addr) (rs : List V) (H' : Hp), E2 p q H H' → H' R = some (.tup rs) → (rs.length : Int) ≤ 2 * most → (∃ o, Rs H' (D - 1) rs o ∧ o.length ≤ most.toNat * cC (D - 1)) → Q (.ref R) H'
def spRgL (D : Nat) : Sp := fun vs H Q E => ∃ D', D = D' + 1 ∧ spRg D' vs H Q E
theorem d_lrows1 {D j : Nat} (T : Txt w K mg) (D_next : Def P w K mg base 1 "_law_next" ["_law_state_here", "_law_size"] spNext) (D_value : ∀ n : Nat, Def P w K mg base (n + 1) "_law_value" ["_law_state_here", "_law_deep", "_law_boxes", "_law_lists"] (spValue n))
    (D_plain : Def P w K mg base 5 "_law_plain" ["_law_state_here", "_law_names_here"] spPlain) (S : Src K mg "_law_rows" (top 21) ["_law_state_here", "_law_names_here", "_law_deep", "_law_most", "_law_left"])
    (IH : Def P w K mg base (j + 5) "_law_rows" ["_law_state_here", "_law_names_here", "_law_deep", "_law_most", "_law_left"] (spRgL D)) : Def P w K mg base (j + 6) "_law_rows" ["_law_state_here", "_law_names_here", "_law_deep", "_law_most", "_law_left"] (spRg D) := by
  refine S.ok sc_lrows (fun vs H Q E h => ?_) (fun f cdv A outer s H vs Q E hr h => ?_)
  · obtain ⟨p, N, b, l, fu, dr, bs, ls, fus, ds, ins, q, deep, most, rfl, _⟩ := h; rfl
  obtain ⟨p, N, b, l, fu, dr, bs, ls, fus, ds, ins, q, deep, most, rfl, g, hN, hq, qp, rfl, hD, m0, m6, fin⟩ := h
  refine ⟨_, (pss_cons (ps_set (i := 5) sc_lrows.nd rfl (Or.inl rfl) (pe_lst pa_nil))
      (pss_cut (ps_for PassesOwn.never rfl (pi_range1 rfl T.z_range (pac (pe_def (D_next.mono (Nat.le_add_left 1 _)) hr rfl (pac (pv 0) (pac (pe_op op_add (pv 3) pe_int) pa_nil))) pa_nil)) (pg_name (i := 6) sc_lrows.nd rfl (Or.inl rfl))
      (pss_cons (ps_if (pt_cmpR op_lt (pe_ix ix_list (pv 4) pe_int (fun _ _ => rfl)) pe_int (nomark _))
      (pss_one ps_break) pss_nil)
      (pss_cons (ps_asg (pe_op op_sub (pe_ix ix_list (pv 4) pe_int (fun _ _ => rfl)) pe_int) (pg_sub (pv 4) pe_int set_list))
      (pss_cons (ps_set (i := 7) sc_lrows.nd rfl (Or.inl rfl) (pe_ix ix_tup (pv 1) pe_int (fun _ _ => rfl)))
      (pss_cons (ps_set (i := 8) sc_lrows.nd rfl (Or.inl rfl) (pe_def (D_next.mono (Nat.le_add_left 1 _)) hr rfl (pac (pv 0) (pac pe_int pa_nil))))
      (pss_cons (ps_if (pt_cut (PW.pt (pw_or (pt_cmpR op_gt (pv 2) pe_int (nomark _)) (pw_or (pt_cmpR op_gt (pv 8) pe_int (nomark _)) (pw_or1 (pt_cmpR op_eq (pe_cB call_len_seq rfl T.z_len bt_len (pac (pv 7) pa_nil)) pe_int (nomark _)))))))
      (pss_cons (ps_expr (pe_bm PySem.F.plainAttrs_list PySem.F.slot_list_append PySem.F.type_list_append mt_append (pv 5) (pac (pe_def (D_plain.mono (Nat.le_add_left 5 _)) hr rfl (pac (pv 0) (pac (pv 1) pa_nil))) pa_nil)))
      (pss_one ps_continue)) pss_nil)
      (pss_cons (ps_set (i := 9) sc_lrows.nd rfl (Or.inl rfl) (pe_ix ix_list (pv 7) (pe_def (D_next.mono (Nat.le_add_left 1 _)) hr rfl (pac (pv 0) (pac (pe_cB call_len_seq rfl T.z_len bt_len (pac (pv 7) pa_nil)) pa_nil))) (fun _ _ => rfl)))
      (pss_cons (ps_set (i := 10) sc_lrows.nd rfl (Or.inl rfl) (pe_def (IH) hr rfl (pac (pv 0) (pac (pv 1) (pac (pe_op op_add (pv 2) pe_int) (pac pe_int (pac (pv 4) pa_nil)))))))
      (pss_one (ps_if (pt_cmpR op_eq (pv 8) pe_int (nomark _))
      (pss_cons (ps_set (i := 11) sc_lrows.nd rfl (Or.inl rfl) (pe_def ((D_value 3).mono (Nat.le_add_left 4 _)) hr rfl (pac (pv 0) (pac pe_int (pac (pv 7) (pac (pe_ix ix_tup (pv 1) pe_int (fun _ _ => rfl)) pa_nil))))))
      (pss_one (ps_expr (pe_bm PySem.F.plainAttrs_list PySem.F.slot_list_append PySem.F.type_list_append mt_append (pv 5) (pac (pe_tup (pac pe_str (pac (pv 11) (pac (pv 10) (pac (pe_ix ix_list (pe_lst (pac (pe_tup pa_nil) (pac (pe_def (IH) hr rfl (pac (pv 0) (pac (pv 1) (pac (pe_op op_add (pv 2) pe_int) (pac pe_int (pac (pv 4) pa_nil)))))) pa_nil))) (pe_def (D_next.mono (Nat.le_add_left 1 _)) hr rfl (pac (pv 0) (pac pe_int pa_nil))) (fun _ _ => rfl)) pa_nil))))) pa_nil)))))
      (pss_one (ps_if (pt_cmpR op_eq (pv 8) pe_int (nomark _))
      (pss_cons (ps_asg (pe_op op_sub (pe_ix ix_list (pv 4) pe_int (fun _ _ => rfl)) pe_int) (pg_sub (pv 4) pe_int set_list))
      (pss_cons (ps_set (i := 12) sc_lrows.nd rfl (Or.inl rfl) (pe_tup (pac pe_str (pac (pv 9) (pac (pe_tup (pac pe_str (pac (pe_tup (pac pe_str (pac (pv 9) pa_nil))) (pac (pe_tup (pa_const [.str "number", .int 1] (by rfl))) pa_nil)))) pa_nil)))))
      (pss_cons (ps_expr (pe_bm PySem.F.plainAttrs_list PySem.F.slot_list_append PySem.F.type_list_append mt_append (pv 5) (pac (pe_tup (pac pe_str (pac (pv 9) (pac (pe_tup (pac pe_str (pac (pe_def (D_next.mono (Nat.le_add_left 1 _)) hr rfl (pac (pv 0) (pac pe_int pa_nil))) pa_nil))) pa_nil)))) pa_nil)))
      (pss_one (ps_expr (pe_bm PySem.F.plainAttrs_list PySem.F.slot_list_append PySem.F.type_list_append mt_append (pv 5) (pac (pe_tup (pac pe_str (pac (pe_tup (pac pe_str (pac (pv 9) pa_nil))) (pac (pe_ix ix_list (pe_lst (pac (pe_op op_catTw (pe_tup (pac (pv 12) pa_nil)) (pv 10)) (pac (pe_op op_catTw (pv 10) (pe_tup (pac (pv 12) pa_nil))) pa_nil))) (pe_def (D_next.mono (Nat.le_add_left 1 _)) hr rfl (pac (pv 0) (pac pe_int pa_nil))) (fun _ _ => rfl)) pa_nil)))) pa_nil)))))))
      (pss_one (ps_expr (pe_bm PySem.F.plainAttrs_list PySem.F.slot_list_append PySem.F.type_list_append mt_append (pv 5) (pac (pe_tup (pac pe_str (pac (pv 10) (pac (pv 9) (pac (pe_def (IH) hr rfl (pac (pv 0) (pac (pv 1) (pac (pe_op op_add (pv 2) pe_int) (pac pe_int (pac (pv 4) pa_nil)))))) pa_nil))))) pa_nil))))))))))))))))
      (pss_one (ps_ret (pe_cT call_tuple_of rfl T.z_tuple bt_tuple (pac (pv 5) pa_nil)))))), ?_⟩
  have l3 : (100 : Nat) < sizeLine := by decide
  refine ⟨(by show 0 ≤ sizeLine; omega), fun fo hfo => ?_⟩
  have fop : fo ≠ p := g.ne hfo
  have foq : fo ≠ q := fun z => by obtain ⟨n, hn⟩ := hq; rw [z, hn] at hfo; cases hfo
  have e0 : E2 p q H (upd H fo (.lst [])) := E2.fo ⟨fun _ _ _ _ h => h, g, hq⟩ hfo fop foq
  refine ⟨fun σ H' => ∃ (rs : List V) (x6 x7 x8 x9 x10 x11 x12 : Option V), σ = [some (.ref p), some (.ref N), some (.int (5 - (D : Int))), some (.int most), some (.ref q), some (.ref fo), x6, x7, x8, x9, x10, x11, x12] ∧ E2 p q H H' ∧ H' fo = some (.lst rs) ∧ (rs.length : Int) ≤ 2 * most ∧ ∃ o, Rs H' (D - 1) rs o ∧ o.length ≤ most.toNat * cC (D - 1), ?_, ?_⟩
  · refine ⟨_, rfl, _, rfl, _, _, rfl, rfl, p, most + 1, rfl, e0.gen, by omega, fun rn H1 rn0 rn1 e1 => ?_⟩
    have e01 : E2 p q H H1 := e0.trans (E2.of qp e0.lf e1)
    have hf1 : H1 fo = some (.lst []) := e1.but fo _ fop upd_same
    refine ⟨rn, rfl, by omega, by omega, ?_⟩
    refine for_range (n := rn.toNat) (fun i σ H' => ∃ (rs : List V) (x6 x7 x8 x9 x10 x11 x12 : Option V), σ = [some (.ref p), some (.ref N), some (.int (5 - (D : Int))), some (.int most), some (.ref q), some (.ref fo), x6, x7, x8, x9, x10, x11, x12] ∧ E2 p q H H' ∧ H' fo = some (.lst rs) ∧ (rs.length : Int) ≤ 2 * i ∧ ∃ o, Rs H' (D - 1) rs o ∧ o.length ≤ i * cC (D - 1)) ?_ ?_ ?_
    · exact ⟨[], _, _, _, _, _, _, _, rfl, e01, hf1, by simp, [], .nil, by simp⟩
    · rintro i σ H2 hi ⟨rs, x6, x7, x8, x9, x10, x11, x12, rfl, e02, hf2, hl2, o2, hR2, ho2⟩
      have im : i * cC (D - 1) ≤ most.toNat * cC (D - 1) := Nat.mul_le_mul_right _ (by omega)
      have sm : (i + 1) * cC (D - 1) = i * cC (D - 1) + cC (D - 1) := Nat.succ_mul _ _
      have hi' : (i : Int) < most + 1 := by omega
      obtain ⟨nl, hq2⟩ := e02.lf
      -- one row more
      have app : ∀ {H6 : Hp} {r : V} {o' : Lns}, E2 p q H H6 → Kn H2 H6 → H6 fo = some (.lst rs) → Rs H6 (D - 1) [r] o' → o'.length ≤ cC (D - 1) → E2 p q H (upd H6 fo (.lst (rs ++ [r]))) ∧ upd H6 fo (.lst (rs ++ [r])) fo = some (.lst (rs ++ [r])) ∧ ((rs ++ [r]).length : Int) ≤ 2 * (i + 1 : Nat) ∧ ∃ o, Rs (upd H6 fo (.lst (rs ++ [r]))) (D - 1) (rs ++ [r]) o ∧ o.length ≤ (i + 1) * cC (D - 1) := fun {H6 r o'} e6 k6 h6 hr hc => by
        refine ⟨e6.fo hfo fop foq, upd_same, by rw [List.length_append]; simp; omega, o2 ++ o', (hR2.tk (k6.tk.trans (tk_upd h6))).app (hr.tk (tk_upd h6)), ?_⟩
        rw [List.length_append, sm]
        omega
      refine ⟨_, rfl, q, _, 0, _, rfl, rfl, SqL.of hq2, atI_nat (j := 0) rfl, _, _, rfl, rfl, _, rfl, ite2 (fun _ => ?_) (fun _ => ?_)⟩
      · exact ⟨rs, _, _, _, _, _, _, _, rfl, e02, hf2, by omega, o2, hR2, by omega⟩
      refine ⟨_, rfl, q, _, 0, _, rfl, rfl, SqL.of hq2, atI_nat (j := 0) rfl, _, _, rfl, rfl, _, rfl, q, _, 0, 0, rfl, rfl, hq2, rfl, ?_⟩
      have s3 : E2 p q H2 (upd H2 q (.lst [.int (nl - 2)])) := E2.set qp e02.gen _
      have hf3 : upd H2 q (.lst [.int (nl - 2)]) fo = some (.lst rs) := by rw [upd_ne foq]; exact hf2
      rw [show ([V.int nl].set 0 (V.int (nl - 2))) = [V.int (nl - 2)] from rfl]
      have k3 := s3.kn e02.gen e02.lf
      have e03 := e02.trans s3
      generalize upd H2 q (.lst [.int (nl - 2)]) = H3 at *
      have n3 := hN.kn (e03.kn g hq)
      refine ⟨_, rfl, N, _, 0, _, rfl, rfl, SqT.of n3.n, atI_nat (j := 0) rfl, ?_⟩
      refine ⟨_, rfl, p, 9, rfl, e03.gen, by decide, fun kd H4 kd0 kd1 e4 => ?_⟩
      have e34 := E2.of qp e03.lf e4
      have e04 := e03.trans e34
      have k4 := k3.trans (e34.kn e03.gen e03.lf)
      have n4 := hN.kn (e04.kn g hq)
      have hf4 := e4.but fo _ fop hf3
      refine ⟨fun t H' => H4 = H' ∧ (t = false → 2 ≤ D ∧ (0 : Int) < ((bs.map V.str).length : Int)), ?_, ?_⟩
      · refine ⟨_, rfl, _, _, rfl, rfl, _, rfl, ite2 (fun _ => ⟨rfl, fun z => by cases z⟩) (fun c1 => ?_)⟩
        have c1' : ¬ ((3 : Int) < 5 - (D : Int)) := fun z => c1 (decide_eq_true z)
        refine ⟨_, rfl, _, _, rfl, rfl, _, rfl, ite2 (fun _ => ⟨rfl, fun z => by cases z⟩) (fun _ => ?_)⟩
        refine ⟨_, rfl, b, _, rfl, .inl (SqL.of n4.b), rfl, _, rfl, rfl, fun z => ⟨by omega, ?_⟩⟩
        have z' := of_decide_eq_false z
        cases bs with
        | nil => exact absurd rfl z'
        | cons x r => rw [List.map_cons, List.length_cons]; omega
      rintro t H' ⟨rfl, ht⟩
      refine ite2 (fun _ => ?_) (fun ct => ?_)
      · refine ⟨_, rfl, .inl ⟨rfl, _, SqL.of hf4⟩, _, rfl, _, rfl, p, N, b, l, fu, dr, bs, ls, fus, ds, ins, rfl, e4.gen, n4, fun r H6 e6 hRI => ?_⟩
        have hf6 := e6.but fo _ fop hf4
        have e46 := E2.of qp e04.lf e6
        refine ⟨fo, _, _, rfl, rfl, hf6, (by omega), ?_⟩
        obtain ⟨a1, a2, a3, a4⟩ := app (e04.trans e46) (k4.trans (e46.kn e04.gen e04.lf)) hf6 (r := r) (.plain hRI.choose_spec .nil) (cC_pos _)
        exact ⟨_, _, _, _, _, _, _, _, rfl, a1, a2, a3, a4⟩
      obtain ⟨hD2, hbne⟩ := ht (Bool.eq_false_iff.mpr ct)
      obtain ⟨D2, rfl⟩ : ∃ D2, D = D2 + 2 := ⟨D - 2, by omega⟩
      have cc : cC (D2 + 2 - 1) = 5 * cC D2 + 5 := rfl
      refine ⟨_, rfl, _, rfl, _, rfl, b, _, rfl, .inl (SqL.of n4.b), p, _, rfl, e4.gen, hbne, fun r5 H5 r50 r51 e5 => ?_⟩
      have e45 := E2.of qp e04.lf e5
      have e05 := e04.trans e45
      have k5 := k4.trans (e45.kn e04.gen e04.lf)
      have n5 := hN.kn (e05.kn g hq)
      have hf5 := e5.but fo _ fop hf4
      obtain ⟨bx, hbx, hbxm⟩ := at_str (ns := bs) r50 (by rw [List.length_map] at r51; exact r51)
      refine ⟨b, _, r5, _, rfl, rfl, SqL.of n5.b, hbx, ?_⟩
      have dd : (5 - ((D2 + 2 : Nat) : Int)) + 1 = 5 - ((D2 + 1 : Nat) : Int) := by omega
      refine ⟨_, rfl, _, rfl, _, rfl, _, _, rfl, rfl, _, rfl, D2 + 1, rfl, p, N, b, l, fu, dr, bs, ls, fus, ds, ins, q, _, 3, rfl, e5.gen, n5, e05.lf, qp, dd, by omega, by decide, by decide, fun R1 rs1 H6 e6 hR1 hl1 ⟨o1, hO1, hc1⟩ => ?_⟩
      have hc1' : o1.length ≤ 3 * cC D2 := hc1
      have hO1' : Rs H6 D2 rs1 o1 := hO1
      have e06 := e05.trans e6
      have k6 := k5.trans (e6.kn e05.gen e05.lf)
      have n6 := hN.kn (e06.kn g hq)
      have hf6 := e6.but fo _ fop foq hf5
      have hl1' : rs1.length ≤ 6 := by omega
      refine ⟨_, rfl, rfl, _, rfl, ite2 (fun _ => ?_) (fun _ => ?_)⟩
      · -- if
        refine ⟨_, rfl, _, rfl, _, rfl, N, _, 1, _, rfl, rfl, SqT.of n6.n, atI_nat (j := 1) rfl, p, 2, b, l, bs, ls, rfl, e06.gen, by decide, by decide, n6.b, n6.l, n6.bl, n6.ll, fun vh vws H7 e7 hvh => ?_⟩
        have f7 := E2.of qp e06.lf e7
        have e07 := e06.trans f7
        have k7 := f7.kn e06.gen e06.lf
        have hf7 := e7.but fo _ fop hf6
        refine ⟨_, rfl, .inl ⟨rfl, _, SqL.of hf7⟩, _, rfl, _, rfl, (by show 0 ≤ sizeLine; omega), fun z hz => ?_⟩
        have f8 := E2.of qp e07.lf (Ext.new e07.gen hz (.tup []))
        have e08 := e07.trans f8
        have k8 := k7.trans (f8.kn e07.gen e07.lf)
        have n8 := hN.kn (e08.kn g hq)
        refine ⟨_, rfl, _, rfl, _, rfl, _, _, rfl, rfl, _, rfl, D2 + 1, rfl, p, N, b, l, fu, dr, bs, ls, fus, ds, ins, q, _, 2, rfl, e08.gen, n8, e08.lf, qp, dd, by omega, by decide, by decide, fun R2 rs2 H9 e9 hR2' hl2' ⟨o3, hO3, hc3⟩ => ?_⟩
        have hc3' : o3.length ≤ 2 * cC D2 := hc3
        have hO3' : Rs H9 D2 rs2 o3 := hO3
        have e09 := e08.trans e9
        have k9 := e9.kn e08.gen e08.lf
        have hl2'' : rs2.length ≤ 4 := by omega
        refine ⟨(by show 2 ≤ sizeLine; omega), fun u2 hu2 => ?_⟩
        have f10 := E2.of qp e09.lf (Ext.new e09.gen hu2 (.lst [.ref z, .ref R2]))
        have e10 := e09.trans f10
        have u2p : u2 ≠ p := e09.gen.ne hu2
        refine ⟨_, rfl, p, 2, rfl, e10.gen, by decide, fun r11 H11 r110 r111 e11 => ?_⟩
        have f11 := E2.of qp e10.lf e11
        have e011 := e10.trans f11
        obtain ⟨el, hel, helm⟩ := at_mem (xs := [V.ref z, .ref R2]) r110 r111
        refine ⟨u2, _, r11, _, rfl, rfl, SqL.of (e11.but _ _ u2p upd_same), hel, (by show 4 ≤ sizeLine; omega), fun u hu => ?_⟩
        have f12 := E2.of qp e011.lf (Ext.new e011.gen hu (.tup [.str "if", vh, .ref R1, el]))
        have e012 := e011.trans f12
        have t9 := ((f10.kn e09.gen e09.lf).trans (f11.kn e10.gen e10.lf)).trans (f12.kn e011.gen e011.lf)
        have t89 := k9.trans t9
        have kk : Kn H6 _ := k8.trans t89
        have hfo7 := f12.but fo _ fop foq (f11.but fo _ fop foq (f10.but fo _ fop foq (e9.but fo _ fop foq (f8.but fo _ fop foq hf7))))
        refine ⟨fo, _, _, rfl, rfl, hfo7, (by omega), ?_⟩
        have hvh' := hvh.tk ((f8.kn e07.gen e07.lf).trans t89).tk
        have hrow : ∃ o', Rs (upd H11 u (.tup [.str "if", vh, .ref R1, el])) (D2 + 1) [.ref u] o' ∧ o'.length ≤ 5 * cC D2 + 5 := by
          simp only [List.mem_cons, List.not_mem_nil, or_false] at helm
          rcases helm with rfl | rfl
          · refine ⟨_, .ifs upd_same hvh' (kk.tk _ _ hR1) (t89.tk _ _ upd_same) (hO1'.tk kk.tk) .nil .nil, ?_⟩
            simp [els, up_len]
            omega
          · refine ⟨_, .ifs upd_same hvh' (kk.tk _ _ hR1) (t9.tk _ _ hR2') (hO1'.tk kk.tk) (hO3'.tk t9.tk) .nil, ?_⟩
            have := le_len rs2 o3
            simp only [List.length_cons, List.length_append, up_len, List.length_nil]
            omega
        obtain ⟨o4, hO4, hc4⟩ := hrow
        obtain ⟨a1, a2, a3, a4⟩ := app e012 (k6.trans kk) hfo7 (r := .ref u) hO4 hc4
        exact ⟨_, _, _, _, _, _, _, _, rfl, a1, a2, a3, a4⟩
      refine ⟨_, rfl, rfl, _, rfl, ite2 (fun _ => ?_) (fun _ => ?_)⟩
      · -- while
        obtain ⟨nl6, hq6⟩ := e06.lf
        refine ⟨_, rfl, q, _, 0, _, rfl, rfl, SqL.of hq6, atI_nat (j := 0) rfl, _, _, rfl, rfl, _, rfl, q, _, 0, 0, rfl, rfl, hq6, rfl, ?_⟩
        have f7 : E2 p q H6 (upd H6 q (.lst [.int (nl6 - 2)])) := E2.set qp e06.gen _
        have hf7 : upd H6 q (.lst [.int (nl6 - 2)]) fo = some (.lst rs) := by rw [upd_ne foq]; exact hf6
        rw [show ([V.int nl6].set 0 (V.int (nl6 - 2))) = [V.int (nl6 - 2)] from rfl]
        have k7 := f7.kn e06.gen e06.lf
        have e07 := e06.trans f7
        generalize upd H6 q (.lst [.int (nl6 - 2)]) = H7 at *
        refine ⟨_, rfl, _, rfl, (by show 2 ≤ sizeLine; omega), fun a1 h1 => ?_⟩
        have q1 := same_of_new h1 (.tup [.str "box", .str bx])
        have g1 := q1
        refine ⟨(by show 2 ≤ sizeLine; omega), fun a2 h2 => ?_⟩
        have q2 := same_of_new h2 (.tup [.str "number", .int 1])
        have g2 := g1.trans q2
        refine ⟨(by show 3 ≤ sizeLine; omega), fun a3 h3 => ?_⟩
        have q3 := same_of_new h3 (.tup [.str "minus", .ref a1, .ref a2])
        have g3 := g2.trans q3
        refine ⟨(by show 3 ≤ sizeLine; omega), fun le hle => ?_⟩
        have q4 := same_of_new hle (.tup [.str "set", .str bx, .ref a3])
        have g4 := g3.trans q4
        have hbx10 := n6.bl bx hbxm
        have hv8 : ∃ us, Vl (upd (upd (upd (upd H7 a1 (.tup [.str "box", .str bx])) a2 (.tup [.str "number", .int 1])) a3 (.tup [.str "minus", .ref a1, .ref a2])) le (.tup [.str "set", .str bx, .ref a3])) 3 (.ref a3) us :=
          ⟨_, .two (n := 2) (q4 _ _ upd_same) (by decide) (.nm (q4 _ _ (q3 _ _ (q2 _ _ upd_same))) (.inl rfl) hbx10.1 hbx10.2) (.num (q4 _ _ (q3 _ _ upd_same)) (by decide) (by decide))⟩
        have hle8 : upd (upd (upd (upd H7 a1 (.tup [.str "box", .str bx])) a2 (.tup [.str "number", .int 1])) a3 (.tup [.str "minus", .ref a1, .ref a2])) le (.tup [.str "set", .str bx, .ref a3]) le = some (.tup [.str "set", .str bx, .ref a3]) := upd_same
        generalize upd (upd (upd (upd H7 a1 (.tup [.str "box", .str bx])) a2 (.tup [.str "number", .int 1])) a3 (.tup [.str "minus", .ref a1, .ref a2])) le (.tup [.str "set", .str bx, .ref a3]) = H8 at g4 hle8 hv8 ⊢
        have f8 := E2.of qp e07.lf (Same.ext e07.gen g4)
        have e08 := e07.trans f8
        have hf8 := g4 _ _ hf7
        refine ⟨_, rfl, .inl ⟨rfl, _, SqL.of hf8⟩, _, rfl, _, rfl, p, 5, rfl, e08.gen, by decide, fun r9 H9 r90 r91 e9 => ⟨(by show 2 ≤ sizeLine; omega), fun a4 h4 => ?_⟩⟩
        have g5 := same_of_new h4 (.tup [.str "number", .int r9])
        refine ⟨(by show 3 ≤ sizeLine; omega), fun a5 h5 => ?_⟩
        have q6 := same_of_new h5 (.tup [.str "set", .str bx, .ref a4])
        have g6 := g5.trans q6
        have hv10 : Vl (upd (upd H9 a4 (.tup [.str "number", .int r9])) a5 (.tup [.str "set", .str bx, .ref a4])) 3 (.ref a4) _ := .num (q6 _ _ upd_same) r90 (by omega)
        have ha5 : upd (upd H9 a4 (.tup [.str "number", .int r9])) a5 (.tup [.str "set", .str bx, .ref a4]) a5 = some (.tup [.str "set", .str bx, .ref a4]) := upd_same
        generalize upd (upd H9 a4 (.tup [.str "number", .int r9])) a5 (.tup [.str "set", .str bx, .ref a4]) = H10 at g6 ha5 hv10 ⊢
        have f10 := E2.of qp e08.lf (e9.trans (Same.ext e9.gen g6))
        have e10 := e08.trans f10
        have hf10 := g6 _ _ (e9.but fo _ fop hf8)
        refine ⟨fo, _, _, rfl, rfl, hf10, (by omega), ?_⟩
        have k10 := (k7.trans (f8.kn e07.gen e07.lf)).trans (f10.kn e08.gen e08.lf)
        have hle10 := (f10.kn e08.gen e08.lf).tk _ _ hle8
        obtain ⟨w5, hP5⟩ := mkS ha5 hbx10 hv10 (by decide)
        obtain ⟨v8, hv8⟩ := hv8
        have hv11 := hv8.tk (f10.kn e08.gen e08.lf).tk
        have b1 : E2 p q H (upd H10 fo (.lst (rs ++ [.ref a5]))) := e10.fo hfo fop foq
        have b2 : upd H10 fo (.lst (rs ++ [.ref a5])) fo = some (.lst (rs ++ [.ref a5])) := upd_same
        have b4 : Rs (upd H10 fo (.lst (rs ++ [.ref a5]))) (D2 + 1) (rs ++ [.ref a5]) (o2 ++ [(0, joinW w5)]) := (hR2.tk ((k6.trans k10).tk.trans (tk_upd hf10))).app (.plain (hP5.tk (tk_upd hf10)) .nil)
        have t11 := tk_upd (o := .lst (rs ++ [.ref a5])) hf10
        have hR111 := t11 _ _ (k10.tk _ _ hR1)
        have hle11 := t11 _ _ hle10
        have kk11 := k10.tk.trans t11
        have hv11' := hv11.tk t11
        generalize upd H10 fo (.lst (rs ++ [.ref a5])) = H11 at b1 b2 b4 t11 hR111 hle11 kk11 hv11' ⊢
        refine ⟨_, rfl, .inl ⟨rfl, _, SqL.of b2⟩, _, rfl, (by show 2 ≤ sizeLine; omega), fun a6 h6 => ?_⟩
        have g7 := same_of_new h6 (.tup [.str "box", .str bx])
        refine ⟨_, rfl, (by show 1 ≤ sizeLine; omega), fun a7 h7 => ?_⟩
        have g8' := same_of_new h7 (.tup [.ref le])
        have g8 := g7.trans g8'
        refine ⟨_, rfl, a7, R1, _, _, rfl, rfl, upd_same, g8 _ _ hR111, (by show 1 + rs1.length ≤ sizeLine; omega), fun c1 H12 s12 hc1 => ?_⟩
        have g9 := g8.trans s12
        refine ⟨_, rfl, _, rfl, (by show 1 ≤ sizeLine; omega), fun a8 h8 => ?_⟩
        have g10' := same_of_new h8 (.tup [.ref le])
        have g10 := g9.trans g10'
        refine ⟨R1, a8, _, _, rfl, rfl, g10 _ _ hR111, upd_same, (by show rs1.length + 1 ≤ sizeLine; omega), fun c2 H13 s13 hc2 => ?_⟩
        have hc1' := s13 _ _ (g10' _ _ hc1)
        have g11 := g10.trans s13
        refine ⟨(by show 2 ≤ sizeLine; omega), fun u2 hu2 => ?_⟩
        have g12' := same_of_new hu2 (.lst [.ref c1, .ref c2])
        have g12 := g11.trans g12'
        have f12 := E2.of qp b1.lf (Same.ext b1.gen g12)
        have e12 := b1.trans f12
        have u2p : u2 ≠ p := (b1.gen.same g11).ne hu2
        refine ⟨_, rfl, p, 2, rfl, e12.gen, by decide, fun r13 H14 r130 r131 e13 => ?_⟩
        have f13 := E2.of qp e12.lf e13
        have e013 := e12.trans f13
        have k13 := f13.kn e12.gen e12.lf
        obtain ⟨el, hel, helm⟩ := at_mem (xs := [V.ref c1, .ref c2]) r130 r131
        refine ⟨u2, _, r13, _, rfl, rfl, SqL.of (e13.but _ _ u2p upd_same), hel, (by show 3 ≤ sizeLine; omega), fun u hu => ?_⟩
        have g14 := same_of_new hu (.tup [.str "while", .ref a6, el])
        have f14 := E2.of qp e013.lf (Same.ext e013.gen g14)
        have e014 := e013.trans f14
        have hfo14 := g14 _ _ (e13.but fo _ fop (g12 _ _ b2))
        have tall : TK H11 (upd H14 u (.tup [.str "while", .ref a6, el])) := ((TK.of g12).trans k13.tk).trans (TK.of g14)
        obtain ⟨wl, hlR⟩ := mkS (tall _ _ hle11) hbx10 (hv11'.tk tall) (by decide)
        have hO14 := (hO1'.tk kk11).tk tall
        have hcond : Vl (upd H14 u (.tup [.str "while", .ref a6, el])) 3 (.ref a6) ["box", bx] := .nm ((k13.tk.trans (TK.of g14)) _ _ ((g8'.trans (s12.trans (g10'.trans (s13.trans g12')))) _ _ upd_same)) (.inl rfl) hbx10.1 hbx10.2
        have row : ∃ o', Rs (upd H14 u (.tup [.str "while", .ref a6, el])) (D2 + 1) [.ref u] o' ∧ o'.length ≤ 3 * cC D2 + 3 := by
          simp only [List.mem_cons, List.not_mem_nil, or_false] at helm
          rcases helm with rfl | rfl
          · refine ⟨_, .whl upd_same hcond (g14 _ _ (k13.tk _ _ (g12' _ _ hc1'))) (.plain hlR hO14) .nil, ?_⟩
            simp only [List.length_cons, List.length_append, up_len, List.length_nil]
            omega
          · refine ⟨_, .whl upd_same hcond (g14 _ _ (k13.tk _ _ (g12' _ _ hc2))) (hO14.app (.plain hlR .nil)) .nil, ?_⟩
            simp only [List.length_cons, List.length_append, up_len, List.length_nil]
            omega
        obtain ⟨o5, hO5, hc5⟩ := row
        have hl15 : (rs ++ [V.ref a5]).length = rs.length + 1 := by rw [List.length_append]; rfl
        refine ⟨fo, _, _, rfl, rfl, hfo14, (by omega), ?_⟩
        have tu := tk_upd (o := .lst ((rs ++ [.ref a5]) ++ [.ref u])) hfo14
        have hfin := ((b4.tk tall).tk tu).app (hO5.tk tu)
        refine ⟨(rs ++ [V.ref a5]) ++ [V.ref u], _, _, _, _, _, _, _, rfl, e014.fo hfo fop foq, upd_same, ?_, o2 ++ [(0, joinW w5)] ++ o5, hfin, ?_⟩
        · rw [List.length_append, hl15]; simp; omega
        · rw [sm, cc]
          rw [cc] at ho2
          simp only [List.length_append, List.length_cons, List.length_nil]
          omega
      · -- try
        refine ⟨_, rfl, .inl ⟨rfl, _, SqL.of hf6⟩, _, rfl, _, rfl, ?_⟩
        refine ⟨_, rfl, _, rfl, _, rfl, _, _, rfl, rfl, _, rfl, D2 + 1, rfl, p, N, b, l, fu, dr, bs, ls, fus, ds, ins, q, _, 2, rfl, e06.gen, n6, e06.lf, qp, dd, by omega, by decide, by decide, fun R2 rs2 H9 e9 hR2' hl2' ⟨o3, hO3, hc3⟩ => ?_⟩
        have hc3' : o3.length ≤ 2 * cC D2 := hc3
        have hO3' : Rs H9 D2 rs2 o3 := hO3
        have e09 := e06.trans e9
        have k9 := e9.kn e06.gen e06.lf
        have hl2'' : rs2.length ≤ 4 := by omega
        refine ⟨(by show 4 ≤ sizeLine; omega), fun u hu => ?_⟩
        have g12 := same_of_new hu (.tup [.str "try", .ref R1, .str bx, .ref R2])
        have f12 := E2.of qp e09.lf (Same.ext e09.gen g12)
        have hfo7 := g12 _ _ (e9.but fo _ fop foq hf6)
        have kk := k9.trans (f12.kn e09.gen e09.lf)
        refine ⟨fo, _, _, rfl, rfl, hfo7, (by omega), ?_⟩
        obtain ⟨a1, a2, a3, a4⟩ := app (e09.trans f12) (k6.trans kk) hfo7 (r := .ref u) (.tri upd_same (n6.bl bx hbxm).2 (kk.tk _ _ hR1) (g12 _ _ hR2') (hO1'.tk kk.tk) (hO3'.tk (TK.of g12)) .nil) (by
          simp only [List.length_cons, List.length_append, up_len, List.length_nil]
          omega)
        exact ⟨_, _, _, _, _, _, _, _, rfl, a1, a2, a3, a4⟩
    · rintro σ H2 ⟨rs, x6, x7, x8, x9, x10, x11, x12, rfl, e02, hf2, hl2, o2, hR2, ho2⟩
      have im : rn.toNat * cC (D - 1) ≤ most.toNat * cC (D - 1) := Nat.mul_le_mul_right _ (by omega)
      exact ⟨rs, _, _, _, _, _, _, _, rfl, e02, hf2, by omega, o2, hR2, by omega⟩
  · rintro σ H' ⟨rs, x6, x7, x8, x9, x10, x11, x12, rfl, e, hf, hl, o2, hR, ho2⟩
    refine ⟨_, rfl, fo, _, rfl, .inl ⟨SqL.of hf, fun R hR' => ?_⟩⟩
    have sR := same_of_new hR' (.tup rs)
    refine fin R rs _ (e.trans (E2.of qp e.lf (Ext.new e.gen hR' _))) upd_same hl ⟨o2, hR.tk (TK.of sR), ho2⟩
theorem d_lrows (T : Txt w K mg) (D_next : Def P w K mg base 1 "_law_next" ["_law_state_here", "_law_size"] spNext) (D_value : ∀ n : Nat, Def P w K mg base (n + 1) "_law_value" ["_law_state_here", "_law_deep", "_law_boxes", "_law_lists"] (spValue n))
    (D_plain : Def P w K mg base 5 "_law_plain" ["_law_state_here", "_law_names_here"] spPlain) (S : Src K mg "_law_rows" (top 21) ["_law_state_here", "_law_names_here", "_law_deep", "_law_most", "_law_left"]) : ∀ D : Nat, Def P w K mg base (D + 6) "_law_rows" ["_law_state_here", "_law_names_here", "_law_deep", "_law_most", "_law_left"] (spRg D)
  | 0 => d_lrows1 T D_next D_value D_plain S (S.no fun vs H Q E h => by obtain ⟨k', hk, _⟩ := h; omega)
  | D + 1 => d_lrows1 T D_next D_value D_plain S ((d_lrows T D_next D_value D_plain S D).imp fun vs H Q E h => by
      obtain ⟨k', hk, h⟩ := h
      obtain rfl : D = k' := by omega
      exact h)
end
end K10

set_option Elab.async false
set_option linter.all false
set_option maxRecDepth 100000
set_option maxHeartbeats 4000000
namespace K10
open PySem L2
seal L2.PE L2.PS L2.PSs L2.PT L2.PW L2.PA L2.PG L2.PGs L2.PI L2.PO L2.PIfs L2.PC L2.OpR L2.CallR L2.IxR L2.SlR L2.PSet L2.UnR
theorem paired_at {α β : Type} {R : α → β → Prop} : ∀ {xs : List α} {ys : List β}, Paired R xs ys → ∀ {i : Nat} {x : α} {y : β}, xs[i]? = some x → ys[i]? = some y → R x y
  | [], [], _, i, x, y, h, _ => by simp at h
  | _ :: _, _ :: _, .cons a b, 0, x, y, h, k => by
    simp at h k
    subst h; subst k
    exact a
  | _ :: _, _ :: _, .cons a b, i + 1, x, y, h, k => paired_at b (by simpa using h) (by simpa using k)
theorem paired_snoc {α β : Type} {R : α → β → Prop} {xs : List α} {ys : List β} {x : α} {y : β} (h : Paired R xs ys) (r : R x y) : Paired R (xs ++ [x]) (ys ++ [y]) := paired_app h (.cons r .nil)
theorem cut_strs (ns : List Str) (lo hi : Option Int) : ∃ bs : List Str, cutV (ns.map V.str) lo hi = bs.map V.str ∧ (∀ x ∈ bs, x ∈ ns) ∧ bs.length ≤ ns.length := by
  refine ⟨((ns.drop (HT.sIx ns.length 0 lo)).take (HT.sIx ns.length ns.length hi - HT.sIx ns.length 0 lo)), ?_, fun x hx => List.mem_of_mem_drop (List.mem_of_mem_take hx), ?_⟩
  · unfold cutV
    rw [List.length_map, List.map_take, List.map_drop]
  · rw [List.length_take, List.length_drop]; omega
theorem nm_len {x : Str} (h : nmS x = true) : 1 ≤ x.length ∧ x.length ≤ 6 := by
  unfold nmS at h
  rw [Bool.and_eq_true] at h
  have := of_decide_eq_true h.1
  exact ⟨by omega, by omega⟩
def Fu (H : Hp) (x : Str) (u : V) : Prop := ∃ t k, u = .ref t ∧ H t = some (.tup [.str x, .int k]) ∧ 0 ≤ k ∧ k ≤ 2
theorem Fu.tk {H H' : Hp} (k : TK H H') {x : Str} {u : V} (h : Fu H x u) : Fu H' x u := let ⟨t, m, e, h1, h2⟩ := h; ⟨t, m, e, k _ _ h1, h2⟩
theorem strs_kn {H H' : Hp} (k : Kn H H') {a : Addr} {ws : List Str} (h : H a = some (.lst (ws.map V.str))) : H' a = some (.lst (ws.map V.str)) := k _ _ (fun n z => strs_ne n (by injection z)) h
theorem refs_kn {H H' : Hp} (k : Kn H H') {a : Addr} {us : List V} (hu : ∀ u ∈ us, ∃ t, u = .ref t) (h : H a = some (.lst us)) : H' a = some (.lst us) := k _ _ (fun n z => by
  injection z with z
  obtain ⟨t, e⟩ := hu (.int n) (by rw [z]; simp)
  cases e) h
theorem kn_new {H : Hp} {a : Addr} (h : H a = none) (o : HO) : Kn H (upd H a o) := fun b u _ hb => same_of_new h o b u hb
section
variable {P : Program} {w : World} {K : PySem.W.Frag} {mg : Str → Option Value} {base : Heap}
/-! ### _law_program -/
theorem sc_program : FnScope ["_law_state_here", "_law_most", "_law_names_here", "_law_boxes", "_law_lists", "_law_titles", "_law_doors", "_law_amounts", "_law_left", "_law_functions", "_law_title", "_law_amount", "_law_params", "_law_owns", "_law_inner", "_law_rows_here", "_law_pairs", "_law_things", "_law_name"] ["_law_state_here", "_law_most"] (defScope (top 22)) := ⟨rfl, rfl, rfl, by decide +kernel, rfl, by decide +kernel, by decide +kernel⟩
def spProg : Sp := fun vs H Q _ => ∃ (p : Addr), vs = [.ref p, .int 6] ∧ Gen p H ∧ ∀ (v : V) (H' : Hp) (pg : Pg), Ext p H H' → ProgIs H' v pg → Q v H'
theorem d_program (T : Txt w K mg) (D_next : Def P w K mg base 1 "_law_next" ["_law_state_here", "_law_size"] spNext) (D_names : Def P w K mg base 2 "_law_names" ["_law_state_here", "_law_amount"] spNames)
    (D_value : ∀ n : Nat, Def P w K mg base (n + 1) "_law_value" ["_law_state_here", "_law_deep", "_law_boxes", "_law_lists"] (spValue n)) (D_lrows : ∀ D : Nat, Def P w K mg base (D + 6) "_law_rows" ["_law_state_here", "_law_names_here", "_law_deep", "_law_most", "_law_left"] (spRg D))
    (S : Src K mg "_law_program" (top 22) ["_law_state_here", "_law_most"]) : Def P w K mg base 11 "_law_program" ["_law_state_here", "_law_most"] spProg := by
  refine S.ok sc_program (fun vs H Q E h => ?_) (fun f cdv A outer s H vs Q E hr h => ?_)
  · obtain ⟨p, rfl, _⟩ := h; rfl
  obtain ⟨p, rfl, g, fin⟩ := h
  refine ⟨_, (pss_cons (ps_set (i := 2) sc_program.nd rfl (Or.inl rfl) (pe_def (D_names.mono (by decide)) hr rfl (pac (pv 0) (pac pe_int pa_nil))))
      (pss_cons (ps_set (i := 3) sc_program.nd rfl (Or.inl rfl) (pe_slice sl_list (pv 2) po_none (po_some (pe_ix ix_list (pe_lst (pa_const [.int 1, .int 2, .int 2, .int 3] (by rfl))) (pe_def (D_next.mono (by decide)) hr rfl (pac (pv 0) (pac pe_int pa_nil))) (fun _ _ => rfl)))))
      (pss_cons (ps_set (i := 4) sc_program.nd rfl (Or.inl rfl) (pe_slice sl_list (pe_slice sl_list (pv 2) (po_some pe_int) po_none) po_none (po_some (pe_ix ix_list (pe_lst (pa_const [.int 0, .int 1, .int 1, .int 2] (by rfl))) (pe_def (D_next.mono (by decide)) hr rfl (pac (pv 0) (pac pe_int pa_nil))) (fun _ _ => rfl)))))
      (pss_cons (ps_set (i := 5) sc_program.nd rfl (Or.inl rfl) (pe_slice sl_list (pe_def (D_names.mono (by decide)) hr rfl (pac (pv 0) (pac pe_int pa_nil))) po_none (po_some (pe_def (D_next.mono (by decide)) hr rfl (pac (pv 0) (pac pe_int pa_nil))))))
      (pss_cons (ps_set (i := 6) sc_program.nd rfl (Or.inl rfl) (pe_slice sl_list (pe_lst (pac (pe_ix ix_list (pv 2) pe_int (fun _ _ => rfl)) (pac (pe_ix ix_list (pv 2) pe_int (fun _ _ => rfl)) (pac pe_str pa_nil)))) po_none (po_some (pe_def (D_next.mono (by decide)) hr rfl (pac (pv 0) (pac pe_int pa_nil))))))
      (pss_cons (ps_comp (i0 := 7) sc_program.nd rfl (Or.inl rfl) (N' := ["_law_title", "_law_state_here"]) (comp_scope (defScope (top 22)) (by rfl) (by decide +kernel) (by decide +kernel) (by decide +kernel) (by decide +kernel) (by decide +kernel) (by decide +kernel)) rfl (capt 1 [0] (by rfl) (by rfl) (by decide +kernel)) (pi_list (pv 5)) (fun _ _ _ => pg_name (i := 0) (show (["_law_title", "_law_state_here"] : List Str).Nodup by decide +kernel) rfl (Or.inl rfl) (Or.inr rfl)) (fun _ _ _ => pifs_nil) (fun _ _ _ => (pe_tup (pac (pv 0) (pac (pe_def (D_next.mono (by decide)) hr rfl (pac (pv 1) (pac pe_int pa_nil))) pa_nil)))))
      (pss_cons (ps_set (i := 8) sc_program.nd rfl (Or.inl rfl) (pe_lst (pa_const [.int 56] (by rfl))))
      (pss_cons (ps_set (i := 9) sc_program.nd rfl (Or.inl rfl) (pe_lst pa_nil))
      (pss_cons (ps_for PassesOwn.never rfl (pi_list (pv 7)) (pg_tup rfl (pgs_cons (pg_name (i := 10) sc_program.nd rfl (Or.inl rfl)) (pgs_cons (pg_name (i := 11) sc_program.nd rfl (Or.inl rfl)) pgs_nil)))
      (pss_cons (ps_set (i := 12) sc_program.nd rfl (Or.inl rfl) (pe_slice sl_list (pe_slice sl_list (pv 2) (po_some pe_int) po_none) po_none (po_some (pv 11))))
      (pss_cons (ps_set (i := 13) sc_program.nd rfl (Or.inl rfl) (pe_slice sl_list (pe_slice sl_list (pv 2) (po_some pe_int) po_none) po_none (po_some (pe_def (D_next.mono (by decide)) hr rfl (pac (pv 0) (pac pe_int pa_nil))))))
      (pss_cons (ps_set (i := 14) sc_program.nd rfl (Or.inl rfl) (pe_tup (pac (pe_op op_cat (pe_op op_cat (pv 12) (pv 13)) (pv 3)) (pac (pv 4) (pac (pv 7) (pac (pv 6) (pac pe_bl pa_nil)))))))
      (pss_cons (ps_set (i := 15) sc_program.nd rfl (Or.inl rfl) (pe_def ((D_lrows 4)) hr rfl (pac (pv 0) (pac (pv 14) (pac pe_int (pac pe_int (pac (pv 8) pa_nil)))))))
      (pss_cut (ps_if (pt_cut (PW.pt (pw_and (pt_cmpR op_gt (pe_def (D_next.mono (by decide)) hr rfl (pac (pv 0) (pac pe_int pa_nil))) pe_int (nomark _)) (pw_and1 (pt_cmpR op_gt (pe_ix ix_list (pv 8) pe_int (fun _ _ => rfl)) pe_int (nomark _))))))
      (pss_cons (ps_asg (pe_op op_sub (pe_ix ix_list (pv 8) pe_int (fun _ _ => rfl)) pe_int) (pg_sub (pv 8) pe_int set_list))
      (pss_one (ps_set (i := 15) sc_program.nd rfl (Or.inl rfl) (pe_op op_catTw (pv 15) (pe_tup (pac (pe_tup (pac pe_str (pac (pe_def ((D_value 3).mono (by decide)) hr rfl (pac (pv 0) (pac pe_int (pac (pe_ix ix_tup (pv 14) pe_int (fun _ _ => rfl)) (pac (pv 4) pa_nil))))) pa_nil))) pa_nil)))))) pss_nil)
      (pss_cons (ps_asg (pe_op op_sub (pe_ix ix_list (pv 8) pe_int (fun _ _ => rfl)) pe_int) (pg_sub (pv 8) pe_int set_list))
      (pss_one (ps_expr (pe_bm PySem.F.plainAttrs_list PySem.F.slot_list_append PySem.F.type_list_append mt_append (pv 9) (pac (pe_tup (pac (pv 10) (pac (pe_cT call_tuple_of rfl T.z_tuple bt_tuple (pac (pv 12) pa_nil)) (pac (pe_cT call_tuple_of rfl T.z_tuple bt_tuple (pac (pv 13) pa_nil)) (pac (pv 15) pa_nil))))) pa_nil)))))))))))
      (pss_cons (ps_set (i := 15) sc_program.nd rfl (Or.inl rfl) (pe_def ((D_lrows 4)) hr rfl (pac (pv 0) (pac (pe_tup (pac (pv 3) (pac (pv 4) (pac (pv 7) (pac (pv 6) (pac pe_bl pa_nil)))))) (pac pe_int (pac (pv 1) (pac (pv 8) pa_nil)))))))
      (pss_cons (ps_set (i := 1) sc_program.nd rfl (Or.inr rfl) (pe_ix ix_list (pe_lst (pa_const [.int 6, .int 6, .int 1000000] (by rfl))) (pe_def (D_next.mono (by decide)) hr rfl (pac (pv 0) (pac pe_int pa_nil))) (fun _ _ => rfl)))
      (pss_cons (ps_set (i := 16) sc_program.nd rfl (Or.inl rfl) (pe_cT call_tuple_of rfl T.z_tuple bt_tuple (pac (pe_comp (N' := ["_law_box", "_law_state_here", "_law_most"]) (comp_scope (defScope (top 22)) (by rfl) (by decide +kernel) (by decide +kernel) (by decide +kernel) (by decide +kernel) (by decide +kernel) (by decide +kernel)) rfl (capt 1 [0, 1] (by rfl) (by rfl) (by decide +kernel)) (pi_list (pv 3)) (fun _ _ _ => pg_name (i := 0) (show (["_law_box", "_law_state_here", "_law_most"] : List Str).Nodup by decide +kernel) rfl (Or.inl rfl) (Or.inr rfl)) (fun _ _ _ => pifs_nil) (fun _ _ _ => (pe_tup (pac (pv 0) (pac (pe_def (D_next.mono (by decide)) hr rfl (pac (pv 1) (pac (pv 2) pa_nil))) pa_nil))))) pa_nil)))
      (pss_cons (ps_set (i := 11) sc_program.nd rfl (Or.inl rfl) (pe_ix ix_list (pe_lst (pa_const [.int 4, .int 4, .int 13] (by rfl))) (pe_def (D_next.mono (by decide)) hr rfl (pac (pv 0) (pac pe_int pa_nil))) (fun _ _ => rfl)))
      (pss_cons (ps_set (i := 17) sc_program.nd rfl (Or.inl rfl) (pe_lst pa_nil))
      (pss_cons (ps_for PassesOwn.never rfl (pi_list (pv 4)) (pg_name (i := 18) sc_program.nd rfl (Or.inl rfl))
      (pss_one (ps_expr (pe_bm PySem.F.plainAttrs_list PySem.F.slot_list_append PySem.F.type_list_append mt_append (pv 17) (pac (pe_tup (pac (pv 18) (pac (pe_cT call_tuple_of rfl T.z_tuple bt_tuple (pac (pe_comp (N' := ["_law_k", "_law_state_here", "_law_most"]) (comp_scope (defScope (top 22)) (by rfl) (by decide +kernel) (by decide +kernel) (by decide +kernel) (by decide +kernel) (by decide +kernel) (by decide +kernel)) rfl (capt 1 [0, 1] (by rfl) (by rfl) (by decide +kernel)) (pi_range1 rfl T.z_range (pac (pe_def (D_next.mono (by decide)) hr rfl (pac (pv 0) (pac (pv 11) pa_nil))) pa_nil)) (fun _ _ _ => pg_name (i := 0) (show (["_law_k", "_law_state_here", "_law_most"] : List Str).Nodup by decide +kernel) rfl (Or.inl rfl) (Or.inr rfl)) (fun _ _ _ => pifs_nil) (fun _ _ _ => (pe_def (D_next.mono (by decide)) hr rfl (pac (pv 1) (pac (pv 2) pa_nil))))) pa_nil)) pa_nil))) pa_nil)))))
      (pss_one (ps_ret (pe_tup (pac (pv 16) (pac (pe_cT call_tuple_of rfl T.z_tuple bt_tuple (pac (pv 17) pa_nil)) (pac (pe_cT call_tuple_of rfl T.z_tuple bt_tuple (pac (pv 9) pa_nil)) (pac (pv 15) pa_nil)))))))))))))))))))))), ?_⟩
  have l3 : (1000 : Nat) < sizeLine := by decide
  refine ⟨_, rfl, p, 9, rfl, g, by decide, by decide, fun an nms H1 e1 han hn1 hlen hnm => ?_⟩
  have hl9 : nms.length = 9 := by omega
  -- the boxes
  refine ⟨_, rfl, (by show 4 ≤ sizeLine; omega), fun c1 hc1 => ?_⟩
  have e2 := e1.trans (Ext.new e1.gen hc1 (.lst [.int 1, .int 2, .int 2, .int 3]))
  have c1p : c1 ≠ p := e1.gen.ne hc1
  refine ⟨_, rfl, p, 4, rfl, e2.gen, by decide, fun r3 H3 r30 r31 e3 => ?_⟩
  obtain ⟨v3, hv3, hm3⟩ := at_mem (xs := [V.int 1, .int 2, .int 2, .int 3]) r30 r31
  obtain ⟨i3, rfl⟩ : ∃ i, v3 = .int i := by
    simp only [List.mem_cons, List.not_mem_nil, or_false] at hm3
    rcases hm3 with rfl | rfl | rfl | rfl <;> exact ⟨_, rfl⟩
  refine ⟨c1, _, r3, _, rfl, rfl, SqL.of (e3.but _ _ c1p upd_same), hv3, ?_⟩
  have e03 := e2.trans e3
  have hn3 : H3 an = some (.lst (nms.map V.str)) := strs_kn ((kn_new hc1 _).trans (Ext.kn e2.gen e3)) hn1
  refine ⟨i3, rfl, an, _, rfl, SqL.of hn3, fun b hb => ?_⟩
  obtain ⟨bs, ebs, hbs, hbl⟩ := cut_strs nms none (some i3)
  rw [ebs]
  have hb4 : upd H3 b (.lst (bs.map V.str)) b = some (.lst (bs.map V.str)) := upd_same
  have hn4 := same_of_new hb (.lst (bs.map V.str)) _ _ hn3
  have e04 := e03.trans (Ext.new e03.gen hb (.lst (bs.map V.str)))
  generalize upd H3 b (.lst (bs.map V.str)) = H4 at *
  -- the lists
  refine ⟨_, rfl, 3, rfl, an, _, rfl, SqL.of hn4, fun c2 hc2 => ?_⟩
  obtain ⟨ls0, els0, hls0, hll0⟩ := cut_strs nms (some 3) none
  rw [els0]
  have hc25 : upd H4 c2 (.lst (ls0.map V.str)) c2 = some (.lst (ls0.map V.str)) := upd_same
  have k45 := kn_new hc2 (.lst (ls0.map V.str))
  have e05 := e04.trans (Ext.new e04.gen hc2 (.lst (ls0.map V.str)))
  generalize upd H4 c2 (.lst (ls0.map V.str)) = H5 at *
  refine ⟨(by show 4 ≤ sizeLine; omega), fun c3 hc3 => ?_⟩
  have e06 := e05.trans (Ext.new e05.gen hc3 (.lst [.int 0, .int 1, .int 1, .int 2]))
  have c3p : c3 ≠ p := e05.gen.ne hc3
  refine ⟨_, rfl, p, 4, rfl, e06.gen, by decide, fun r7 H7 r70 r71 e7 => ?_⟩
  obtain ⟨v7, hv7, hm7⟩ := at_mem (xs := [V.int 0, .int 1, .int 1, .int 2]) r70 r71
  obtain ⟨i7, rfl⟩ : ∃ i, v7 = .int i := by
    simp only [List.mem_cons, List.not_mem_nil, or_false] at hm7
    rcases hm7 with rfl | rfl | rfl | rfl <;> exact ⟨_, rfl⟩
  refine ⟨c3, _, r7, _, rfl, rfl, SqL.of (e7.but _ _ c3p upd_same), hv7, ?_⟩
  have e07 := e06.trans e7
  have k57 := (kn_new hc3 (.lst [.int 0, .int 1, .int 1, .int 2])).trans (Ext.kn e06.gen e7)
  have k47 := k45.trans k57
  refine ⟨i7, rfl, c2, _, rfl, SqL.of (strs_kn k57 hc25), fun l hl => ?_⟩
  obtain ⟨ls, els, hls, hll⟩ := cut_strs ls0 none (some i7)
  rw [els]
  have hl8 : upd H7 l (.lst (ls.map V.str)) l = some (.lst (ls.map V.str)) := upd_same
  have k48 := k47.trans (kn_new hl (.lst (ls.map V.str)))
  have e08 := e07.trans (Ext.new e07.gen hl (.lst (ls.map V.str)))
  generalize upd H7 l (.lst (ls.map V.str)) = H8 at *
  have hb8 := strs_kn k48 hb4
  have hn8 := strs_kn k48 hn4
  clear k48 k47 k57 k45 hc25 hv7 hm7 hv3 hm3
  -- the titles
  refine ⟨_, rfl, p, 4, rfl, e08.gen, by decide, by decide, fun tn tms H9 e9 htn htn9 htl htnm => ?_⟩
  have htl4 : tms.length = 4 := by omega
  refine ⟨_, rfl, p, 3, rfl, e9.gen, by decide, fun r10 H10 r100 r101 e10 => ?_⟩
  have k89 := (Ext.kn e08.gen e9).trans (Ext.kn e9.gen e10)
  refine ⟨r10, rfl, tn, _, rfl, SqL.of (strs_kn (Ext.kn e9.gen e10) htn9), fun ti hti => ?_⟩
  obtain ⟨ts, ets, hts, htsl⟩ := cut_strs tms none (some r10)
  rw [ets]
  have hti11 : upd H10 ti (.lst (ts.map V.str)) ti = some (.lst (ts.map V.str)) := upd_same
  have k11 := k89.trans (kn_new hti (.lst (ts.map V.str)))
  have e011 := ((e08.trans e9).trans e10).trans (Ext.new e10.gen hti (.lst (ts.map V.str)))
  generalize upd H10 ti (.lst (ts.map V.str)) = H11 at *
  have hb11 := strs_kn k11 hb8
  have hn11 := strs_kn k11 hn8
  have hl11 := strs_kn k11 hl8
  -- the doors
  obtain ⟨d0, hd0, hd0m⟩ := at_str (ns := nms) (k := 0) (by decide) (by omega)
  obtain ⟨d5, hd5, hd5m⟩ := at_str (ns := nms) (k := 5) (by decide) (by omega)
  refine ⟨_, rfl, an, _, 0, _, rfl, rfl, SqL.of hn11, hd0, _, rfl, an, _, 5, _, rfl, rfl, SqL.of hn11, hd5, (by show 3 ≤ sizeLine; omega), fun c4 hc4 => ?_⟩
  have hc412 : upd H11 c4 (.lst ([d0, d5, "door"].map V.str)) c4 = some (.lst ([d0, d5, "door"].map V.str)) := upd_same
  have k12 := kn_new hc4 (.lst ([d0, d5, "door"].map V.str))
  have e012 := e011.trans (Ext.new e011.gen hc4 (.lst ([d0, d5, "door"].map V.str)))
  rw [show HO.lst [V.str d0, V.str d5, V.str "door"] = HO.lst ([d0, d5, "door"].map V.str) from rfl]
  generalize upd H11 c4 (.lst ([d0, d5, "door"].map V.str)) = H12 at *
  refine ⟨_, rfl, p, 4, rfl, e012.gen, by decide, fun r13 H13 r130 r131 e13 => ?_⟩
  have k13 := Ext.kn e012.gen e13
  refine ⟨r13, rfl, c4, _, rfl, SqL.of (strs_kn k13 hc412), fun dr hdr => ?_⟩
  obtain ⟨ds, eds, hds, hdsl⟩ := cut_strs [d0, d5, "door"] none (some r13)
  rw [eds]
  have hdr14 : upd H13 dr (.lst (ds.map V.str)) dr = some (.lst (ds.map V.str)) := upd_same
  have k14 := (k12.trans k13).trans (kn_new hdr (.lst (ds.map V.str)))
  have e014 := (e012.trans e13).trans (Ext.new e13.gen hdr (.lst (ds.map V.str)))
  generalize upd H13 dr (.lst (ds.map V.str)) = H14 at *
  have hb14 := strs_kn k14 hb11
  have hn14 := strs_kn k14 hn11
  have hl14 := strs_kn k14 hl11
  have hti14 := strs_kn k14 hti11
  have dnm : ∀ x ∈ ds, 1 ≤ x.length ∧ x.length ≤ 10 := fun x hx => by
    rcases List.mem_cons.mp (hds x hx) with rfl | hx
    · have := nm_len (hnm _ hd0m); omega
    rcases List.mem_cons.mp hx with rfl | hx
    · have := nm_len (hnm _ hd5m); omega
    · rw [List.mem_singleton.mp hx]; decide
  -- the amounts
  refine ⟨_, rfl, ti, rfl, ⟨_, SqL.of hti14⟩, fun am ham => ?_⟩
  have amp : am ≠ p := e014.gen.ne ham
  refine ⟨fun i m σ2 ys H2 => m = ts.length - i ∧ i ≤ ts.length ∧ (∃ y0, σ2 = [y0, some (.ref p)]) ∧ Paired (Fu H2) (ts.take i) ys ∧ H2 am = some (.lst ys) ∧ Ext p H14 H2, ⟨_, rfl, Nat.zero_le _, ⟨_, rfl⟩, .nil, upd_same, Ext.new e014.gen ham _⟩, ?_⟩
  rintro i _ σ2 ys H15 ⟨rfl, hi, ⟨y0, rfl⟩, hpa, ham15, e15⟩
  refine ⟨ham15, ?_⟩
  have k15 := Ext.kn e014.gen e15
  have hyl := hpa.length
  rw [List.length_take] at hyl
  by_cases hlt : i < ts.length
  · obtain ⟨x, hxi⟩ : ∃ x, ts[i]? = some x := ⟨_, List.getElem?_eq_getElem hlt⟩
    have hxi' : (ts.map V.str)[i]? = some (.str x) := by rw [List.getElem?_map, hxi]; rfl
    refine .inr ⟨⟨_, _, SqL.of (strs_kn k15 hti14), hxi'⟩, by omega, ?_⟩
    rintro x' H3' ⟨rfl, hx⟩
    have := hx _ (SqL.of (strs_kn k15 hti14))
    rw [hxi'] at this
    injection this with this
    subst this
    refine ⟨_, rfl, _, rfl, p, 3, rfl, e15.gen, by decide, fun r16 H16 r160 r161 e16 => ⟨(by show 2 ≤ sizeLine; omega), fun u hu => ?_⟩⟩
    have e17 := e16.trans (Ext.new e16.gen hu (.tup [.str x, .int r16]))
    have ham17 := e17.but _ _ amp ham15
    have uam : u ≠ am := fun z => by rw [z, e16.but _ _ amp ham15] at hu; cases hu
    refine ⟨ham17, _, (by omega : ts.length - (i + 1) < ts.length - i), rfl, hlt, ⟨_, rfl⟩, ?_, upd_same, ⟨fun b' o' hb' h => ?_, ?_⟩⟩
    · rw [List.take_add_one, hxi]
      exact paired_snoc (paired_imp (fun _ _ z => (z.tk (Ext.kn e15.gen e17).tk).tk (tk_upd ham17)) hpa) ⟨u, r16, rfl, by rw [upd_ne uam]; exact upd_same, r160, by omega⟩
    · rw [upd_ne (ne_of_none h ham)]; exact (e15.trans e17).but _ _ hb' h
    · obtain ⟨n', hp', r'⟩ := e17.gen
      exact ⟨n', by rw [upd_ne (Ne.symm amp)]; exact hp', r'⟩
  obtain rfl : i = ts.length := by omega
  refine .inl ⟨⟨_, SqL.of (strs_kn k15 hti14), by rw [List.length_map]; exact Nat.le_refl _⟩, ?_⟩
  rw [List.take_length] at hpa
  have hyl4 : ys.length ≤ 4 := by omega
  have hysr : ∀ u ∈ ys, ∃ t, u = .ref t := by
    intro u hu
    obtain ⟨i, hi, rfl⟩ := List.mem_iff_getElem.mp hu
    have hi' : i < ts.length := by rw [hpa.length]; exact hi
    obtain ⟨t, _, e, _⟩ := paired_at hpa (List.getElem?_eq_getElem hi') (List.getElem?_eq_getElem hi)
    exact ⟨t, e⟩
  have hb15 := strs_kn k15 hb14
  have hn15 := strs_kn k15 hn14
  have hl15 := strs_kn k15 hl14
  have hdr15 := strs_kn k15 hdr14
  have e015 := e014.trans e15
  clear k15 hti14 hb14 hn14 hl14 hdr14 k14 k13 k12 hc412 k11 hn11 hb11 hl11 k89
  refine ⟨(by show 1 ≤ sizeLine; omega), fun q hq => ?_⟩
  have qp : q ≠ p := e15.gen.ne hq
  have k16 : Kn H15 (upd H15 q (.lst [.int 56])) := kn_new hq _
  have e016 := e015.trans (Ext.new e15.gen hq (.lst [.int 56]))
  have hq16 : upd H15 q (.lst [.int 56]) q = some (.lst [.int 56]) := upd_same
  have hb16 := strs_kn k16 hb15
  have hn16 := strs_kn k16 hn15
  have hl16 := strs_kn k16 hl15
  have hdr16 := strs_kn k16 hdr15
  have ham16 := refs_kn k16 hysr ham15
  have hpa16 : Paired (Fu (upd H15 q (.lst [.int 56]))) ts ys := paired_imp (fun _ _ z => z.tk k16.tk) hpa
  have hq0 : H q = none := e015.free hq
  have bnm : ∀ x ∈ bs, 1 ≤ x.length ∧ x.length ≤ 10 := fun x hx => by have := nm_len (hnm x (hbs x hx)); omega
  have lnm : ∀ x ∈ ls, 1 ≤ x.length ∧ x.length ≤ 10 := fun x hx => by have := nm_len (hnm x (hls0 x (hls x hx))); omega
  have tnm : ∀ x ∈ ts, 1 ≤ x.length ∧ x.length ≤ 10 := fun x hx => by have := nm_len (htnm x (hts x hx)); omega
  generalize upd H15 q (.lst [.int 56]) = HB at *
  clear k16 hb15 hn15 hl15 hdr15 ham15 hpa e015 hq e15
  have lfB : ∃ n : Int, HB q = some (.lst [.int n]) := ⟨_, hq16⟩
  have gB := e016.gen
  refine ⟨(by show 0 ≤ sizeLine; omega), fun ff hff => ?_⟩
  have ffp : ff ≠ p := gB.ne hff
  have ffq : ff ≠ q := fun z => by rw [z, hq16] at hff; cases hff
  have e0 : E2 p q HB (upd HB ff (.lst [])) := E2.fo ⟨fun _ _ _ _ h => h, gB, lfB⟩ hff ffp ffq
  refine ⟨_, rfl, am, rfl, ⟨_, SqL.of (refs_kn (e0.kn gB lfB) hysr ham16)⟩, ?_⟩
  refine for_list (xs := ys) (fun i σ H' => ∃ (fns : List V) (fs : List Fn) (x10 x11 x12 x13 x14 x15 : Option V), σ = [some (.ref p), some (.int 6), some (.ref an), some (.ref b), some (.ref l), some (.ref ti), some (.ref dr), some (.ref am), some (.ref q), some (.ref ff), x10, x11, x12, x13, x14, x15, none, none, none] ∧ E2 p q HB H' ∧ H' ff = some (.lst fns) ∧ fns.length = i ∧ Paired (FunIs H') fns fs) ?_ ?_ ?_ ?_
  · exact ⟨[], [], _, _, _, _, _, _, rfl, e0, upd_same, rfl, .nil⟩
  · rintro i σ H' hi ⟨fns, fs, _, _, _, _, _, _, rfl, e, _⟩
    exact SqL.of (refs_kn (e.kn gB lfB) hysr ham16)
  · rintro i x σ H1 hxi ⟨fns, fs, x10, x11, x12, x13, x14, x15, rfl, eB, hf1, hfl, hFu⟩
    have k1 := eB.kn gB lfB
    have hil : i < ys.length := (List.getElem?_eq_some_iff.mp hxi).1
    have hil2 : i < ts.length := by rw [hpa16.length]; exact hil
    obtain ⟨tt, hti'⟩ : ∃ t, ts[i]? = some t := ⟨_, List.getElem?_eq_getElem hil2⟩
    obtain ⟨ft, fk, rfl, hft, fk0, fk2⟩ := (paired_at hpa16 hti' hxi).tk k1.tk
    refine ⟨ft, _, rfl, SqT.of hft, rfl, _, _, rfl, _, _, rfl, rfl, ?_⟩
    have hn1' := strs_kn k1 hn16
    -- params
    refine ⟨_, rfl, 5, rfl, an, _, rfl, SqL.of hn1', fun c1 hc1' => ?_⟩
    obtain ⟨p0, ep0, hp0, hp0l⟩ := cut_strs nms (some 5) none
    rw [ep0]
    have a1 := same_of_new hc1' (.lst (p0.map V.str))
    refine ⟨_, rfl, fk, rfl, c1, _, rfl, SqL.of upd_same, fun pm hpm => ?_⟩
    obtain ⟨ps, eps, hps, hpsl⟩ := cut_strs p0 none (some fk)
    rw [eps]
    have hpm2 : upd (upd H1 c1 (.lst (p0.map V.str))) pm (.lst (ps.map V.str)) pm = some (.lst (ps.map V.str)) := upd_same
    have a2 := a1.trans (same_of_new hpm (.lst (ps.map V.str)))
    generalize upd (upd H1 c1 (.lst (p0.map V.str))) pm (.lst (ps.map V.str)) = H2 at *
    -- owns
    refine ⟨_, rfl, 7, rfl, an, _, rfl, SqL.of (a2 _ _ hn1'), fun c2 hc2' => ?_⟩
    obtain ⟨o0, eo0, ho0, ho0l⟩ := cut_strs nms (some 7) none
    rw [eo0]
    have hc23 : upd H2 c2 (.lst (o0.map V.str)) c2 = some (.lst (o0.map V.str)) := upd_same
    have a3 := same_of_new hc2' (.lst (o0.map V.str))
    generalize upd H2 c2 (.lst (o0.map V.str)) = H3 at *
    have f13 := E2.of qp eB.lf (Same.ext eB.gen (a2.trans a3))
    have e3 := eB.trans f13
    refine ⟨_, rfl, p, 3, rfl, e3.gen, by decide, fun r4 H4 _ _ e4 => ?_⟩
    have f4 := E2.of qp e3.lf e4
    have k34 := Ext.kn e3.gen e4
    refine ⟨r4, rfl, c2, _, rfl, SqL.of (strs_kn k34 hc23), fun ow how => ?_⟩
    obtain ⟨os, eos, hos, hosl⟩ := cut_strs o0 none (some r4)
    rw [eos]
    have how5 : upd H4 ow (.lst (os.map V.str)) ow = some (.lst (os.map V.str)) := upd_same
    have a5 := same_of_new how (.lst (os.map V.str))
    have k35 := k34.trans (kn_new how (.lst (os.map V.str)))
    have f5 := E2.of qp (e3.trans f4).lf (Same.ext e4.gen a5)
    have e5 := (e3.trans f4).trans f5
    generalize upd H4 ow (.lst (os.map V.str)) = H5 at *
    have hpm5 := strs_kn k35 (a3 _ _ hpm2)
    have k5 := e5.kn gB lfB
    -- the names within
    refine ⟨_, rfl, _, rfl, pm, ow, _, _, rfl, rfl, hpm5, how5, (by simp only [List.length_map]; omega), fun c3 hc3' => ?_⟩
    have a6 := same_of_new hc3' (.lst (ps.map V.str ++ os.map V.str))
    refine ⟨_, rfl, c3, b, _, _, rfl, rfl, upd_same, a6 _ _ (strs_kn k5 hb16), (by simp only [List.length_map, List.length_append]; omega), fun bb hbb => ?_⟩
    have a7 := a6.trans (same_of_new hbb (.lst (ps.map V.str ++ os.map V.str ++ bs.map V.str)))
    refine ⟨_, rfl, _, rfl, _, rfl, (by show 5 ≤ sizeLine; omega), fun N hN => ?_⟩
    have a8 := a7.trans (same_of_new hN (.tup [.ref bb, .ref l, .ref am, .ref dr, .bl true]))
    have hbb8 := same_of_new hN (.tup [.ref bb, .ref l, .ref am, .ref dr, .bl true]) _ _ (upd_same (H := upd H5 c3 (.lst (ps.map V.str ++ os.map V.str))) (a := bb) (o := .lst (ps.map V.str ++ os.map V.str ++ bs.map V.str)))
    have hN8 : upd (upd (upd H5 c3 (.lst (ps.map V.str ++ os.map V.str))) bb (.lst (ps.map V.str ++ os.map V.str ++ bs.map V.str))) N (.tup [.ref bb, .ref l, .ref am, .ref dr, .bl true]) N = some (.tup [.ref bb, .ref l, .ref am, .ref dr, .bl true]) := upd_same
    generalize upd (upd (upd H5 c3 (.lst (ps.map V.str ++ os.map V.str))) bb (.lst (ps.map V.str ++ os.map V.str ++ bs.map V.str))) N (.tup [.ref bb, .ref l, .ref am, .ref dr, .bl true]) = H8 at *
    have f8 := E2.of qp e5.lf (Same.ext e5.gen a8)
    have e8 := e5.trans f8
    have k8 := e8.kn gB lfB
    rw [← List.map_append, ← List.map_append] at hbb8
    have hNm : NmE H8 N bb l am dr (ps ++ os ++ bs) ls ys ds true := by
      refine ⟨hN8, hbb8, strs_kn k8 hl16, refs_kn k8 hysr ham16, strs_kn k8 hdr16, fun f hf => ?_, fun x hx => ?_, lnm, dnm⟩
      · obtain ⟨i, hi, rfl⟩ := List.mem_iff_getElem.mp hf
        have hi' : i < ts.length := by rw [hpa16.length]; exact hi
        obtain ⟨t, k, z1, z2, z3, z4⟩ := (paired_at hpa16 (List.getElem?_eq_getElem hi') (List.getElem?_eq_getElem hi)).tk k8.tk
        exact ⟨t, _, k, z1, z2, z3, z4, (tnm _ (List.getElem_mem hi')).2⟩
      · have : x ∈ nms := by
          rcases List.mem_append.mp hx with hx | hx
          · rcases List.mem_append.mp hx with hx | hx
            · exact hp0 x (hps x hx)
            · exact ho0 x (hos x hx)
          · exact hbs x hx
        have := nm_len (hnm x this)
        exact ⟨by omega, by omega⟩
    refine ⟨_, rfl, _, rfl, _, rfl, p, N, bb, l, am, dr, ps ++ os ++ bs, ls, ys, ds, true, q, 1, 4, rfl, e8.gen, hNm, e8.lf, qp, by decide, by decide, by decide, by decide, fun R rs H9 e9 hR hRl ⟨oR, hRw0, hcR0⟩ => ?_⟩
    have hRw : Rs H9 3 rs oR := hRw0
    have hcR : oR.length ≤ 1120 := hcR0
    have e09 := e8.trans e9
    have hRl8 : rs.length ≤ 8 := by omega
    have k89 := e9.kn e8.gen e8.lf
    have k59 := (f8.kn e5.gen e5.lf).trans k89
    have hf9 : H9 ff = some (.lst fns) := by
      have h1 := (((f13.trans f4).trans f5).trans f8).trans e9
      exact h1.but ff _ ffp ffq hf1
    -- a return more, or none
    refine ⟨fun σ H' => ∃ (R : Addr) (rs : List V), σ = [some (.ref p), some (.int 6), some (.ref an), some (.ref b), some (.ref l), some (.ref ti), some (.ref dr), some (.ref am), some (.ref q), some (.ref ff), some (.str tt), some (.int fk), some (.ref pm), some (.ref ow), some (.ref N), some (.ref R), none, none, none] ∧ E2 p q H9 H' ∧ H' R = some (.tup rs) ∧ rs.length ≤ 9 ∧ ∃ o, Rs H' 3 rs o ∧ o.length ≤ 1121, ?_, ?_⟩
    · refine ⟨fun t' H' => E2 p q H9 H', ?_, ?_⟩
      · refine ⟨_, rfl, p, 3, rfl, e9.gen, by decide, fun r10 H10 _ _ e10 => ⟨_, _, rfl, rfl, _, rfl, ?_⟩⟩
        have f10 := E2.of qp e9.lf e10
        obtain ⟨n10, hq10⟩ := f10.lf
        exact ite2 (fun _ => ⟨_, rfl, q, _, 0, _, rfl, rfl, SqL.of hq10, atI_nat (j := 0) rfl, _, _, rfl, rfl, _, rfl, f10⟩) (fun _ => f10)
      intro t' H10 f10
      have k10 := f10.kn e9.gen e9.lf
      refine ite2 (fun _ => ?_) (fun _ => ⟨R, rs, rfl, f10, k10.tk _ _ hR, by omega, oR, hRw.tk k10.tk, by omega⟩)
      obtain ⟨n10, hq10⟩ := f10.lf
      refine ⟨_, rfl, q, _, 0, _, rfl, rfl, SqL.of hq10, atI_nat (j := 0) rfl, _, _, rfl, rfl, _, rfl, q, _, 0, 0, rfl, rfl, hq10, rfl, ?_⟩
      rw [show ([V.int n10].set 0 (V.int (n10 - 1))) = [V.int (n10 - 1)] from rfl]
      have f11 : E2 p q H10 (upd H10 q (.lst [.int (n10 - 1)])) := E2.set qp f10.gen _
      have f911 := f10.trans f11
      have k911 := f911.kn e9.gen e9.lf
      generalize upd H10 q (.lst [.int (n10 - 1)]) = H11 at *
      have k811 := k89.trans k911
      refine ⟨_, rfl, _, rfl, _, rfl, N, _, 0, _, rfl, rfl, SqT.of (k811.tk _ _ hN8), atI_nat (j := 0) rfl, _, rfl, p, 2, bb, l, ps ++ os ++ bs, ls, rfl, f911.gen, by decide, by decide, strs_kn k811 hbb8, strs_kn k811 hNm.l, hNm.bl, hNm.ll, fun vh vws H12 e12 hvh => ⟨(by show 2 ≤ sizeLine; omega), fun u1 hu1 => ⟨(by show 1 ≤ sizeLine; omega), fun u2 hu2 => ?_⟩⟩⟩
      have b1 := same_of_new hu1 (.tup [.str "return", vh])
      have b2 := b1.trans (same_of_new hu2 (.tup [.ref u1]))
      have f12 := E2.of qp f911.lf (e12.trans (Same.ext e12.gen b2))
      have f912 := f911.trans f12
      have k912 := f912.kn e9.gen e9.lf
      refine ⟨R, u2, _, _, rfl, rfl, k912.tk _ _ hR, upd_same, (by show rs.length + 1 ≤ sizeLine; omega), fun c H13 s13 hc13 => ?_⟩
      have f13' := f912.trans (E2.of qp f912.lf (Same.ext f912.gen s13))
      obtain ⟨wr, hPr⟩ := mk1 (H := H13) (u := u1) (s13 _ _ (same_of_new hu2 (.tup [.ref u1]) _ _ (upd_same (H := H12) (a := u1) (o := .tup [.str "return", vh])))) (hvh.tk ((TK.of b2).trans (TK.of s13))) (by decide)
      refine ⟨c, rs ++ [.ref u1], rfl, f13', hc13, by rw [List.length_append]; show rs.length + 1 ≤ 9; omega, oR ++ [(0, joinW wr)], (hRw.tk (k912.tk.trans (TK.of s13))).app (.plain hPr .nil), by rw [List.length_append]; show oR.length + 1 ≤ 1121; omega⟩
    rintro σ H14 ⟨R', rs', rfl, f14, hR', hRl', oR', hRw', hcR'⟩
    obtain ⟨n14, hq14⟩ := f14.lf
    refine ⟨_, rfl, q, _, 0, _, rfl, rfl, SqL.of hq14, atI_nat (j := 0) rfl, _, _, rfl, rfl, _, rfl, q, _, 0, 0, rfl, rfl, hq14, rfl, ?_⟩
    rw [show ([V.int n14].set 0 (V.int (n14 - 1))) = [V.int (n14 - 1)] from rfl]
    have f15 : E2 p q H14 (upd H14 q (.lst [.int (n14 - 1)])) := E2.set qp f14.gen _
    have k15 := f15.kn f14.gen f14.lf
    have hR15 := k15.tk _ _ hR'
    have hRw15 := hRw'.tk k15.tk
    generalize upd H14 q (.lst [.int (n14 - 1)]) = H15' at *
    have f915 := f14.trans f15
    have k915 := f915.kn e9.gen e9.lf
    have k515 := k59.trans k915
    have hf15 := f915.but ff _ ffp ffq hf9
    have e015' := e09.trans f915
    refine ⟨_, rfl, .inl ⟨rfl, _, SqL.of hf15⟩, _, rfl, _, rfl, pm, _, rfl, .inl ⟨SqL.of (strs_kn k515 hpm5), fun u1 hu1 => ?_⟩⟩
    have b1 := same_of_new hu1 (.tup (ps.map V.str))
    refine ⟨_, rfl, ow, _, rfl, .inl ⟨SqL.of (b1 _ _ (strs_kn k515 how5)), fun u2 hu2 => ?_⟩⟩
    have b2 := b1.trans (same_of_new hu2 (.tup (os.map V.str)))
    refine ⟨_, rfl, (by show 4 ≤ sizeLine; omega), fun u hu => ?_⟩
    have b3 := b2.trans (same_of_new hu (.tup [.str tt, .ref u1, .ref u2, .ref R']))
    have hfu := b3 _ _ hf15
    refine ⟨ff, _, _, rfl, rfl, hfu, (by omega), ?_⟩
    have uff : u ≠ ff := fun z => by rw [z, b2 _ _ hf15] at hu; cases hu
    have tu := tk_upd (o := .lst (fns ++ [.ref u])) hfu
    have k1u : TK H1 _ := ((((f13.trans f4).trans f5).trans f8).trans (e9.trans f915)).kn eB.gen eB.lf |>.tk |>.trans (TK.of b3) |>.trans tu
    refine ⟨fns ++ [.ref u], fs ++ [⟨tt, ps, os, rs', oR'⟩], _, _, _, _, _, _, rfl, (e015'.trans (E2.of qp e015'.lf (Same.ext e015'.gen b3))).fo hff ffp ffq, upd_same, by rw [List.length_append, hfl]; rfl, paired_snoc (paired_imp (fun _ _ z => z.tk k1u) hFu) ?_⟩
    have q3 := same_of_new hu (.tup [.str tt, .ref u1, .ref u2, .ref R'])
    have q2 := same_of_new hu2 (.tup (os.map V.str))
    have ttm : tt ∈ ts := List.mem_of_getElem? hti'
    refine ⟨u, u1, u2, R', rfl, tu _ _ upd_same, tu _ _ (q3 _ _ (q2 _ _ upd_same)), tu _ _ (q3 _ _ upd_same), tu _ _ (b3 _ _ hR15), (hRw15.tk (TK.of b3)).tk tu, (tnm tt ttm).2, fun x hx => ?_, ?_, fun x hx => ?_, ?_, ?_, (tnm tt ttm).1⟩
    · have := nm_len (hnm x (hp0 x (hps x hx))); omega
    · show ps.length ≤ 9; omega
    · have := nm_len (hnm x (ho0 x (hos x hx))); omega
    · show os.length ≤ 9; omega
    · show oR'.length ≤ 1200; omega
  rintro σ H1 ⟨fns, fs, x10, x11, x12, x13, x14, x15, rfl, eB, hf1, hfl, hFu⟩
  have hfs4 : fs.length ≤ 4 := by rw [← hFu.length]; omega
  have k1 := eB.kn gB lfB
  -- the program's rows
  refine ⟨_, rfl, _, rfl, _, rfl, _, rfl, _, rfl, (by show 5 ≤ sizeLine; omega), fun N hN => ?_⟩
  have a2 := same_of_new hN (.tup [.ref b, .ref l, .ref am, .ref dr, .bl false])
  have f2 := E2.of qp eB.lf (Same.ext eB.gen a2)
  have e2' := eB.trans f2
  have k2 := e2'.kn gB lfB
  have hNm : NmE (upd H1 N (.tup [.ref b, .ref l, .ref am, .ref dr, .bl false])) N b l am dr bs ls ys ds false := by
    refine ⟨upd_same, strs_kn k2 hb16, strs_kn k2 hl16, refs_kn k2 hysr ham16, strs_kn k2 hdr16, fun f hf => ?_, bnm, lnm, dnm⟩
    obtain ⟨i, hi, rfl⟩ := List.mem_iff_getElem.mp hf
    have hi' : i < ts.length := by rw [hpa16.length]; exact hi
    obtain ⟨t, k, z1, z2, z3, z4⟩ := (paired_at hpa16 (List.getElem?_eq_getElem hi') (List.getElem?_eq_getElem hi)).tk k2.tk
    exact ⟨t, _, k, z1, z2, z3, z4, (tnm _ (List.getElem_mem hi')).2⟩
  refine ⟨_, rfl, _, rfl, p, N, b, l, am, dr, bs, ls, ys, ds, false, q, 1, 6, rfl, e2'.gen, hNm, e2'.lf, qp, by decide, by decide, by decide, by decide, fun R rs H3 e3 hR hRl ⟨oP, hRw0, hcP0⟩ => ?_⟩
  have hRw : Rs H3 3 rs oP := hRw0
  have hcP : oP.length ≤ 1680 := hcP0
  have hRl12 : rs.length ≤ 12 := by omega
  have e03' := e2'.trans e3
  have k13 := (f2.trans e3).kn eB.gen eB.lf
  have hFu3 : Paired (FunIs H3) fns fs := paired_imp (fun _ _ z => z.tk k13.tk) hFu
  have hf3 := (f2.trans e3).but ff _ ffp ffq hf1
  have hfr : ∀ u ∈ fns, ∃ t, u = .ref t := by
    intro u hu
    obtain ⟨i, hi, rfl⟩ := List.mem_iff_getElem.mp hu
    have hi' : i < fs.length := by rw [← hFu.length]; exact hi
    obtain ⟨t, _, _, _, e, _⟩ := paired_at hFu (List.getElem?_eq_getElem hi) (List.getElem?_eq_getElem hi')
    exact ⟨t, e⟩
  have hb3 := strs_kn (e03'.kn gB lfB) hb16
  have hl3' := strs_kn (e03'.kn gB lfB) hl16
  -- from here on only the generator moves
  have g3 := e03'.gen
  have fin3 : ∀ (v : V) (H' : Hp) (pg : Pg), Ext p H3 H' → ProgIs H' v pg → Q v H' := fun v H' pg e hP => fin v H' pg ⟨fun c o hc h => e.but c o hc (e03'.but c o hc (ne_of_none h hq0) (e016.but c o hc h)), e.gen⟩ hP
  refine ⟨(by show 3 ≤ sizeLine; omega), fun c1' hc1' => ?_⟩
  have e4 := Ext.new g3 hc1' (.lst [.int 6, .int 6, .int 1000000])
  have c1p' : c1' ≠ p := g3.ne hc1'
  refine ⟨_, rfl, p, 3, rfl, e4.gen, by decide, fun r5 H5 r50 r51 e5 => ?_⟩
  obtain ⟨v5, hv5, hm5⟩ := at_mem (xs := [V.int 6, .int 6, .int 1000000]) r50 r51
  obtain ⟨mo, rfl, mo0, mo1⟩ : ∃ i, v5 = .int i ∧ 0 < i ∧ i ≤ 1000000 := by
    simp only [List.mem_cons, List.not_mem_nil, or_false] at hm5
    rcases hm5 with rfl | rfl | rfl
    · exact ⟨_, rfl, by decide, by decide⟩
    · exact ⟨_, rfl, by decide, by decide⟩
    · exact ⟨_, rfl, by decide, by decide⟩
  refine ⟨c1', _, r5, _, rfl, rfl, SqL.of (e5.but _ _ c1p' upd_same), hv5, ?_⟩
  have e35 := e4.trans e5
  have k35 := Ext.kn g3 e35
  -- the pairs
  refine ⟨_, rfl, b, rfl, ⟨_, SqL.of (strs_kn k35 hb3)⟩, fun acc hacc => ?_⟩
  have accp : acc ≠ p := e35.gen.ne hacc
  have hbl9 : bs.length ≤ 9 := by omega
  refine ⟨fun i m σ2 ys H2 => m = bs.length - i ∧ i ≤ bs.length ∧ (∃ y0, σ2 = [y0, some (.ref p), some (.int mo)]) ∧ ys.length = i ∧ (∃ bx, Paired (BoxIs H2) ys bx) ∧ H2 acc = some (.lst ys) ∧ Ext p H5 H2, ⟨_, rfl, Nat.zero_le _, ⟨_, rfl⟩, rfl, ⟨[], .nil⟩, upd_same, Ext.new e35.gen hacc _⟩, ?_⟩
  rintro i _ σ2 ys6 H6 ⟨rfl, hi6, ⟨y0', rfl⟩, hyl6, ⟨bx6, hbx6⟩, hac6, e6⟩
  refine ⟨hac6, ?_⟩
  have hb6 := strs_kn (k35.trans (Ext.kn e35.gen e6)) hb3
  by_cases hlt6 : i < bs.length
  · obtain ⟨x, hxi⟩ : ∃ x, (bs.map V.str)[i]? = some x := ⟨_, List.getElem?_eq_getElem (by rw [List.length_map]; exact hlt6)⟩
    refine .inr ⟨⟨_, _, SqL.of hb6, hxi⟩, by omega, ?_⟩
    rintro x' H7 ⟨rfl, hx⟩
    have hx7 := hx _ (SqL.of hb6)
    obtain ⟨xn, hxn, rfl⟩ : ∃ xn ∈ bs, x' = .str xn := by
      rw [List.getElem?_map] at hx7
      obtain ⟨xn, h1, h2⟩ := Option.map_eq_some_iff.mp hx7
      exact ⟨xn, List.mem_of_getElem? h1, h2.symm⟩
    refine ⟨_, rfl, _, rfl, _, rfl, p, mo, rfl, e6.gen, mo0, fun r8 H8 r80 r81 e8 => ⟨(by show 2 ≤ sizeLine; omega), fun u hu => ?_⟩⟩
    have e9 := e8.trans (Ext.new e8.gen hu (.tup [.str xn, .int r8]))
    have hac9 := e9.but _ _ accp hac6
    have tu9 := tk_upd (o := .lst (ys6 ++ [.ref u])) hac9
    have hnew : BoxIs (upd (upd H8 u (.tup [.str xn, .int r8])) acc (.lst (ys6 ++ [.ref u]))) (.ref u) (xn, r8) := ⟨u, rfl, tu9 _ _ upd_same, (bnm xn hxn).2, r80, by show r8 < 1000000; omega⟩
    refine ⟨e9.but _ _ accp hac6, _, (by omega : bs.length - (i + 1) < bs.length - i), rfl, hlt6, ⟨_, rfl⟩, by rw [List.length_append, hyl6]; rfl, ⟨bx6 ++ [(xn, r8)], paired_snoc (paired_imp (fun _ _ z => z.tk ((Ext.kn e6.gen e9).tk.trans tu9)) hbx6) hnew⟩, upd_same, ⟨fun b' o' hb' h => ?_, ?_⟩⟩
    · rw [upd_ne (ne_of_none h hacc)]; exact (e6.trans e9).but _ _ hb' h
    · obtain ⟨n', hp', r'⟩ := e9.gen
      exact ⟨n', by rw [upd_ne (Ne.symm accp)]; exact hp', r'⟩
  refine .inl ⟨⟨_, SqL.of hb6, by rw [List.length_map]; omega⟩, ?_⟩
  refine ⟨acc, _, rfl, .inl ⟨SqL.of hac6, fun pr hpr => ?_⟩⟩
  have y67 := Ext.new e6.gen hpr (.tup ys6)
  have e37 := (e35.trans e6).trans y67
  -- the lists' things
  refine ⟨(by show 3 ≤ sizeLine; omega), fun c2' hc2' => ?_⟩
  have e38 := e37.trans (Ext.new e37.gen hc2' (.lst [.int 4, .int 4, .int 13]))
  have c2p' : c2' ≠ p := e37.gen.ne hc2'
  refine ⟨_, rfl, p, 3, rfl, e38.gen, by decide, fun r9 H9 r90 r91 e9 => ?_⟩
  obtain ⟨v9, hv9, hm9⟩ := at_mem (xs := [V.int 4, .int 4, .int 13]) r90 r91
  obtain ⟨ao, rfl, ao0, ao13⟩ : ∃ i, v9 = .int i ∧ 0 < i ∧ i ≤ 13 := by
    simp only [List.mem_cons, List.not_mem_nil, or_false] at hm9
    rcases hm9 with rfl | rfl | rfl
    · exact ⟨_, rfl, by decide, by decide⟩
    · exact ⟨_, rfl, by decide, by decide⟩
    · exact ⟨_, rfl, by decide, by decide⟩
  refine ⟨c2', _, r9, _, rfl, rfl, SqL.of (e9.but _ _ c2p' upd_same), hv9, ?_⟩
  have e39 := e38.trans e9
  refine ⟨(by show 0 ≤ sizeLine; omega), fun th hth => ?_⟩
  have thp : th ≠ p := e39.gen.ne hth
  have thH3 : H3 th = none := e39.free hth
  have k39 := Ext.kn g3 e39
  have hl9' := strs_kn k39 hl3'
  have e3a := e39.trans (Ext.new e39.gen hth (.lst []))
  refine ⟨_, rfl, l, rfl, ⟨_, SqL.of (strs_kn (Ext.kn g3 e3a) hl3')⟩, ?_⟩
  refine for_list (xs := ls.map V.str) (fun i σ H' => ∃ (zs : List V) (x18 : Option V), σ = [some (.ref p), some (.int mo), some (.ref an), some (.ref b), some (.ref l), some (.ref ti), some (.ref dr), some (.ref am), some (.ref q), some (.ref ff), x10, some (.int ao), x12, x13, x14, some (.ref R), some (.ref pr), some (.ref th), x18] ∧ Ext p H3 H' ∧ H' th = some (.lst zs) ∧ zs.length = i ∧ TK (upd H6 pr (.tup ys6)) H' ∧ ∃ lx, Paired (LstIs H') zs lx) ?_ ?_ ?_ ?_
  · exact ⟨[], _, rfl, e3a, upd_same, rfl, (Ext.kn e37.gen ((Ext.new e37.gen hc2' (.lst [.int 4, .int 4, .int 13])).trans (e9.trans (Ext.new e39.gen hth (.lst []))))).tk, [], .nil⟩
  · rintro i σ H' hi ⟨zs, _, rfl, e, _⟩
    exact SqL.of (strs_kn (Ext.kn g3 e) hl3')
  · rintro i x σ Ha hxi ⟨zs, x18, rfl, ea, hza, hzl, tkA, lx, hlx⟩
    obtain ⟨xn, hxn, rfl⟩ : ∃ xn ∈ ls, x = .str xn := by
      rw [List.getElem?_map] at hxi
      obtain ⟨xn, h1, h2⟩ := Option.map_eq_some_iff.mp hxi
      exact ⟨xn, List.mem_of_getElem? h1, h2.symm⟩
    have hil : i < ls.length := by
      have := (List.getElem?_eq_some_iff.mp hxi).1
      rw [List.length_map] at this
      exact this
    refine ⟨_, rfl, .inl ⟨rfl, _, SqL.of hza⟩, _, rfl, ?_⟩
    refine ⟨_, rfl, _, rfl, p, ao, rfl, ea.gen, ao0, fun rr Hb rr0 rr1 eb => ?_⟩
    refine ⟨rr, rfl, by omega, by omega, fun acc2 hacc2 => ?_⟩
    have acc2p : acc2 ≠ p := eb.gen.ne hacc2
    refine ⟨fun i m σ2 ys H2 => m = rr.toNat - i ∧ i ≤ rr.toNat ∧ (∃ y0, σ2 = [y0, some (.ref p), some (.int mo)]) ∧ ys.length = i ∧ (∃ ns : List Int, ys = ns.map V.int ∧ ∀ i ∈ ns, 0 ≤ i ∧ i < 1000000) ∧ H2 acc2 = some (.lst ys) ∧ Ext p Hb H2, ⟨_, rfl, Nat.zero_le _, ⟨_, rfl⟩, rfl, ⟨[], rfl, fun i hi => absurd hi (by simp)⟩, upd_same, Ext.new eb.gen hacc2 _⟩, ?_⟩
    rintro j _ σ2 ysc Hc ⟨rfl, hj, ⟨y1, rfl⟩, hycl, ⟨ns, hns, hnb⟩, hacc', ec⟩
    refine ⟨hacc', ?_⟩
    by_cases hltj : j < rr.toNat
    · refine .inr ⟨hltj, by omega, ?_⟩
      rintro x' Hd ⟨rfl, rfl⟩
      refine ⟨_, rfl, _, rfl, p, mo, rfl, ec.gen, mo0, fun r8 H8 r80 r81 e8 => ?_⟩
      have hns' : ysc ++ [V.int r8] = (ns ++ [r8]).map V.int := by rw [hns, List.map_append]; rfl
      have hnb' : ∀ i ∈ ns ++ [r8], 0 ≤ i ∧ i < 1000000 := fun i hi => by
        rcases List.mem_append.mp hi with hi | hi
        · exact hnb i hi
        · rw [List.mem_singleton.mp hi]; exact ⟨r80, by omega⟩
      refine ⟨e8.but _ _ acc2p hacc', _, (by omega : rr.toNat - (j + 1) < rr.toNat - j), rfl, hltj, ⟨_, rfl⟩, by rw [List.length_append, hycl]; rfl, ⟨_, hns', hnb'⟩, upd_same, ⟨fun b' o' hb' h => ?_, ?_⟩⟩
      · rw [upd_ne (ne_of_none h hacc2)]; exact (ec.trans e8).but _ _ hb' h
      · obtain ⟨n', hp', r'⟩ := e8.gen
        exact ⟨n', by rw [upd_ne (Ne.symm acc2p)]; exact hp', r'⟩
    refine .inl ⟨by show rr.toNat ≤ j; omega, ?_⟩
    refine ⟨acc2, _, rfl, .inl ⟨SqL.of hacc', fun u1 hu1 => ?_⟩⟩
    have ed := (eb.trans ec).trans (Ext.new ec.gen hu1 (.tup ysc))
    refine ⟨(by show 2 ≤ sizeLine; omega), fun u2 hu2 => ?_⟩
    have ee := ed.trans (Ext.new ed.gen hu2 (.tup [.str xn, .ref u1]))
    have hze := ee.but _ _ thp hza
    refine ⟨th, _, _, rfl, rfl, hze, (by omega), ?_⟩
    have tz := tk_upd (o := .lst (zs ++ [.ref u2])) hze
    have q5 := same_of_new hu2 (.tup [.str xn, .ref u1])
    have tkE := (Ext.kn ea.gen ee).tk.trans tz
    have hnlen : ns.length ≤ 20 := by
      have := congrArg List.length hns
      rw [List.length_map] at this
      omega
    have hnewL : LstIs (upd (upd (upd Hc u1 (.tup ysc)) u2 (.tup [.str xn, .ref u1])) th (.lst (zs ++ [.ref u2]))) (.ref u2) (xn, ns) := ⟨u2, u1, rfl, tz _ _ upd_same, tz _ _ (q5 _ _ (by rw [upd_same, hns])), (lnm xn hxn).2, hnlen, hnb⟩
    refine ⟨zs ++ [.ref u2], _, rfl, ⟨fun c o hc h => ?_, ?_⟩, upd_same, by rw [List.length_append, hzl]; rfl, tkA.trans tkE, lx ++ [(xn, ns)], paired_snoc (paired_imp (fun _ _ z => z.tk tkE) hlx) hnewL⟩
    · rw [upd_ne (ne_of_none h thH3)]; exact (ea.trans ee).but _ _ hc h
    · obtain ⟨n', hp', r'⟩ := ee.gen
      exact ⟨n', by rw [upd_ne (Ne.symm thp)]; exact hp', r'⟩
  rintro σ Ha ⟨zs, x18, rfl, ea, hza, hzl, tkA, lx, hlx⟩
  refine ⟨_, rfl, _, rfl, th, _, rfl, .inl ⟨SqL.of hza, fun t1 ht1 => ?_⟩⟩
  have e1' := ea.trans (Ext.new ea.gen ht1 (.tup zs))
  refine ⟨_, rfl, ff, _, rfl, .inl ⟨SqL.of (refs_kn (Ext.kn g3 e1') hfr hf3), fun t2 ht2 => ?_⟩⟩
  have a2' := same_of_new ht2 (.tup fns)
  have e2'' := e1'.trans (Ext.new e1'.gen ht2 (.tup fns))
  refine ⟨_, rfl, (by show 4 ≤ sizeLine; omega), fun u hu => ?_⟩
  have a3' := same_of_new hu (.tup [.ref pr, .ref t1, .ref t2, .ref R])
  have e3'' := e2''.trans (Ext.new e2''.gen hu (.tup [.ref pr, .ref t1, .ref t2, .ref R]))
  have kf := (Ext.kn g3 e3'').tk
  have y1 := Ext.new ea.gen ht1 (.tup zs)
  have y2 := Ext.new e1'.gen ht2 (.tup fns)
  have y3 := Ext.new e2''.gen hu (.tup [.ref pr, .ref t1, .ref t2, .ref R])
  have kA := (Ext.kn ea.gen (y1.trans (y2.trans y3))).tk
  have k67 := (Ext.kn e6.gen y67).tk
  have lb6 : bx6.length = ys6.length := (Paired.length hbx6).symm
  have llx : lx.length = zs.length := (Paired.length hlx).symm
  have hll9 : ls.length ≤ 9 := by omega
  refine fin3 _ _ ⟨bx6, lx, fs, rs, oP⟩ e3'' ⟨u, pr, t1, t2, R, ys6, zs, fns, rfl, upd_same, kA _ _ (tkA _ _ upd_same), paired_imp (fun _ _ z => z.tk (k67.trans (tkA.trans kA))) hbx6, (a2'.trans a3') _ _ upd_same, paired_imp (fun _ _ z => z.tk kA) hlx, a3' _ _ upd_same, paired_imp (fun _ _ z => z.tk kf) hFu3, kf _ _ hR, hRw.tk kf, ?_, ?_, hfs4, ?_⟩
  · show bx6.length ≤ 9; omega
  · show lx.length ≤ 9
    rw [llx, hzl, List.length_map]
    omega
  · show oP.length ≤ 2000; omega
end
end K10

set_option Elab.async false
set_option linter.all false
set_option maxRecDepth 100000
set_option maxHeartbeats 4000000
namespace K10
open PySem L2
seal L2.PE L2.PS L2.PSs L2.PT L2.PW L2.PA L2.PG L2.PGs L2.PI L2.PO L2.PIfs L2.PC L2.OpR L2.CallR L2.IxR L2.SlR L2.PSet L2.UnR
section
variable {P : Program} {w : World} {K : PySem.W.Frag} {mg : Str → Option Value} {base : Heap}
/-! ### law -/
theorem sc_law : FnScope ["_law_script", "_law_one", "_law_other"] ["_law_script"] (defScope (top 33)) := ⟨rfl, rfl, rfl, by decide +kernel, rfl, by decide +kernel, by decide +kernel⟩
def spLaw (K : PySem.W.Frag) : Sp := fun vs H Q _ => ∃ (a : Addr) (ns : List Int), vs = [.ref a] ∧ SqL K H a (ns.map V.int) ∧ ∀ H', Q (.bl true) H'
theorem sameOf {p : Addr} {H0 H H' : Hp} (hp : H0 p = none) (s : Same H0 H) (e : Ext p H H') : Same H0 H' := fun b o h => e.but b o (ne_of_none h hp) (s b o h)
theorem d_law (T : Txt w K mg) (D_cell_at : Def P w K mg base 1 "_law_cell_at" ["_law_script", "_law_k"] (spCell K)) (D_state : Def P w K mg base 1 "_law_state" ["_law_cell", "_law_k"] spState) (D_program : Def P w K mg base 11 "_law_program" ["_law_state_here", "_law_most"] spProg)
    (D_right : Def P w K mg base 15 "_law_right" ["_law_program_here"] spRight) {f : Addr} {fd : FuncData} (F : Fun K "law" "law" (top 33) f fd) : FnOk P w K mg base CX0 16 f fd ["_law_script"] (spLaw K) := by
  refine F.ok sc_law (fun vs H Q E h => ?_) (fun cdv A outer s H vs Q E hr h => ?_)
  · obtain ⟨a, ns, rfl, _⟩ := h; rfl
  obtain ⟨a, ns, rfl, hS, q⟩ := h
  refine ⟨_, (pss_cons (ps_set (i := 1) sc_law.nd rfl (Or.inl rfl) (pe_def (D_program.mono (by decide)) hr rfl (pac (pe_def (D_state.mono (by decide)) hr rfl (pac (pe_def (D_cell_at.mono (by decide)) hr rfl (pac (pv 0) (pac pe_int pa_nil))) (pac pe_int pa_nil))) (pac pe_int pa_nil))))
      (pss_cons (ps_set (i := 2) sc_law.nd rfl (Or.inl rfl) (pe_def (D_program.mono (by decide)) hr rfl (pac (pe_def (D_state.mono (by decide)) hr rfl (pac (pe_def (D_cell_at.mono (by decide)) hr rfl (pac (pv 0) (pac pe_int pa_nil))) (pac pe_int pa_nil))) (pac pe_int pa_nil))))
      (pss_cons (ps_if (pt_cut (PW.pt (pw_or (pt_not (pt_val (pe_def (D_right) hr rfl (pac (pe_tup (pac (pe_tup pa_nil) (pac (pe_tup pa_nil) (pac (pe_tup pa_nil) (pac (pe_tup pa_nil) pa_nil))))) pa_nil)))) (pw_or1 (pt_not (pt_val (pe_def (D_right) hr rfl (pac (pe_tup (pac (pe_tup pa_nil) (pac (pe_ix ix_tup (pv 1) pe_int (fun _ _ => rfl)) (pac (pe_tup pa_nil) (pac (pe_tup (pac (pe_tup (pac pe_str (pac (pe_tup (pa_const [.str "number", .int 7] (by rfl))) pa_nil))) pa_nil)) pa_nil))))) pa_nil))))))))
      (pss_one (ps_ret pe_bl)) pss_nil)
      (pss_one (ps_ret (pe_and (pe_def (D_right) hr rfl (pac (pv 1) pa_nil)) (pe_and (pe_def (D_right) hr rfl (pac (pv 2) pa_nil)) (pe_one (pe_def (D_right) hr rfl (pac (pv 1) pa_nil)))))))))), ?_⟩
  have l3 : (100000 : Nat) < sizeLine := by rw [sizeLine_eq]; decide
  refine ⟨_, rfl, a, ns, 0, rfl, hS, by decide, fun i0 => ⟨i0, 1, rfl, by decide, by decide, fun p n hp n0 n1 => ?_⟩⟩
  have s1 := same_of_new hp (.lst [.int n])
  refine ⟨p, rfl, ⟨n, upd_same, n0, n1⟩, fun v H2 pg e2 hP => ?_⟩
  have s2 := sameOf hp s1 e2
  refine ⟨_, rfl, a, ns, 1, rfl, Same.seq s2 hS, by decide, fun i1 => ⟨i1, 2, rfl, by decide, by decide, fun p2 n2 hp2 n20 n21 => ?_⟩⟩
  have s3 := same_of_new hp2 (.lst [.int n2])
  refine ⟨p2, rfl, ⟨n2, upd_same, n20, n21⟩, fun v2 H4 pg2 e4 hP2 => ?_⟩
  have s4 := sameOf hp2 s3 e4
  have hP4 := hP.tk (TK.of s4)
  refine ⟨fun t H' => Same H4 H' ∧ t = false, ?_, ?_⟩
  · refine ⟨(by show 0 ≤ sizeLine; omega), fun u1 h1 => ?_⟩
    have t1 := same_of_new h1 (.tup [])
    have k1 : upd H4 u1 (.tup []) u1 = some (.tup []) := upd_same
    generalize upd H4 u1 (.tup []) = H5 at t1 k1 ⊢
    refine ⟨(by show 0 ≤ sizeLine; omega), fun u2 h2 => ?_⟩
    have t2 := same_of_new h2 (.tup [])
    have k2 : upd H5 u2 (.tup []) u2 = some (.tup []) := upd_same
    generalize upd H5 u2 (.tup []) = H6 at t2 k2 ⊢
    refine ⟨(by show 0 ≤ sizeLine; omega), fun u3 h3 => ?_⟩
    have t3 := same_of_new h3 (.tup [])
    have k3 : upd H6 u3 (.tup []) u3 = some (.tup []) := upd_same
    generalize upd H6 u3 (.tup []) = H7 at t3 k3 ⊢
    refine ⟨(by show 0 ≤ sizeLine; omega), fun u4 h4 => ?_⟩
    have t4 := same_of_new h4 (.tup [])
    have k4 : upd H7 u4 (.tup []) u4 = some (.tup []) := upd_same
    generalize upd H7 u4 (.tup []) = H8 at t4 k4 ⊢
    refine ⟨(by show 4 ≤ sizeLine; omega), fun u5 h5 => ?_⟩
    have t5 := same_of_new h5 (.tup [.ref u1, .ref u2, .ref u3, .ref u4])
    have t45 := t4.trans t5
    have t35 := t3.trans t45
    have t25 := t2.trans t35
    have t15 := t1.trans t25
    refine ⟨_, ⟨[], [], [], [], []⟩, rfl, ⟨u5, u1, u2, u3, u4, [], [], [], rfl, upd_same, t25 _ _ k1, .nil, t35 _ _ k2, .nil, t45 _ _ k3, .nil, t5 _ _ k4, .nil, by decide, by decide, by decide, by decide⟩, fun H9 s9 => ⟨_, rfl, ?_⟩⟩
    have s49 := t15.trans s9
    refine ifF (by decide) ?_
    -- one with a list, and a row that tells
    refine ⟨(by show 0 ≤ sizeLine; omega), fun w1 g1 => ?_⟩
    have r1 := same_of_new g1 (.tup [])
    have m1 : upd H9 w1 (.tup []) w1 = some (.tup []) := upd_same
    generalize upd H9 w1 (.tup []) = G1 at r1 m1 ⊢
    have sG1 := s49.trans r1
    obtain ⟨pa, ba, la, fa, ra, bs, ls, fs, rfl, hpa, hba, hbs, hla, hls, _, _, _, _, _, c2, _, _⟩ := hP4.tk (TK.of sG1)
    refine ⟨_, rfl, pa, _, 1, _, rfl, rfl, SqT.of hpa, atI_nat (j := 1) rfl, ?_⟩
    refine ⟨(by show 0 ≤ sizeLine; omega), fun w2 g2 => ?_⟩
    have r2 := same_of_new g2 (.tup [])
    have m2 : upd G1 w2 (.tup []) w2 = some (.tup []) := upd_same
    generalize upd G1 w2 (.tup []) = G2 at r2 m2 ⊢
    refine ⟨(by show 2 ≤ sizeLine; omega), fun w3 g3 => ?_⟩
    have r3 := same_of_new g3 (.tup [.str "number", .int 7])
    have m3 : upd G2 w3 (.tup [.str "number", .int 7]) w3 = some (.tup [.str "number", .int 7]) := upd_same
    generalize upd G2 w3 (.tup [.str "number", .int 7]) = G3 at r3 m3 ⊢
    refine ⟨(by show 2 ≤ sizeLine; omega), fun w4 g4 => ?_⟩
    have r4 := same_of_new g4 (.tup [.str "tell", .ref w3])
    have m4 : upd G3 w4 (.tup [.str "tell", .ref w3]) w4 = some (.tup [.str "tell", .ref w3]) := upd_same
    generalize upd G3 w4 (.tup [.str "tell", .ref w3]) = G4 at r4 m4 ⊢
    refine ⟨(by show 1 ≤ sizeLine; omega), fun w5 g5 => ?_⟩
    have r5 := same_of_new g5 (.tup [.ref w4])
    have m5 : upd G4 w5 (.tup [.ref w4]) w5 = some (.tup [.ref w4]) := upd_same
    generalize upd G4 w5 (.tup [.ref w4]) = G5 at r5 m5 ⊢
    refine ⟨(by show 4 ≤ sizeLine; omega), fun w6 g6 => ?_⟩
    have r6 := same_of_new g6 (.tup [.ref w1, .ref la, .ref w2, .ref w5])
    have r56 := r5.trans r6
    have r46 := r4.trans r56
    have r36 := r3.trans r46
    have r26 := r2.trans r36
    have hv3 : Vl (upd G5 w6 (.tup [.ref w1, .ref la, .ref w2, .ref w5])) 3 (.ref w3) _ := .num (r46 _ _ m3) (by decide) (by decide)
    obtain ⟨wr, hPr⟩ := mk1 (r56 _ _ m4) hv3 (by decide)
    refine ⟨_, ⟨[], pg.lx, [], [.ref w4], [(0, joinW wr)]⟩, rfl, ⟨w6, w1, la, w2, w5, [], ls, [], rfl, upd_same, r26 _ _ m1, .nil, r26 _ _ hla, paired_imp (fun _ _ z => z.tk (TK.of r26)) hls, r36 _ _ m2, .nil, r6 _ _ m5, .plain hPr .nil, (by show 0 ≤ 9; decide), c2, (by show 0 ≤ 4; decide), (by show 1 ≤ 2000; decide)⟩, fun H10 s10 => ⟨_, rfl, ?_⟩⟩
    exact ⟨sG1.trans (r26.trans s10), rfl⟩
  rintro t H5 ⟨s5, rfl⟩
  refine ifF rfl ?_
  refine ⟨_, rfl, v, pg, rfl, hP4.tk (TK.of s5), fun H6 s6 => ⟨_, rfl, ?_⟩⟩
  refine ifT rfl ⟨_, rfl, v2, pg2, rfl, hP2.tk (TK.of (s5.trans s6)), fun H7 s7 => ⟨_, rfl, ?_⟩⟩
  exact ifT rfl ⟨_, rfl, v, pg, rfl, hP4.tk (TK.of (s5.trans (s6.trans s7))), fun H8 s8 => q H8⟩
end
end K10

set_option Elab.async false
set_option linter.all false
set_option maxRecDepth 100000
set_option maxHeartbeats 4000000
namespace K10
open PySem L2
section
variable {w : World} {K : PySem.W.Frag} {mg : Str → Option Value} {h : Heap}
/-! ### the text's top -/
theorem src_mk {x : Str} {st : Stmt} {ps : List Str} {f : Addr} {oc : Value} {od an : Option Addr} {osl : Array (Option Value)} {kV doc pm cdv ct : Value} (X : K.In h) (G : h.Ns mainGlobals mg)
    (hb : ∀ (kV doc pm : Value) (an : Option Addr) (cdv ct : Value) (us : List Value), us.length = ps.length → bindArgs (PySem.W.fnOf x x (defArgs st) (defBody st) (defScope st) .none kV doc pm an cdv ct) ⟨us, []⟩ = pure (ps.zip us))
    (a : PySem.W.nsIn K mainGlobals x = some (some (.ref f))) (l : K.lookup f = some ⟨oc, od, .func (PySem.W.fnOf x x (defArgs st) (defBody st) (defScope st) .none kV doc pm an cdv ct), osl⟩)
    (c : PySem.W.codeIn K cdv x = true) (k : PySem.W.keepIn K (.ref f) = true) : Src K mg x st ps :=
  have F := fun_mk (st := st) l c k
  ⟨f, _, F, PySem.W.mg_of X G a, F.binds hb⟩
theorem bi2 (kV doc pm : Value) (an : Option Addr) (cdv ct : Value) (us : List Value) (hl : us.length = (["word"] : List Str).length) : bindArgs (PySem.W.fnOf "head_kinds" "head_kinds" (defArgs (top 2)) (defBody (top 2)) (defScope (top 2)) .none kV doc pm an cdv ct) ⟨us, []⟩ = pure ((["word"] : List Str).zip us) :=
  match us, hl with | [_], _ => rfl
theorem bi5 (kV doc pm : Value) (an : Option Addr) (cdv ct : Value) (us : List Value) (hl : us.length = (["program"] : List Str).length) : bindArgs (PySem.W.fnOf "written" "written" (defArgs (top 5)) (defBody (top 5)) (defScope (top 5)) .none kV doc pm an cdv ct) ⟨us, []⟩ = pure ((["program"] : List Str).zip us) :=
  match us, hl with | [_], _ => rfl
theorem bi6 (kV doc pm : Value) (an : Option Addr) (cdv ct : Value) (us : List Value) (hl : us.length = (["row"] : List Str).length) : bindArgs (PySem.W.fnOf "row_text" "row_text" (defArgs (top 6)) (defBody (top 6)) (defScope (top 6)) .none kV doc pm an cdv ct) ⟨us, []⟩ = pure ((["row"] : List Str).zip us) :=
  match us, hl with | [_], _ => rfl
theorem bi7 (kV doc pm : Value) (an : Option Addr) (cdv ct : Value) (us : List Value) (hl : us.length = (["value"] : List Str).length) : bindArgs (PySem.W.fnOf "value_text" "value_text" (defArgs (top 7)) (defBody (top 7)) (defScope (top 7)) .none kV doc pm an cdv ct) ⟨us, []⟩ = pure ((["value"] : List Str).zip us) :=
  match us, hl with | [_], _ => rfl
theorem bi8 (kV doc pm : Value) (an : Option Addr) (cdv ct : Value) (us : List Value) (hl : us.length = (["lines"] : List Str).length) : bindArgs (PySem.W.fnOf "lines_text" "lines_text" (defArgs (top 8)) (defBody (top 8)) (defScope (top 8)) .none kV doc pm an cdv ct) ⟨us, []⟩ = pure ((["lines"] : List Str).zip us) :=
  match us, hl with | [_], _ => rfl
theorem bi9 (kV doc pm : Value) (an : Option Addr) (cdv ct : Value) (us : List Value) (hl : us.length = (["parts"] : List Str).length) : bindArgs (PySem.W.fnOf "words_text" "words_text" (defArgs (top 9)) (defBody (top 9)) (defScope (top 9)) .none kV doc pm an cdv ct) ⟨us, []⟩ = pure ((["parts"] : List Str).zip us) :=
  match us, hl with | [_], _ => rfl
theorem bi10 (kV doc pm : Value) (an : Option Addr) (cdv ct : Value) (us : List Value) (hl : us.length = (["lines", "function"] : List Str).length) : bindArgs (PySem.W.fnOf "add_function" "add_function" (defArgs (top 10)) (defBody (top 10)) (defScope (top 10)) .none kV doc pm an cdv ct) ⟨us, []⟩ = pure ((["lines", "function"] : List Str).zip us) :=
  match us, hl with | [_, _], _ => rfl
theorem bi11 (kV doc pm : Value) (an : Option Addr) (cdv ct : Value) (us : List Value) (hl : us.length = (["lines", "rows", "ahead"] : List Str).length) : bindArgs (PySem.W.fnOf "add_rows" "add_rows" (defArgs (top 11)) (defBody (top 11)) (defScope (top 11)) .none kV doc pm an cdv ct) ⟨us, []⟩ = pure ((["lines", "rows", "ahead"] : List Str).zip us) :=
  match us, hl with | [_, _, _], _ => rfl
theorem bi12 (kV doc pm : Value) (an : Option Addr) (cdv ct : Value) (us : List Value) (hl : us.length = (["lines", "row", "ahead"] : List Str).length) : bindArgs (PySem.W.fnOf "add_if" "add_if" (defArgs (top 12)) (defBody (top 12)) (defScope (top 12)) .none kV doc pm an cdv ct) ⟨us, []⟩ = pure ((["lines", "row", "ahead"] : List Str).zip us) :=
  match us, hl with | [_, _, _], _ => rfl
theorem bi13 (kV doc pm : Value) (an : Option Addr) (cdv ct : Value) (us : List Value) (hl : us.length = (["lines", "row", "ahead"] : List Str).length) : bindArgs (PySem.W.fnOf "add_try" "add_try" (defArgs (top 13)) (defBody (top 13)) (defScope (top 13)) .none kV doc pm an cdv ct) ⟨us, []⟩ = pure ((["lines", "row", "ahead"] : List Str).zip us) :=
  match us, hl with | [_, _, _], _ => rfl
theorem bi15 (kV doc pm : Value) (an : Option Addr) (cdv ct : Value) (us : List Value) (hl : us.length = (["_law_script", "_law_k"] : List Str).length) : bindArgs (PySem.W.fnOf "_law_cell_at" "_law_cell_at" (defArgs (top 15)) (defBody (top 15)) (defScope (top 15)) .none kV doc pm an cdv ct) ⟨us, []⟩ = pure ((["_law_script", "_law_k"] : List Str).zip us) :=
  match us, hl with | [_, _], _ => rfl
theorem bi16 (kV doc pm : Value) (an : Option Addr) (cdv ct : Value) (us : List Value) (hl : us.length = (["_law_cell", "_law_k"] : List Str).length) : bindArgs (PySem.W.fnOf "_law_state" "_law_state" (defArgs (top 16)) (defBody (top 16)) (defScope (top 16)) .none kV doc pm an cdv ct) ⟨us, []⟩ = pure ((["_law_cell", "_law_k"] : List Str).zip us) :=
  match us, hl with | [_, _], _ => rfl
theorem bi17 (kV doc pm : Value) (an : Option Addr) (cdv ct : Value) (us : List Value) (hl : us.length = (["_law_state_here", "_law_size"] : List Str).length) : bindArgs (PySem.W.fnOf "_law_next" "_law_next" (defArgs (top 17)) (defBody (top 17)) (defScope (top 17)) .none kV doc pm an cdv ct) ⟨us, []⟩ = pure ((["_law_state_here", "_law_size"] : List Str).zip us) :=
  match us, hl with | [_, _], _ => rfl
theorem bi18 (kV doc pm : Value) (an : Option Addr) (cdv ct : Value) (us : List Value) (hl : us.length = (["_law_state_here", "_law_amount"] : List Str).length) : bindArgs (PySem.W.fnOf "_law_names" "_law_names" (defArgs (top 18)) (defBody (top 18)) (defScope (top 18)) .none kV doc pm an cdv ct) ⟨us, []⟩ = pure ((["_law_state_here", "_law_amount"] : List Str).zip us) :=
  match us, hl with | [_, _], _ => rfl
theorem bi19 (kV doc pm : Value) (an : Option Addr) (cdv ct : Value) (us : List Value) (hl : us.length = (["_law_state_here", "_law_deep", "_law_boxes", "_law_lists"] : List Str).length) : bindArgs (PySem.W.fnOf "_law_value" "_law_value" (defArgs (top 19)) (defBody (top 19)) (defScope (top 19)) .none kV doc pm an cdv ct) ⟨us, []⟩ = pure ((["_law_state_here", "_law_deep", "_law_boxes", "_law_lists"] : List Str).zip us) :=
  match us, hl with | [_, _, _, _], _ => rfl
theorem bi20 (kV doc pm : Value) (an : Option Addr) (cdv ct : Value) (us : List Value) (hl : us.length = (["_law_state_here", "_law_names_here"] : List Str).length) : bindArgs (PySem.W.fnOf "_law_plain" "_law_plain" (defArgs (top 20)) (defBody (top 20)) (defScope (top 20)) .none kV doc pm an cdv ct) ⟨us, []⟩ = pure ((["_law_state_here", "_law_names_here"] : List Str).zip us) :=
  match us, hl with | [_, _], _ => rfl
theorem bi21 (kV doc pm : Value) (an : Option Addr) (cdv ct : Value) (us : List Value) (hl : us.length = (["_law_state_here", "_law_names_here", "_law_deep", "_law_most", "_law_left"] : List Str).length) : bindArgs (PySem.W.fnOf "_law_rows" "_law_rows" (defArgs (top 21)) (defBody (top 21)) (defScope (top 21)) .none kV doc pm an cdv ct) ⟨us, []⟩ = pure ((["_law_state_here", "_law_names_here", "_law_deep", "_law_most", "_law_left"] : List Str).zip us) :=
  match us, hl with | [_, _, _, _, _], _ => rfl
theorem bi22 (kV doc pm : Value) (an : Option Addr) (cdv ct : Value) (us : List Value) (hl : us.length = (["_law_state_here", "_law_most"] : List Str).length) : bindArgs (PySem.W.fnOf "_law_program" "_law_program" (defArgs (top 22)) (defBody (top 22)) (defScope (top 22)) .none kV doc pm an cdv ct) ⟨us, []⟩ = pure ((["_law_state_here", "_law_most"] : List Str).zip us) :=
  match us, hl with | [_, _], _ => rfl
theorem bi23 (kV doc pm : Value) (an : Option Addr) (cdv ct : Value) (us : List Value) (hl : us.length = (["_law_row"] : List Str).length) : bindArgs (PySem.W.fnOf "_law_within" "_law_within" (defArgs (top 23)) (defBody (top 23)) (defScope (top 23)) .none kV doc pm an cdv ct) ⟨us, []⟩ = pure ((["_law_row"] : List Str).zip us) :=
  match us, hl with | [_], _ => rfl
theorem bi24 (kV doc pm : Value) (an : Option Addr) (cdv ct : Value) (us : List Value) (hl : us.length = (["_law_rows_here", "_law_around", "_law_found"] : List Str).length) : bindArgs (PySem.W.fnOf "_law_walk" "_law_walk" (defArgs (top 24)) (defBody (top 24)) (defScope (top 24)) .none kV doc pm an cdv ct) ⟨us, []⟩ = pure ((["_law_rows_here", "_law_around", "_law_found"] : List Str).zip us) :=
  match us, hl with | [_, _, _], _ => rfl
theorem bi25 (kV doc pm : Value) (an : Option Addr) (cdv ct : Value) (us : List Value) (hl : us.length = (["_law_program_here"] : List Str).length) : bindArgs (PySem.W.fnOf "_law_listed" "_law_listed" (defArgs (top 25)) (defBody (top 25)) (defScope (top 25)) .none kV doc pm an cdv ct) ⟨us, []⟩ = pure ((["_law_program_here"] : List Str).zip us) :=
  match us, hl with | [_], _ => rfl
theorem bi26 (kV doc pm : Value) (an : Option Addr) (cdv ct : Value) (us : List Value) (hl : us.length = (["_law_value_here"] : List Str).length) : bindArgs (PySem.W.fnOf "_law_value_text" "_law_value_text" (defArgs (top 26)) (defBody (top 26)) (defScope (top 26)) .none kV doc pm an cdv ct) ⟨us, []⟩ = pure ((["_law_value_here"] : List Str).zip us) :=
  match us, hl with | [_], _ => rfl
theorem bi27 (kV doc pm : Value) (an : Option Addr) (cdv ct : Value) (us : List Value) (hl : us.length = (["_law_row"] : List Str).length) : bindArgs (PySem.W.fnOf "_law_row_text" "_law_row_text" (defArgs (top 27)) (defBody (top 27)) (defScope (top 27)) .none kV doc pm an cdv ct) ⟨us, []⟩ = pure ((["_law_row"] : List Str).zip us) :=
  match us, hl with | [_], _ => rfl
theorem bi28 (kV doc pm : Value) (an : Option Addr) (cdv ct : Value) (us : List Value) (hl : us.length = (["_law_row", "_law_ahead"] : List Str).length) : bindArgs (PySem.W.fnOf "_law_row_lines" "_law_row_lines" (defArgs (top 28)) (defBody (top 28)) (defScope (top 28)) .none kV doc pm an cdv ct) ⟨us, []⟩ = pure ((["_law_row", "_law_ahead"] : List Str).zip us) :=
  match us, hl with | [_, _], _ => rfl
theorem bi29 (kV doc pm : Value) (an : Option Addr) (cdv ct : Value) (us : List Value) (hl : us.length = (["_law_rows_here", "_law_ahead"] : List Str).length) : bindArgs (PySem.W.fnOf "_law_lines" "_law_lines" (defArgs (top 29)) (defBody (top 29)) (defScope (top 29)) .none kV doc pm an cdv ct) ⟨us, []⟩ = pure ((["_law_rows_here", "_law_ahead"] : List Str).zip us) :=
  match us, hl with | [_, _], _ => rfl
theorem bi30 (kV doc pm : Value) (an : Option Addr) (cdv ct : Value) (us : List Value) (hl : us.length = (["_law_program_here"] : List Str).length) : bindArgs (PySem.W.fnOf "_law_program_lines" "_law_program_lines" (defArgs (top 30)) (defBody (top 30)) (defScope (top 30)) .none kV doc pm an cdv ct) ⟨us, []⟩ = pure ((["_law_program_here"] : List Str).zip us) :=
  match us, hl with | [_], _ => rfl
theorem bi31 (kV doc pm : Value) (an : Option Addr) (cdv ct : Value) (us : List Value) (hl : us.length = (["_law_found", "_law_due"] : List Str).length) : bindArgs (PySem.W.fnOf "_law_same" "_law_same" (defArgs (top 31)) (defBody (top 31)) (defScope (top 31)) .none kV doc pm an cdv ct) ⟨us, []⟩ = pure ((["_law_found", "_law_due"] : List Str).zip us) :=
  match us, hl with | [_, _], _ => rfl
theorem bi32 (kV doc pm : Value) (an : Option Addr) (cdv ct : Value) (us : List Value) (hl : us.length = (["_law_program_here"] : List Str).length) : bindArgs (PySem.W.fnOf "_law_right" "_law_right" (defArgs (top 32)) (defBody (top 32)) (defScope (top 32)) .none kV doc pm an cdv ct) ⟨us, []⟩ = pure ((["_law_program_here"] : List Str).zip us) :=
  match us, hl with | [_], _ => rfl
theorem tab_mk {a a0 a1 a2 a3 a4 a5 a6 a7 a8 a9 a10 a11 : Addr} {h0 h1 h2 h3 h4 h5 h6 h7 h8 h9 h10 h11 : Int} {t0 t1 t2 t3 t4 t5 t6 t7 t8 t9 t10 t11 : Tok} {n : Nat} (l : K.lookup a = some ⟨.type "dict", none, .dict #[⟨h0, .str "set" t0, .ref a0⟩, ⟨h1, .str "push" t1, .ref a1⟩, ⟨h2, .str "pop" t2, .ref a2⟩, ⟨h3, .str "put" t3, .ref a3⟩, ⟨h4, .str "ask" t4, .ref a4⟩, ⟨h5, .str "tell" t5, .ref a5⟩, ⟨h6, .str "if" t6, .ref a6⟩, ⟨h7, .str "while" t7, .ref a7⟩, ⟨h8, .str "try" t8, .ref a8⟩, ⟨h9, .str "fail" t9, .ref a9⟩, ⟨h10, .str "call" t10, .ref a10⟩, ⟨h11, .str "return" t11, .ref a11⟩] n, #[]⟩) (lo : (a == sysModules) = false)
    (e0 : h0 = PyData.keyHash w.params "set")
    (e1 : h1 = PyData.keyHash w.params "push")
    (e2 : h2 = PyData.keyHash w.params "pop")
    (e3 : h3 = PyData.keyHash w.params "put")
    (e4 : h4 = PyData.keyHash w.params "ask")
    (e5 : h5 = PyData.keyHash w.params "tell")
    (e6 : h6 = PyData.keyHash w.params "if")
    (e7 : h7 = PyData.keyHash w.params "while")
    (e8 : h8 = PyData.keyHash w.params "try")
    (e9 : h9 = PyData.keyHash w.params "fail")
    (e10 : h10 = PyData.keyHash w.params "call")
    (e11 : h11 = PyData.keyHash w.params "return")
    {o0 : Obj} (l0 : K.lookup a0 = some o0) (c0 : o0.cls = .type "tuple") (n0 : o0.dict = none) {m0 : Nat} {u00 u01 : Tok} (d0 : o0.data = .seq #[.str "box" u00, .str "value" u01] m0)
    {o1 : Obj} (l1 : K.lookup a1 = some o1) (c1 : o1.cls = .type "tuple") (n1 : o1.dict = none) {m1 : Nat} {u10 u11 : Tok} (d1 : o1.data = .seq #[.str "list" u10, .str "value" u11] m1)
    {o2 : Obj} (l2 : K.lookup a2 = some o2) (c2 : o2.cls = .type "tuple") (n2 : o2.dict = none) {m2 : Nat} {u20 u21 : Tok} (d2 : o2.data = .seq #[.str "box" u20, .str "list" u21] m2)
    {o3 : Obj} (l3 : K.lookup a3 = some o3) (c3 : o3.cls = .type "tuple") (n3 : o3.dict = none) {m3 : Nat} {u30 u31 u32 : Tok} (d3 : o3.data = .seq #[.str "list" u30, .str "value" u31, .str "value" u32] m3)
    {o4 : Obj} (l4 : K.lookup a4 = some o4) (c4 : o4.cls = .type "tuple") (n4 : o4.dict = none) {m4 : Nat} {u40 u41 : Tok} (d4 : o4.data = .seq #[.str "box" u40, .str "door" u41] m4)
    {o5 : Obj} (l5 : K.lookup a5 = some o5) (c5 : o5.cls = .type "tuple") (n5 : o5.dict = none) {m5 : Nat} {u50 : Tok} (d5 : o5.data = .seq #[.str "value" u50] m5)
    {o6 : Obj} (l6 : K.lookup a6 = some o6) (c6 : o6.cls = .type "tuple") (n6 : o6.dict = none) {m6 : Nat} {u60 u61 u62 : Tok} (d6 : o6.data = .seq #[.str "value" u60, .str "rows" u61, .str "rows" u62] m6)
    {o7 : Obj} (l7 : K.lookup a7 = some o7) (c7 : o7.cls = .type "tuple") (n7 : o7.dict = none) {m7 : Nat} {u70 u71 : Tok} (d7 : o7.data = .seq #[.str "value" u70, .str "rows" u71] m7)
    {o8 : Obj} (l8 : K.lookup a8 = some o8) (c8 : o8.cls = .type "tuple") (n8 : o8.dict = none) {m8 : Nat} {u80 u81 u82 : Tok} (d8 : o8.data = .seq #[.str "rows" u80, .str "box" u81, .str "rows" u82] m8)
    {o9 : Obj} (l9 : K.lookup a9 = some o9) (c9 : o9.cls = .type "tuple") (n9 : o9.dict = none) {m9 : Nat} {u90 : Tok} (d9 : o9.data = .seq #[.str "value" u90] m9)
    {o10 : Obj} (l10 : K.lookup a10 = some o10) (c10 : o10.cls = .type "tuple") (n10 : o10.dict = none) {m10 : Nat} {u100 u101 u102 : Tok} (d10 : o10.data = .seq #[.str "box" u100, .str "function" u101, .str "values" u102] m10)
    {o11 : Obj} (l11 : K.lookup a11 = some o11) (c11 : o11.cls = .type "tuple") (n11 : o11.dict = none) {m11 : Nat} {u110 : Tok} (d11 : o11.data = .seq #[.str "value" u110] m11)
    : TabN w K a rforms := by
  have nz : ∀ {x y : Str}, x ≠ y → (y == x) = false := fun h => by simpa using fun z => h z.symm
  refine ⟨⟨_, n, l, ⟨⟨_, _, rfl, e0⟩, ⟨_, _, rfl, e1⟩, ⟨_, _, rfl, e2⟩, ⟨_, _, rfl, e3⟩, ⟨_, _, rfl, e4⟩, ⟨_, _, rfl, e5⟩, ⟨_, _, rfl, e6⟩, ⟨_, _, rfl, e7⟩, ⟨_, _, rfl, e8⟩, ⟨_, _, rfl, e9⟩, ⟨_, _, rfl, e10⟩, ⟨_, _, rfl, e11⟩, trivial⟩, fun x => ?_⟩, lo⟩
  by_cases q0 : x = "set"
  · subst q0
    exact ⟨a0, by rfl, o0, _, m0, l0, c0, n0, d0, (by show 2 ≤ sizeLine; decide), .cons ⟨_, rfl⟩ (.cons ⟨_, rfl⟩ (.nil))⟩
  by_cases q1 : x = "push"
  · subst q1
    exact ⟨a1, by rfl, o1, _, m1, l1, c1, n1, d1, (by show 2 ≤ sizeLine; decide), .cons ⟨_, rfl⟩ (.cons ⟨_, rfl⟩ (.nil))⟩
  by_cases q2 : x = "pop"
  · subst q2
    exact ⟨a2, by rfl, o2, _, m2, l2, c2, n2, d2, (by show 2 ≤ sizeLine; decide), .cons ⟨_, rfl⟩ (.cons ⟨_, rfl⟩ (.nil))⟩
  by_cases q3 : x = "put"
  · subst q3
    exact ⟨a3, by rfl, o3, _, m3, l3, c3, n3, d3, (by show 3 ≤ sizeLine; decide), .cons ⟨_, rfl⟩ (.cons ⟨_, rfl⟩ (.cons ⟨_, rfl⟩ (.nil)))⟩
  by_cases q4 : x = "ask"
  · subst q4
    exact ⟨a4, by rfl, o4, _, m4, l4, c4, n4, d4, (by show 2 ≤ sizeLine; decide), .cons ⟨_, rfl⟩ (.cons ⟨_, rfl⟩ (.nil))⟩
  by_cases q5 : x = "tell"
  · subst q5
    exact ⟨a5, by rfl, o5, _, m5, l5, c5, n5, d5, (by show 1 ≤ sizeLine; decide), .cons ⟨_, rfl⟩ (.nil)⟩
  by_cases q6 : x = "if"
  · subst q6
    exact ⟨a6, by rfl, o6, _, m6, l6, c6, n6, d6, (by show 3 ≤ sizeLine; decide), .cons ⟨_, rfl⟩ (.cons ⟨_, rfl⟩ (.cons ⟨_, rfl⟩ (.nil)))⟩
  by_cases q7 : x = "while"
  · subst q7
    exact ⟨a7, by rfl, o7, _, m7, l7, c7, n7, d7, (by show 2 ≤ sizeLine; decide), .cons ⟨_, rfl⟩ (.cons ⟨_, rfl⟩ (.nil))⟩
  by_cases q8 : x = "try"
  · subst q8
    exact ⟨a8, by rfl, o8, _, m8, l8, c8, n8, d8, (by show 3 ≤ sizeLine; decide), .cons ⟨_, rfl⟩ (.cons ⟨_, rfl⟩ (.cons ⟨_, rfl⟩ (.nil)))⟩
  by_cases q9 : x = "fail"
  · subst q9
    exact ⟨a9, by rfl, o9, _, m9, l9, c9, n9, d9, (by show 1 ≤ sizeLine; decide), .cons ⟨_, rfl⟩ (.nil)⟩
  by_cases q10 : x = "call"
  · subst q10
    exact ⟨a10, by rfl, o10, _, m10, l10, c10, n10, d10, (by show 3 ≤ sizeLine; decide), .cons ⟨_, rfl⟩ (.cons ⟨_, rfl⟩ (.cons ⟨_, rfl⟩ (.nil)))⟩
  by_cases q11 : x = "return"
  · subst q11
    exact ⟨a11, by rfl, o11, _, m11, l11, c11, n11, d11, (by show 1 ≤ sizeLine; decide), .cons ⟨_, rfl⟩ (.nil)⟩
  have ef : rforms x = none := by
    unfold rforms
    rw [if_neg q0, if_neg q1, if_neg q2, if_neg q3, if_neg q4, if_neg q5, if_neg q6, if_neg q7, if_neg q8, if_neg q9, if_neg q10, if_neg q11]
  rw [ef]
  show Option.map _ (Array.find? _ _) = none
  rw [show (Array.find? (fun e : DictEntry => Value.isStrOf x e.key) #[⟨h0, .str "set" t0, .ref a0⟩, ⟨h1, .str "push" t1, .ref a1⟩, ⟨h2, .str "pop" t2, .ref a2⟩, ⟨h3, .str "put" t3, .ref a3⟩, ⟨h4, .str "ask" t4, .ref a4⟩, ⟨h5, .str "tell" t5, .ref a5⟩, ⟨h6, .str "if" t6, .ref a6⟩, ⟨h7, .str "while" t7, .ref a7⟩, ⟨h8, .str "try" t8, .ref a8⟩, ⟨h9, .str "fail" t9, .ref a9⟩, ⟨h10, .str "call" t10, .ref a10⟩, ⟨h11, .str "return" t11, .ref a11⟩]) = none from by
    rw [Array.find?_eq_none]
    intro e he
    simp only [Array.mem_def, List.mem_cons, List.not_mem_nil, or_false] at he
    rcases he with rfl | rfl | rfl | rfl | rfl | rfl | rfl | rfl | rfl | rfl | rfl | rfl
    · show ¬ (("set" : Str) == x) = true; rw [nz q0]; decide
    · show ¬ (("push" : Str) == x) = true; rw [nz q1]; decide
    · show ¬ (("pop" : Str) == x) = true; rw [nz q2]; decide
    · show ¬ (("put" : Str) == x) = true; rw [nz q3]; decide
    · show ¬ (("ask" : Str) == x) = true; rw [nz q4]; decide
    · show ¬ (("tell" : Str) == x) = true; rw [nz q5]; decide
    · show ¬ (("if" : Str) == x) = true; rw [nz q6]; decide
    · show ¬ (("while" : Str) == x) = true; rw [nz q7]; decide
    · show ¬ (("try" : Str) == x) = true; rw [nz q8]; decide
    · show ¬ (("fail" : Str) == x) = true; rw [nz q9]; decide
    · show ¬ (("call" : Str) == x) = true; rw [nz q10]; decide
    · show ¬ (("return" : Str) == x) = true; rw [nz q11]; decide]
  rfl
end
theorem all {P : Program} {w : World} {K : PySem.W.Frag} {mg : Str → Option Value} {base : Heap} (T : Txt w K mg)
    (S2 : Src K mg "head_kinds" (top 2) ["word"])
    (S5 : Src K mg "written" (top 5) ["program"])
    (S6 : Src K mg "row_text" (top 6) ["row"])
    (S7 : Src K mg "value_text" (top 7) ["value"])
    (S8 : Src K mg "lines_text" (top 8) ["lines"])
    (S9 : Src K mg "words_text" (top 9) ["parts"])
    (S10 : Src K mg "add_function" (top 10) ["lines", "function"])
    (S11 : Src K mg "add_rows" (top 11) ["lines", "rows", "ahead"])
    (S12 : Src K mg "add_if" (top 12) ["lines", "row", "ahead"])
    (S13 : Src K mg "add_try" (top 13) ["lines", "row", "ahead"])
    (S15 : Src K mg "_law_cell_at" (top 15) ["_law_script", "_law_k"])
    (S16 : Src K mg "_law_state" (top 16) ["_law_cell", "_law_k"])
    (S17 : Src K mg "_law_next" (top 17) ["_law_state_here", "_law_size"])
    (S18 : Src K mg "_law_names" (top 18) ["_law_state_here", "_law_amount"])
    (S19 : Src K mg "_law_value" (top 19) ["_law_state_here", "_law_deep", "_law_boxes", "_law_lists"])
    (S20 : Src K mg "_law_plain" (top 20) ["_law_state_here", "_law_names_here"])
    (S21 : Src K mg "_law_rows" (top 21) ["_law_state_here", "_law_names_here", "_law_deep", "_law_most", "_law_left"])
    (S22 : Src K mg "_law_program" (top 22) ["_law_state_here", "_law_most"])
    (S23 : Src K mg "_law_within" (top 23) ["_law_row"])
    (S24 : Src K mg "_law_walk" (top 24) ["_law_rows_here", "_law_around", "_law_found"])
    (S25 : Src K mg "_law_listed" (top 25) ["_law_program_here"])
    (S26 : Src K mg "_law_value_text" (top 26) ["_law_value_here"])
    (S27 : Src K mg "_law_row_text" (top 27) ["_law_row"])
    (S28 : Src K mg "_law_row_lines" (top 28) ["_law_row", "_law_ahead"])
    (S29 : Src K mg "_law_lines" (top 29) ["_law_rows_here", "_law_ahead"])
    (S30 : Src K mg "_law_program_lines" (top 30) ["_law_program_here"])
    (S31 : Src K mg "_law_same" (top 31) ["_law_found", "_law_due"])
    (S32 : Src K mg "_law_right" (top 32) ["_law_program_here"])
    {f : Addr} {fd : FuncData} (F : Fun K "law" "law" (top 33) f fd) : FnOk P w K mg base CX0 16 f fd ["_law_script"] (spLaw K) :=
  have D_next := d_next S17
  have D_value := d_value T D_next S19
  have D_plain := d_plain T D_next D_value S20
  have D_words := d_words T S9
  have D_rowt := d_rowt T D_words (d_head T S2) S6
  have D_add := d_add T D_words D_rowt S11 S12 S13 3
  have D_lvt := d_lvt T S26 3
  have D_lrt := d_lrt T D_lvt S27
  d_law T (d_cell_at T S15) (d_state S16) (d_program T D_next (d_names T D_next S18) D_value (d_lrows T D_next D_value D_plain S21) S22)
    (d_right T (d_written T D_words (d_lines T S8) D_add (d_addf T D_words D_add S10) S5) D_rowt (d_valt T D_words S7) (d_pl T (d_ln T D_lrt S28 S29 3) S30) (d_listed T (d_walk T (d_within T S23) S24 3) S25) D_lrt D_lvt (d_same T S31) S32) F
theorem law_mk {l : PySem.W.OpenLaw} {w : World} {K : PySem.W.Frag} {h : Heap} {mg : Str → Option Value} {fa f3 : Addr} (X : K.In h) (G : h.Ns mainGlobals mg) (hfa : mg "law" = some (.ref fa)) (T : Txt w K mg)
    (S2 : Src K mg "head_kinds" (top 2) ["word"])
    (S5 : Src K mg "written" (top 5) ["program"])
    (S6 : Src K mg "row_text" (top 6) ["row"])
    (S7 : Src K mg "value_text" (top 7) ["value"])
    (S8 : Src K mg "lines_text" (top 8) ["lines"])
    (S9 : Src K mg "words_text" (top 9) ["parts"])
    (S10 : Src K mg "add_function" (top 10) ["lines", "function"])
    (S11 : Src K mg "add_rows" (top 11) ["lines", "rows", "ahead"])
    (S12 : Src K mg "add_if" (top 12) ["lines", "row", "ahead"])
    (S13 : Src K mg "add_try" (top 13) ["lines", "row", "ahead"])
    (S15 : Src K mg "_law_cell_at" (top 15) ["_law_script", "_law_k"])
    (S16 : Src K mg "_law_state" (top 16) ["_law_cell", "_law_k"])
    (S17 : Src K mg "_law_next" (top 17) ["_law_state_here", "_law_size"])
    (S18 : Src K mg "_law_names" (top 18) ["_law_state_here", "_law_amount"])
    (S19 : Src K mg "_law_value" (top 19) ["_law_state_here", "_law_deep", "_law_boxes", "_law_lists"])
    (S20 : Src K mg "_law_plain" (top 20) ["_law_state_here", "_law_names_here"])
    (S21 : Src K mg "_law_rows" (top 21) ["_law_state_here", "_law_names_here", "_law_deep", "_law_most", "_law_left"])
    (S22 : Src K mg "_law_program" (top 22) ["_law_state_here", "_law_most"])
    (S23 : Src K mg "_law_within" (top 23) ["_law_row"])
    (S24 : Src K mg "_law_walk" (top 24) ["_law_rows_here", "_law_around", "_law_found"])
    (S25 : Src K mg "_law_listed" (top 25) ["_law_program_here"])
    (S26 : Src K mg "_law_value_text" (top 26) ["_law_value_here"])
    (S27 : Src K mg "_law_row_text" (top 27) ["_law_row"])
    (S28 : Src K mg "_law_row_lines" (top 28) ["_law_row", "_law_ahead"])
    (S29 : Src K mg "_law_lines" (top 29) ["_law_rows_here", "_law_ahead"])
    (S30 : Src K mg "_law_program_lines" (top 30) ["_law_program_here"])
    (S31 : Src K mg "_law_same" (top 31) ["_law_found", "_law_due"])
    (S32 : Src K mg "_law_right" (top 32) ["_law_program_here"])
    {od3 an3 : Option Addr} {sl3 : Array (Option Value)} {oc3 kV3 dc3 pm3 cd3 ct3 : Value}
    (a3 : PySem.W.nsIn K mainGlobals "law" = some (some (.ref f3))) (l3 : K.lookup f3 = some ⟨oc3, od3, .func (PySem.W.fnOf "law" "law" (defArgs (top 33)) (defBody (top 33)) (defScope (top 33)) .none kV3 dc3 pm3 an3 cd3 ct3), sl3⟩) (c3 : PySem.W.codeIn K cd3 "law" = true) (k3 : PySem.W.keepIn K (.ref f3) = true) :
    ∃ fd : FuncData, (∀ (s : Shared) (v : Value), BindsTo s fd ⟨[v], []⟩ [("_law_script", v)]) ∧ ∀ base : Heap, K.In base → base.Ns mainGlobals mg → FnOk l.prog w K mg base CX0 16 fa fd ["_law_script"] (spLaw K) := by
  have e := hfa.symm.trans (PySem.W.mg_of X G a3)
  cases e
  have F3 := fun_mk (st := top 33) l3 c3 k3
  refine ⟨PySem.W.fnOf "law" "law" (defArgs (top 33)) (defBody (top 33)) (defScope (top 33)) .none kV3 dc3 pm3 an3 cd3 ct3, fun s v => .of_eq rfl, fun base _ _ => ?_⟩
  exact all T S2 S5 S6 S7 S8 S9 S10 S11 S12 S13 S15 S16 S17 S18 S19 S20 S21 S22 S23 S24 S25 S26 S27 S28 S29 S30 S31 S32 F3
theorem txt_mk {w : World} {K : PySem.W.Frag} {h : Heap} {mg : Str → Option Value} (X : K.In h) (G : h.Ns mainGlobals mg) {t1 : Tok}
    (z0 : PySem.W.nsIn K mainGlobals "len" = some none) (z1 : PySem.W.nsIn K mainGlobals "isinstance" = some none) (z2 : PySem.W.nsIn K mainGlobals "range" = some none) (z3 : PySem.W.nsIn K mainGlobals "list" = some none) (z4 : PySem.W.nsIn K mainGlobals "tuple" = some none) (z5 : PySem.W.nsIn K mainGlobals "str" = some none) (z6 : PySem.W.nsIn K mainGlobals "int" = some none) (z7 : PySem.W.nsIn K mainGlobals "bool" = some none)
    (m1 : PySem.W.nsIn K mainGlobals "AHEAD" = some (some (.str "  " t1))) {a : Addr} (m2 : PySem.W.nsIn K mainGlobals "ROW_FORMS" = some (some (.ref a))) (tab : TabN w K a rforms) : Txt w K mg :=
  ⟨PySem.W.mg_none_of X G z0, PySem.W.mg_none_of X G z1, PySem.W.mg_none_of X G z2, PySem.W.mg_none_of X G z3, PySem.W.mg_none_of X G z4, PySem.W.mg_none_of X G z5, PySem.W.mg_none_of X G z6, PySem.W.mg_none_of X G z7, ⟨_, PySem.W.mg_of X G m1⟩, ⟨a, PySem.W.mg_of X G m2, tab⟩⟩
theorem walk {l : PySem.W.OpenLaw} {q : Program} {loose : List Str} {XP : (Str → Option Value) → Heap → Prop} {YP : World → Heap → Prop} {d : DefRec} {K : Params → PySem.W.Frag} (hn : l.most = some 63) (hdf : d.params.defaults = [])
    (hY : ∀ (w : World) (h : Heap), YP w h → (K w.params).In h)
    (F : ∀ (w : World) (mg : Str → Option Value) (fa : Addr) (h : Heap), (K w.params).In h → h.Ns mainGlobals mg → mg d.name = some (.ref fa) →
      ∃ fd : FuncData, (∀ (s : Shared) (u : Value), BindsTo s fd ⟨[u], []⟩ [("_law_script", u)]) ∧ ∀ base : Heap, (K w.params).In base → base.Ns mainGlobals mg → FnOk l.prog w (K w.params) mg base CX0 16 fa fd ["_law_script"] (spLaw (K w.params))) :
    PySem.W.WalkO q loose XP YP l.row.toRowW d [] (fun f vs => PySem.call f vs) :=
  L2.walk_of (n := 63) (k := 16) (x := "_law_script") (CX := fun _ => CX0) (sp := fun w => spLaw (K w.params)) hn (by decide) hdf ⟨rfl, by decide, by decide⟩ hY F (fun _ _ a ns hl _ hS => ⟨a, ns, rfl, hS, fun _ => rfl⟩) fun _ _ _ _ _ z => z
end K10

set_option Elab.async false
set_option linter.all false
open PySem PySem.W PyProof.Rows
theorem PySem.W.Fast.tw8689469229382703339 : True := True.intro
theorem PySem.W.Fast.tw987041786137978519 : True := True.intro
theorem PySem.W.Fast.tw3455241068984409921 : True := True.intro
theorem PySem.W.Fast.tw3567977273417898888 : True := True.intro
set_option maxRecDepth 100000 in
set_option maxHeartbeats 0 in
theorem PySem.Challenge.cw_retrace_k10_written_holds : PySem.Challenge.rw_retrace_k10_written.Holds := by
  w_on; o_law; k_head; (case hw => w_witness2)
  k_fill
  refine K10.walk (l := PySem.Challenge.rw_retrace_k10_written) rfl rfl (fun w h Y => PySem.W.kIn_of Y) ?F
  case F =>
    intro w mg fa h KX G hmg
    refine' K10.law_mk KX G hmg ?T ?S2 ?S5 ?S6 ?S7 ?S8 ?S9 ?S10 ?S11 ?S12 ?S13 ?S15 ?S16 ?S17 ?S18 ?S19 ?S20 ?S21 ?S22 ?S23 ?S24 ?S25 ?S26 ?S27 ?S28 ?S29 ?S30 ?S31 ?S32 ?a3 ?l3 ?c3 ?k3
    (case a3 => k_is); (case l3 => k_is); (case c3 => k_is); (case k3 => k_is)
    (case S2 => refine' K10.src_mk KX G K10.bi2 ?a ?l ?c ?k; (case a => k_is); (case l => k_is); (case c => k_is); (case k => k_is))
    (case S5 => refine' K10.src_mk KX G K10.bi5 ?a ?l ?c ?k; (case a => k_is); (case l => k_is); (case c => k_is); (case k => k_is))
    (case S6 => refine' K10.src_mk KX G K10.bi6 ?a ?l ?c ?k; (case a => k_is); (case l => k_is); (case c => k_is); (case k => k_is))
    (case S7 => refine' K10.src_mk KX G K10.bi7 ?a ?l ?c ?k; (case a => k_is); (case l => k_is); (case c => k_is); (case k => k_is))
    (case S8 => refine' K10.src_mk KX G K10.bi8 ?a ?l ?c ?k; (case a => k_is); (case l => k_is); (case c => k_is); (case k => k_is))
    (case S9 => refine' K10.src_mk KX G K10.bi9 ?a ?l ?c ?k; (case a => k_is); (case l => k_is); (case c => k_is); (case k => k_is))
    (case S10 => refine' K10.src_mk KX G K10.bi10 ?a ?l ?c ?k; (case a => k_is); (case l => k_is); (case c => k_is); (case k => k_is))
    (case S11 => refine' K10.src_mk KX G K10.bi11 ?a ?l ?c ?k; (case a => k_is); (case l => k_is); (case c => k_is); (case k => k_is))
    (case S12 => refine' K10.src_mk KX G K10.bi12 ?a ?l ?c ?k; (case a => k_is); (case l => k_is); (case c => k_is); (case k => k_is))
    (case S13 => refine' K10.src_mk KX G K10.bi13 ?a ?l ?c ?k; (case a => k_is); (case l => k_is); (case c => k_is); (case k => k_is))
    (case S15 => refine' K10.src_mk KX G K10.bi15 ?a ?l ?c ?k; (case a => k_is); (case l => k_is); (case c => k_is); (case k => k_is))
    (case S16 => refine' K10.src_mk KX G K10.bi16 ?a ?l ?c ?k; (case a => k_is); (case l => k_is); (case c => k_is); (case k => k_is))
    (case S17 => refine' K10.src_mk KX G K10.bi17 ?a ?l ?c ?k; (case a => k_is); (case l => k_is); (case c => k_is); (case k => k_is))
    (case S18 => refine' K10.src_mk KX G K10.bi18 ?a ?l ?c ?k; (case a => k_is); (case l => k_is); (case c => k_is); (case k => k_is))
    (case S19 => refine' K10.src_mk KX G K10.bi19 ?a ?l ?c ?k; (case a => k_is); (case l => k_is); (case c => k_is); (case k => k_is))
    (case S20 => refine' K10.src_mk KX G K10.bi20 ?a ?l ?c ?k; (case a => k_is); (case l => k_is); (case c => k_is); (case k => k_is))
    (case S21 => refine' K10.src_mk KX G K10.bi21 ?a ?l ?c ?k; (case a => k_is); (case l => k_is); (case c => k_is); (case k => k_is))
    (case S22 => refine' K10.src_mk KX G K10.bi22 ?a ?l ?c ?k; (case a => k_is); (case l => k_is); (case c => k_is); (case k => k_is))
    (case S23 => refine' K10.src_mk KX G K10.bi23 ?a ?l ?c ?k; (case a => k_is); (case l => k_is); (case c => k_is); (case k => k_is))
    (case S24 => refine' K10.src_mk KX G K10.bi24 ?a ?l ?c ?k; (case a => k_is); (case l => k_is); (case c => k_is); (case k => k_is))
    (case S25 => refine' K10.src_mk KX G K10.bi25 ?a ?l ?c ?k; (case a => k_is); (case l => k_is); (case c => k_is); (case k => k_is))
    (case S26 => refine' K10.src_mk KX G K10.bi26 ?a ?l ?c ?k; (case a => k_is); (case l => k_is); (case c => k_is); (case k => k_is))
    (case S27 => refine' K10.src_mk KX G K10.bi27 ?a ?l ?c ?k; (case a => k_is); (case l => k_is); (case c => k_is); (case k => k_is))
    (case S28 => refine' K10.src_mk KX G K10.bi28 ?a ?l ?c ?k; (case a => k_is); (case l => k_is); (case c => k_is); (case k => k_is))
    (case S29 => refine' K10.src_mk KX G K10.bi29 ?a ?l ?c ?k; (case a => k_is); (case l => k_is); (case c => k_is); (case k => k_is))
    (case S30 => refine' K10.src_mk KX G K10.bi30 ?a ?l ?c ?k; (case a => k_is); (case l => k_is); (case c => k_is); (case k => k_is))
    (case S31 => refine' K10.src_mk KX G K10.bi31 ?a ?l ?c ?k; (case a => k_is); (case l => k_is); (case c => k_is); (case k => k_is))
    (case S32 => refine' K10.src_mk KX G K10.bi32 ?a ?l ?c ?k; (case a => k_is); (case l => k_is); (case c => k_is); (case k => k_is))
    (case T =>
      refine' K10.txt_mk KX G ?z0 ?z1 ?z2 ?z3 ?z4 ?z5 ?z6 ?z7 ?m1 ?m2 ?tab
      (case z0 => k_is); (case z1 => k_is); (case z2 => k_is); (case z3 => k_is); (case z4 => k_is); (case z5 => k_is); (case z6 => k_is); (case z7 => k_is)
      (case m1 => k_is); (case m2 => k_is)
      (case tab =>
        refine' K10.tab_mk ?l ?lo ?e0 ?e1 ?e2 ?e3 ?e4 ?e5 ?e6 ?e7 ?e8 ?e9 ?e10 ?e11 ?l0 ?c0 ?n0 ?d0 ?l1 ?c1 ?n1 ?d1 ?l2 ?c2 ?n2 ?d2 ?l3 ?c3 ?n3 ?d3 ?l4 ?c4 ?n4 ?d4 ?l5 ?c5 ?n5 ?d5 ?l6 ?c6 ?n6 ?d6 ?l7 ?c7 ?n7 ?d7 ?l8 ?c8 ?n8 ?d8 ?l9 ?c9 ?n9 ?d9 ?l10 ?c10 ?n10 ?d10 ?l11 ?c11 ?n11 ?d11
        (case l => k_is); (case lo => decide)
        (case e0 => rfl); (case e1 => rfl); (case e2 => rfl); (case e3 => rfl); (case e4 => rfl); (case e5 => rfl); (case e6 => rfl); (case e7 => rfl); (case e8 => rfl); (case e9 => rfl); (case e10 => rfl); (case e11 => rfl)
        (case l0 => k_is); (case c0 => rfl); (case n0 => rfl); (case d0 => rfl)
        (case l1 => k_is); (case c1 => rfl); (case n1 => rfl); (case d1 => rfl)
        (case l2 => k_is); (case c2 => rfl); (case n2 => rfl); (case d2 => rfl)
        (case l3 => k_is); (case c3 => rfl); (case n3 => rfl); (case d3 => rfl)
        (case l4 => k_is); (case c4 => rfl); (case n4 => rfl); (case d4 => rfl)
        (case l5 => k_is); (case c5 => rfl); (case n5 => rfl); (case d5 => rfl)
        (case l6 => k_is); (case c6 => rfl); (case n6 => rfl); (case d6 => rfl)
        (case l7 => k_is); (case c7 => rfl); (case n7 => rfl); (case d7 => rfl)
        (case l8 => k_is); (case c8 => rfl); (case n8 => rfl); (case d8 => rfl)
        (case l9 => k_is); (case c9 => rfl); (case n9 => rfl); (case d9 => rfl)
        (case l10 => k_is); (case c10 => rfl); (case n10 => rfl); (case d10 => rfl)
        (case l11 => k_is); (case c11 => rfl); (case n11 => rfl); (case d11 => rfl)))

