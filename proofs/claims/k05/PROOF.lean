import PyProof.Rows.All
import Wide.All
import OpenK.AllK
import Wide.FinOn
import Lean
import PyProof.EqAt
import PyProof.EqKinds
import PyProof.TupleCall
import PySem.Challenge.RW_retrace_k05_whole_bounds
set_option Elab.async false
set_option linter.all false
set_option maxRecDepth 100000
/-! THE HAND LAYER, for ints, bools, texts, own classes, LISTS and tuples (index, slices, in, append, pop ..), calls, loops. Paste it whole ahead of your own text; what your proof does not reach may be deleted. -/
namespace L2
open PySem PySem.Spec PyProof.Rows

/-- a key: an int or a str -/
abbrev Key := Sum Int Str
def keyIs : Key → Value → Bool
  | .inl k, v => Value.isInt k v
  | .inr x, v => Value.isStrOf x v
def keyH (w : World) : Key → Int
  | .inl k => hashInt k
  | .inr x => hashStr w x
theorem keyIs_shape : ∀ {k : Key} {v : Value}, keyIs k v = true → (∃ i t, k = Sum.inl i ∧ v = Value.int i t) ∨ (∃ x t, k = Sum.inr x ∧ v = Value.str x t)
  | .inl i, v, h => by
    obtain ⟨t, e⟩ := Value.isInt_shape (k := i) (v := v) h
    exact .inl ⟨i, t, rfl, e⟩
  | .inr x, v, h => by
    obtain ⟨t, e⟩ := Value.isStrOf_shape (x := x) (v := v) h
    exact .inr ⟨x, t, rfl, e⟩
theorem keyIs_int (i : Int) (t : Tok) : keyIs (.inl i) (.int i t) = true := by simp [keyIs, Value.isInt]
theorem keyIs_str (x : Str) (t : Tok) : keyIs (.inr x) (.str x t) = true := by simp [keyIs, Value.isStrOf]
theorem key_ll (a b : Int) : decide ((Sum.inl a : Key) = Sum.inl b) = (a == b) := by
  by_cases e : a = b
  · subst e; simp
  · have h : ¬ (Sum.inl a : Key) = Sum.inl b := fun q => e (Sum.inl.inj q)
    rw [decide_eq_false h]
    exact (beq_eq_false_iff_ne.mpr e).symm
theorem key_rr (a b : Str) : decide ((Sum.inr a : Key) = Sum.inr b) = decide (a = b) := by
  by_cases e : a = b
  · subst e; simp
  · have h : ¬ (Sum.inr a : Key) = Sum.inr b := fun q => e (Sum.inr.inj q)
    rw [decide_eq_false h, decide_eq_false e]
theorem key_lr (a : Int) (b : Str) : decide ((Sum.inl a : Key) = Sum.inr b) = false := decide_eq_false (fun q => nomatch q)
theorem key_rl (a : Str) (b : Int) : decide ((Sum.inr a : Key) = Sum.inl b) = false := decide_eq_false (fun q => nomatch q)

def mixKind (prog : Program) (w : World) : PySem.KeyKind prog w Key where
  is := keyIs
  hash := keyH w
  inj := fun v a b ha hb => by
    rcases keyIs_shape ha with ⟨i, t, rfl, rfl⟩ | ⟨x, t, rfl, rfl⟩
    · rcases keyIs_shape hb with ⟨j, u, rfl, e⟩ | ⟨y, u, rfl, e⟩
      · injection e with e1 _; rw [e1]
      · exact nomatch e
    · rcases keyIs_shape hb with ⟨j, u, rfl, e⟩ | ⟨y, u, rfl, e⟩
      · exact nomatch e
      · injection e with e1 _; rw [e1]
  byValue := fun k v h => by
    rcases keyIs_shape h with ⟨i, t, rfl, rfl⟩ | ⟨x, t, rfl, rfl⟩ <;> rfl
  pyHash := fun hv h => by
    rcases keyIs_shape hv with ⟨i, t, rfl, rfl⟩ | ⟨x, t, rfl, rfl⟩
    · exact wpAny_pyHash_int h
    · exact wpAny_pyHash_str h
  eqBool := fun hu hv h => by
    rcases keyIs_shape hu with ⟨i, t, rfl, rfl⟩ | ⟨x, t, rfl, rfl⟩
    · rcases keyIs_shape hv with ⟨j, u, rfl, rfl⟩ | ⟨y, u, rfl, rfl⟩
      · rw [key_ll] at h; exact wpAny_eqBool_int h
      · rw [key_lr] at h; exact SeqAt.EqAt.int_str i t y u _ _ _ _ h
    · rcases keyIs_shape hv with ⟨j, u, rfl, rfl⟩ | ⟨y, u, rfl, rfl⟩
      · rw [key_rl] at h; exact SeqAt.EqAt.str_int x t j u _ _ _ _ h
      · rw [key_rr] at h; exact wpAny_eqBool_str h
  «strs» := fun k x t v h => by
    rcases keyIs_shape h with ⟨i, u, rfl, e⟩ | ⟨y, u, rfl, e⟩
    · exact nomatch e
    · injection e with e1 _
      subst e1
      cases v <;> rfl

theorem mixKind_int (prog : Program) (w : World) (i : Int) (t : Tok) : (mixKind prog w).is (.inl i) (.int i t) = true := keyIs_int i t
theorem mixKind_str (prog : Program) (w : World) (x : Str) (t : Tok) : (mixKind prog w).is (.inr x) (.str x t) = true := keyIs_str x t
end L2

namespace L2
open PySem PySem.Spec PyProof.Rows

/-- a value, without the heap -/
inductive V where
  | non | bl (b : Bool) | int (i : Int) | str (x : Str) | byt (b : Array UInt8) | flt (b : UInt64) | ref (a : Addr) | ty (n : String)
  deriving DecidableEq

def RelV : V → Value → Prop
  | .non, u => u = Value.none
  | .bl b, u => u = Value.bool b
  | .int i, u => ∃ t, u = Value.int i t
  | .str x, u => ∃ t, u = Value.str x t
  | .byt b, u => ∃ t, u = Value.bytes b t
  | .flt b, u => ∃ t, u = Value.float b t
  | .ref a, u => u = Value.ref a
  | .ty n, u => u = Value.type n

abbrev Vals : List V → List Value → Prop := Paired RelV
theorem Vals.length {xs : List V} {us : List Value} (r : Vals xs us) : xs.length = us.length := Paired.length r
theorem Vals.get : ∀ {xs : List V} {us : List Value} {i : Nat} {x : V}, Vals xs us → xs[i]? = some x → ∃ u, us[i]? = some u ∧ RelV x u
  | _, _, _, _, .nil, e => by simp at e
  | _, _, 0, _, .cons r _, e => by simp at e; subst e; exact ⟨_, rfl, r⟩
  | _, _, i + 1, x, .cons _ t, e => by
    obtain ⟨u, h1, h2⟩ := Vals.get (i := i) (x := x) t (by simpa using e)
    exact ⟨u, by simpa using h1, h2⟩
theorem Vals.set {x : V} {u : Value} (r : RelV x u) : ∀ {xs : List V} {us : List Value} (i : Nat), Vals xs us → Vals (xs.set i x) (us.set i u)
  | _, _, _, .nil => .nil
  | _, _, 0, .cons _ t => .cons r t
  | _, _, i + 1, .cons q t => .cons q (Vals.set r i t)
theorem Vals.append : ∀ {xs ys : List V} {us ws : List Value}, Vals xs us → Vals ys ws → Vals (xs ++ ys) (us ++ ws)
  | _, _, _, _, .nil, s => s
  | _, _, _, _, .cons r t, s => .cons r (Vals.append t s)
theorem Vals.take : ∀ {xs : List V} {us : List Value} (n : Nat), Vals xs us → Vals (xs.take n) (us.take n)
  | _, _, 0, _ => .nil
  | _, _, _ + 1, .nil => .nil
  | _, _, n + 1, .cons r t => .cons r (Vals.take n t)
theorem Vals.drop : ∀ {xs : List V} {us : List Value} (n : Nat), Vals xs us → Vals (xs.drop n) (us.drop n)
  | _, _, 0, r => r
  | _, _, _ + 1, .nil => .nil
  | _, _, n + 1, .cons _ t => Vals.drop n t
theorem Vals.none_of : ∀ {xs : List V} {us : List Value} {i : Nat}, Vals xs us → xs[i]? = none → us[i]? = none := fun {xs us i} r e => by
  have h1 := r.length
  have h2 : xs.length ≤ i := List.getElem?_eq_none_iff.mp e
  exact List.getElem?_eq_none_iff.mpr (by omega)

def RelO : Option V → Option Value → Prop
  | some v, some u => RelV v u
  | none, none => True
  | _, _ => False
def KV {κ : Type} : List (κ × V) → List (κ × Value) → Prop := Paired fun (p : κ × V) (q : κ × Value) => p.1 = q.1 ∧ RelV p.2 q.2

/-- a key of a dict (00_mix): an int or a text -/
def kV : Key → V
  | .inl i => .int i
  | .inr x => .str x

/-- what stands at a tracked address -/
inductive HO where
  /-- a list -/
  | lst (xs : List V)
  /-- a tuple (never changes) -/
  | tup (xs : List V)
  /-- a dict whose keys are ints and texts; one whose keys are tuples of ints and texts (the empty one is both) -/
  | dK (kvs : List (Key × V)) | dT (kvs : List (List Key × V))
  /-- a set of ints: its members, its size -/
  | set (S : Int → Bool) (n : Nat)
  /-- an instance of the class at C, its dict at dx, its attributes -/
  | ins (C dx : Addr) (fs : List (Str × V))
  /-- the dict of the instance at x -/
  | own (x : Addr)
  /-- the dict of an exception -/
  | xd (fs : List (Str × V))
  /-- a bound method, f of x -/
  | met (f x : Addr)
  /-- a range object lo, lo + 1, .. below hi -/
  | rng (lo hi : Int)
  /-- a thing that is known to the object (the script; a dict while a loop walks it): read, never written while it is so -/
  | frz (o : Obj) (u : HO)
  /-- a code object's table -/
  | tbl (ps : Array Value)
  /-- any other thing, by what is true of its one object (a def of one's own: SetO a S n := HO.ext fun h => ..) -/
  | ext (φ : Heap → Prop)

abbrev Hp := Addr → Option HO
def upd (H : Hp) (a : Addr) (o : HO) : Hp := fun b => if b = a then some o else H b
theorem upd_same {H : Hp} {a : Addr} {o : HO} : upd H a o a = some o := by unfold upd; rw [if_pos rfl]
theorem upd_ne {H : Hp} {a b : Addr} {o : HO} (h : b ≠ a) : upd H a o b = H b := by unfold upd; rw [if_neg h]
theorem upd_upd {H : Hp} {a : Addr} {o u : HO} : upd (upd H a o) a u = upd H a u := by
  funext b; unfold upd; split <;> rfl
/-- two objects of different content stand apart -/
theorem ne_of {H : Hp} {a b : Addr} {o u : HO} (h : H a = some o) (h' : H b = some u) (d : o ≠ u) : a ≠ b := by
  intro e; subst e; rw [h] at h'; exact d (Option.some.inj h')
theorem ne_of_none {H : Hp} {a b : Addr} {o : HO} (h : H a = some o) (h' : H b = none) : a ≠ b := by
  intro e; subst e; rw [h] at h'; cases h'

section
variable (P : Program) (w : World)
def ObjOk (H : Hp) (h : Heap) (a : Addr) : HO → Prop
  | .lst xs => xs.length ≤ sizeLine ∧ ∃ (its : List Value) (n : Nat), Vals xs its ∧ h.get? a = some { cls := .type "list", data := .seq its.toArray n }
  | .tup xs => xs.length ≤ sizeLine ∧ ∃ its : List Value, Vals xs its ∧ IsTup h a its.toArray
  | .dK kvs => kvs.length ≤ sizeLine ∧ (a == sysModules) = false ∧ ∃ vs, KV kvs vs ∧ h.DictOf (mixKind P w) a vs
  | .dT kvs => kvs.length ≤ sizeLine ∧ (a == sysModules) = false ∧ ∃ xs : List (List Key × Addr × Value),
      Paired (fun (p : List Key × V) (q : List Key × Addr × Value) => p.1 = q.1 ∧ H q.2.1 = some (.tup (p.1.map kV)) ∧ RelV p.2 q.2.2) kvs xs ∧
      ∃ o es ep, h.get? a = some o ∧ o.ExactDict ∧ o.data = .dict es ep ∧ es.toList = xs.map (entryOfKey (tupleKind (mixKind P w))) ∧ (xs.map (·.1)).Nodup
  | .set S n => h.SetOf (intKind P w) a S n
  | .ins C dx fs => H dx = some (.own a) ∧ fs.length ≤ 1000 ∧ dx ≠ a ∧ h.get? a = some (PySem.W.instObj C dx) ∧
      ∃ mA, h.Ns1 dx mA ∧ (∀ f, RelO (fs.lookup f) (mA f)) ∧ PySem.Within mA (fs.map (·.1))
  | .own _ => ∃ o, h.get? a = some o
  | .xd fs => ∃ mA, h.Ns1 a mA ∧ ∀ f, RelO (fs.lookup f) (mA f)
  | .rng lo hi => ∃ t u v, h.get? a = some { cls := .type "range", data := .fields #[.int lo t, .int hi u, .int 1 v] }
  | .frz o u => h.get? a = some o ∧ ObjOk H h a u
  | .tbl ps => h.get? a = some { cls := .none, data := .fields ps }
  | .met f x => h.get? a = some (PySem.W.methodObj (.ref f) (.ref x))
  | .ext φ => φ h ∧ (∃ o, h.get? a = some o) ∧ ∀ h1 h2 : Heap, φ h1 → (∀ o, h1.get? a = some o → h2.get? a = some o) → φ h2
/-- the abstract heap is held -/
def HOk (H : Hp) (h : Heap) : Prop := ∀ a o, H a = some o → ObjOk P w H h a o
end

section
variable {P : Program} {w : World} {H H' : Hp} {h h' : Heap} {a : Addr} {o : HO}
theorem ObjOk.lt (x : ObjOk P w H h a o) : a < h.objs.size := by
  cases o with
  | lst xs => obtain ⟨_, _, _, _, e⟩ := x; exact Heap.lt_size e
  | tup xs => obtain ⟨_, _, _, p⟩ := x; exact p.lt
  | dK kvs => obtain ⟨_, _, _, _, o, _, _, e, _⟩ := x; exact Heap.lt_size e
  | dT kvs => obtain ⟨_, _, _, _, o, _, _, e, _⟩ := x; exact Heap.lt_size e
  | set S n => obtain ⟨o, _, _, _, e, _⟩ := x; exact Heap.lt_size e
  | ins C dx fs => obtain ⟨_, _, _, e, _⟩ := x; exact Heap.lt_size e
  | own y => obtain ⟨_, e⟩ := x; exact Heap.lt_size e
  | xd fs => obtain ⟨_, ⟨_, _, _, e, _⟩, _⟩ := x; exact Heap.lt_size e
  | rng lo hi => obtain ⟨_, _, _, e⟩ := x; exact Heap.lt_size e
  | frz ob u => obtain ⟨e, _⟩ := x; exact Heap.lt_size e
  | tbl ps => exact Heap.lt_size (show h.get? a = some _ from x)
  | met f y => exact Heap.lt_size (show h.get? a = some _ from x)
  | ext φ => obtain ⟨_, ⟨_, e⟩, _⟩ := x; exact Heap.lt_size e
theorem Paired.mapP {α β : Type} {F G : α → β → Prop} : ∀ {l₁ : List α} {l₂ : List β}, Paired F l₁ l₂ → (∀ a b, F a b → G a b) → Paired G l₁ l₂
  | _, _, .nil, _ => .nil
  | _, _, .cons r t, f => .cons (f _ _ r) (Paired.mapP t f)
theorem Paired.imp' {α β : Type} {F G : α → β → Prop} (f : ∀ a b, F a b → G a b) {l₁ : List α} {l₂ : List β} (r : Paired F l₁ l₂) : Paired G l₁ l₂ := Paired.mapP r f
/-- what an object's description leans on: its own object, its own dict, the tuples -/
theorem ObjOk.stay (x : ObjOk P w H h a o) (k : ∀ b u, (b = a ∨ H b = some (.own a)) → h.get? b = some u → h'.get? b = some u)
    (ho : ∀ b, H b = some (.own a) → H' b = some (.own a)) (ht : ∀ b xs, H b = some (.tup xs) → H' b = some (.tup xs)) : ObjOk P w H' h' a o := by
  induction o with
  | lst xs => obtain ⟨z, its, n, r, e⟩ := x; exact ⟨z, its, n, r, k _ _ (.inl rfl) e⟩
  | tup xs => obtain ⟨z, its, r, ob, e, c⟩ := x; exact ⟨z, its, r, ob, k _ _ (.inl rfl) e, c⟩
  | dK kvs => obtain ⟨z, y, vs, r, ob, es, ep, e, c⟩ := x; exact ⟨z, y, vs, r, ob, es, ep, k _ _ (.inl rfl) e, c⟩
  | dT kvs =>
    obtain ⟨z, y, xs, r, ob, es, ep, e, c⟩ := x
    exact ⟨z, y, xs, Paired.mapP r fun p q z => ⟨z.1, ht _ _ z.2.1, z.2.2⟩, ob, es, ep, k _ _ (.inl rfl) e, c⟩
  | set S n => obtain ⟨ob, es, ep, t, e, c⟩ := x; exact ⟨ob, es, ep, t, k _ _ (.inl rfl) e, c⟩
  | ins C dx fs =>
    obtain ⟨d, z, ne, e, mA, ⟨od, es, ep, e2, c⟩, r⟩ := x
    exact ⟨ho _ d, z, ne, k _ _ (.inl rfl) e, mA, ⟨od, es, ep, k _ _ (.inr d) e2, c⟩, r⟩
  | own y => obtain ⟨ob, e⟩ := x; exact ⟨ob, k _ _ (.inl rfl) e⟩
  | xd fs => obtain ⟨mA, ⟨od, es, ep, e, c⟩, r⟩ := x; exact ⟨mA, ⟨od, es, ep, k _ _ (.inl rfl) e, c⟩, r⟩
  | rng lo hi => obtain ⟨t, u, v, e⟩ := x; exact ⟨t, u, v, k _ _ (.inl rfl) e⟩
  | frz ob u ih => obtain ⟨e, q⟩ := x; exact ⟨k _ _ (.inl rfl) e, ih q⟩
  | tbl ps =>
    have e : h.get? a = some { cls := .none, data := .fields ps } := x
    show h'.get? a = some { cls := .none, data := .fields ps }
    exact k a _ (.inl rfl) e
  | met f y =>
    have e : h.get? a = some (PySem.W.methodObj (.ref f) (.ref y)) := x
    show h'.get? a = some (PySem.W.methodObj (.ref f) (.ref y))
    exact k a _ (.inl rfl) e
  | ext φ => obtain ⟨p, ⟨o, e⟩, st⟩ := x; exact ⟨st _ _ p fun o q => k _ _ (.inl rfl) q, ⟨o, k _ _ (.inl rfl) e⟩, st⟩
theorem HOk.lt (x : HOk P w H h) (e : H a = some o) : a < h.objs.size := (x a o e).lt
theorem HOk.fresh (x : HOk P w H h) (e : h.objs.size ≤ a) : H a = none := by
  cases q : H a with
  | none => rfl
  | some u => exact absurd (Nat.lt_of_lt_of_le (x.lt q) e) (Nat.lt_irrefl _)
/-- every object of the heap is kept -/
theorem HOk.kept (x : HOk P w H h) (k : ∀ b u, h.get? b = some u → h'.get? b = some u) : HOk P w H h' := fun a o e =>
  (x a o e).stay (fun b u _ q => k b u q) (fun _ q => q) fun _ _ q => q
/-- a new object is laid and tracked -/
theorem HOk.laid (x : HOk P w H h) (k : ∀ b u, h.get? b = some u → h'.get? b = some u) (hp : h.objs.size ≤ a) (new : ObjOk P w (upd H a o) h' a o) : HOk P w (upd H a o) h' := fun b u e => by
  have hn := x.fresh hp
  by_cases hb : b = a
  · subst hb; rw [upd_same] at e; cases e; exact new
  · rw [upd_ne hb] at e
    exact (x b u e).stay (fun c v _ q => k c v q) (fun c q => by rw [upd_ne (ne_of_none q hn)]; exact q) fun c xs q => by rw [upd_ne (ne_of_none q hn)]; exact q
end

/-- what may be read as u: it is u, or a known u -/
def Rd (H : Hp) (a : Addr) (u : HO) : Prop := H a = some u ∨ ∃ o, H a = some (.frz o u)
theorem Rd.of {H : Hp} {a : Addr} {u : HO} (h : H a = some u) : Rd H a u := .inl h
theorem Rd.ok {P : Program} {w : World} {H : Hp} {h : Heap} {a : Addr} {u : HO} (r : Rd H a u) (x : HOk P w H h) : ObjOk P w H h a u := by
  rcases r with r | ⟨o, r⟩
  · exact x a u r
  · obtain ⟨_, q⟩ := x a _ r
    exact q
/-- what may be written -/
def Mut : Option HO → Prop
  | some (.lst _) => True
  | some (.dK _) => True
  | some (.dT _) => True
  | some (.set _ _) => True
  | some (.ins _ _ _) => True
  | some (.ext _) => True
  | _ => False
section
variable {P : Program} {w : World} {H : Hp} {h h' : Heap} {x e : Addr} {o' : HO}
/-- the object at e is changed: x itself, or the dict of the instance x -/
theorem HOk.write (ok : HOk P w H h) (mu : Mut (H x)) (he : e = x ∨ H e = some (.own x)) (k : ∀ b u, b ≠ e → h.get? b = some u → h'.get? b = some u) (heo : ∃ u, h'.get? e = some u)
    (new : ObjOk P w (upd H x o') h' x o') : HOk P w (upd H x o') h' := fun b u q => by
  have nown : ∀ c y, H c = some (.own y) → c ≠ x := fun c y r z => by subst z; rw [r] at mu; exact mu
  have ntup : ∀ c xs, H c = some (.tup xs) → c ≠ x := fun c xs r z => by subst z; rw [r] at mu; exact mu
  by_cases hb : b = x
  · subst hb; rw [upd_same] at q; cases q; exact new
  · rw [upd_ne hb] at q
    by_cases hbe : b = e
    · have q' : H b = some (.own x) := by
        rcases he with z | z
        · exact absurd (hbe.trans z) hb
        · rw [hbe]; exact z
      rw [q] at q'; cases q'
      obtain ⟨v, hv⟩ := heo
      exact ⟨v, by rw [hbe]; exact hv⟩
    · refine (ok b u q).stay (fun c v hc r => k c v ?_ r) (fun c r => by rw [upd_ne (nown c b r)]; exact r) fun c xs r => by rw [upd_ne (ntup c xs r)]; exact r
      rcases hc with rfl | hc
      · exact hbe
      · rintro rfl
        rcases he with z | z
        · exact nown c b hc z
        · rw [hc] at z; cases z; exact hb rfl
end

/-! ### kept unless tracked; of the frames at fs (the callers') the slots may change (an exception that passes writes there); of the records at ex (iterators) nothing is said -/
structure Un (fs ex : List Addr) (H H' : Hp) (h h' : Heap) : Prop where
  keep : ∀ b o, h.get? b = some o → H b = none → b ∉ fs → b ∉ ex → h'.get? b = some o
  slot : ∀ b o, h.get? b = some o → H b = none → b ∈ fs → b ∉ ex → ∃ sl, h'.get? b = some { o with slots := sl }
  free : ∀ b o, h.get? b = some o → H b = none → b ∉ ex → H' b = none
  there : ∀ b o, h.get? b = some o → b ∉ ex → ∃ o', h'.get? b = some o'
  tups : ∀ b xs, H b = some (.tup xs) → H' b = some (.tup xs)
  frzs : ∀ b o u, H b = some (.frz o u) → H' b = some (.frz o u)
  tbls : ∀ b ps, H b = some (.tbl ps) → ∃ more, H' b = some (.tbl (ps ++ more))
section
variable {fs fs' ex ex' : List Addr} {H H1 H2 : Hp} {h h1 h2 h' : Heap} {a x e : Addr} {o : HO}
theorem Un.any (u : Un fs ex H H1 h h1) {b : Addr} {ob : Obj} (q : h.get? b = some ob) (n : H b = none) (hx : b ∉ ex) : ∃ sl, h1.get? b = some { ob with slots := sl } := by
  by_cases hb : b ∈ fs
  · exact u.slot b ob q n hb hx
  · exact ⟨ob.slots, u.keep b ob q n hb hx⟩
theorem Un.trans (a : Un fs ex H H1 h h1) (b : Un fs ex H1 H2 h1 h2) : Un fs ex H H2 h h2 where
  keep := fun c ob q n hc hx => b.keep c ob (a.keep c ob q n hc hx) (a.free c ob q n hx) hc hx
  slot := fun c ob q n hc hx => by
    obtain ⟨sl, e1⟩ := a.slot c ob q n hc hx
    obtain ⟨sl', e2⟩ := b.slot c _ e1 (a.free c ob q n hx) hc hx
    exact ⟨sl', e2⟩
  free := fun c ob q n hx => by
    obtain ⟨o', e1⟩ := a.there c ob q hx
    exact b.free c o' e1 (a.free c ob q n hx) hx
  there := fun c ob q hx => by
    obtain ⟨o', e1⟩ := a.there c ob q hx
    exact b.there c o' e1 hx
  tups := fun c xs q => b.tups c xs (a.tups c xs q)
  frzs := fun c ob xs q => b.frzs c ob xs (a.frzs c ob xs q)
  tbls := fun c ps q => by
    obtain ⟨m1, e1⟩ := a.tbls c ps q
    obtain ⟨m2, e2⟩ := b.tbls c _ e1
    exact ⟨m1 ++ m2, by rw [e2, Array.append_assoc]⟩
theorem Un.kept (k : ∀ b u, h.get? b = some u → h'.get? b = some u) : Un fs ex H H h h' :=
  ⟨fun b ob q _ _ _ => k b ob q, fun b ob q _ _ _ => ⟨ob.slots, k b ob q⟩, fun _ _ _ n _ => n, fun b ob q _ => ⟨ob, k b ob q⟩, fun _ _ q => q, fun _ _ _ q => q, fun _ ps q => ⟨#[], by rw [q]; simp⟩⟩
theorem Un.refl : Un fs ex H H h h := Un.kept fun _ _ q => q
theorem Un.laid (k : ∀ b u, h.get? b = some u → h'.get? b = some u) (hp : h.objs.size ≤ a) (hn : H a = none) : Un fs ex H (upd H a o) h h' where
  keep := fun b u q _ _ _ => k b u q
  slot := fun b u q _ _ _ => ⟨u.slots, k b u q⟩
  free := fun b u q n _ => by rw [upd_ne (Nat.ne_of_lt (Nat.lt_of_lt_of_le (Heap.lt_size q) hp))]; exact n
  there := fun b u q _ => ⟨u, k b u q⟩
  tups := fun b xs q => by rw [upd_ne (ne_of_none q hn)]; exact q
  frzs := fun b u xs q => by rw [upd_ne (ne_of_none q hn)]; exact q
  tbls := fun b ps q => ⟨#[], by rw [upd_ne (ne_of_none q hn), q]; simp⟩
theorem Un.write (mu : Mut (H x)) (he : e = x ∨ H e = some (.own x)) (k : ∀ b u, b ≠ e → h.get? b = some u → h'.get? b = some u) (heo : ∃ u, h'.get? e = some u) : Un fs ex H (upd H x o) h h' := by
  have hx : ∀ b, H b = none → b ≠ x := fun b n z => by subst z; rw [n] at mu; exact mu
  have hb : ∀ b, H b = none → b ≠ e := fun b n z => by
    subst z
    rcases he with r | r
    · exact hx b n r
    · rw [n] at r; cases r
  have hm : ∀ b u, H b = some u → ¬ Mut (some u) → b ≠ x := fun b u q nm z => by subst z; rw [q] at mu; exact nm mu
  refine ⟨fun b u q n _ _ => k b u (hb b n) q, fun b u q n _ _ => ⟨u.slots, k b u (hb b n) q⟩, fun b u q n _ => by rw [upd_ne (hx b n)]; exact n, fun b u q _ => ?_,
    fun b xs q => by rw [upd_ne (hm b _ q fun z => z)]; exact q, fun b u xs q => by rw [upd_ne (hm b _ q fun z => z)]; exact q, fun b ps q => ⟨#[], by rw [upd_ne (hm b _ q fun z => z), q]; simp⟩⟩
  by_cases hbe : b = e
  · subst hbe; exact heo
  · exact ⟨u, k b u hbe q⟩
theorem Un.mono (u : Un fs ex H H1 h h1) (hs : ∀ b ∈ fs, b ∈ fs') (hx : ∀ b ∈ ex, b ∈ ex') : Un fs' ex' H H1 h h1 :=
  ⟨fun b ob q n hb he => u.keep b ob q n (fun z => hb (hs b z)) fun z => he (hx b z), fun _ _ q n _ he => u.any q n fun z => he (hx _ z), fun b ob q n he => u.free b ob q n fun z => he (hx b z), fun b ob q he => u.there b ob q fun z => he (hx b z), u.tups, u.frzs, u.tbls⟩
end

/-! ### the heap without what is tracked -/
def trk (h : Heap) (H : Hp) : List Addr := (List.range h.objs.size).filter fun a => (H a).isSome
def hidT (h : Heap) (H : Hp) : Heap := PySem.W.hideAll h (trk h H)
theorem hidT_size (h : Heap) (H : Hp) : (hidT h H).objs.size = h.objs.size := PySem.W.hideAll_size _ _
theorem hidT_get {h : Heap} {H : Hp} {b : Addr} {o : Obj} (e : h.get? b = some o) (n : H b = none) : (hidT h H).get? b = some o :=
  PySem.W.hideAll_get _ e fun hm => by
    have q : (H b).isSome = true := (List.mem_filter.mp hm).2
    rw [n] at q; simp at q
theorem of_hidT {h : Heap} {H : Hp} {b : Addr} {o : Obj} (e : (hidT h H).get? b = some o) : h.get? b = some o ∧ H b = none := by
  have e' : h.get? b = some o := PySem.W.of_hideAll (trk h H) e
  refine ⟨e', ?_⟩
  cases q : H b with
  | none => rfl
  | some x =>
    have hm : b ∈ trk h H := List.mem_filter.mpr ⟨List.mem_range.mpr (Heap.lt_size e'), by simp [q]⟩
    have z : (hidT h H).get? b = none := PySem.W.hideAll_none (trk h H) hm
    rw [z] at e; cases e

/-! ### OpenK's ledger, filled with every new object but one -/
def allNews (g h : Heap) (L : Addr) : List (Addr × Obj) := (List.range h.objs.size).filterMap fun a => if a = L ∨ (g.get? a).isSome = true then none else (h.get? a).map fun o => (a, o)
def rest (g h : Heap) (L d : Addr) : List (Addr × Obj) := (allNews g h L).filter fun p => decide (p.1 ≠ d)
end L2

namespace L2
open PySem PySem.Spec PyProof.Rows

/-- the module's facts, over the base: the heap at the law's entry without what is tracked there -/
structure Mod (K : PySem.W.Frag) (mg : Str → Option Value) (base : Heap) : Prop where
  kin : K.In base
  glob : base.Ns mainGlobals mg
  blt : ∃ mb, base.Ns builtinsNs mb ∧ ∀ x : Str, x ≠ "__name__" → mb x = bootBuiltins x
  nolimit : base.NoLimit

/-- the context: a def's body (or a comprehension's block) running. base: fixed through the whole law; s₀, H₀: the entry; outer: the frames whose slots others may change (a def's callers); stack: all frames that run;
   ex: iterators that were made ahead of the entry and are walked here (a comprehension's); fn: the names whose cells were made at the entry (a def: all; a comprehension's block: its own); calm: not within an except suite; pn: pins that every state bears; xe: what is wanted of an exception that leaves the code -/
structure Cx where
  prog : Program
  w : World
  K : PySem.W.Frag
  mg : Str → Option Value
  base : Heap
  A : Around
  N : List Str
  s₀ : Shared
  H₀ : Hp
  env : Env
  outer : List Env
  stack : List Env
  ex : List Addr
  fn : Str → Bool
  calm : Bool
  pn : List (Addr × Obj)
  xe : Value → Shared → Prop
/-- the callers' frames -/
def frs (l : List Env) : List Addr := l.filterMap (·.frame)
abbrev Cx.fs (X : Cx) : List Addr := frs X.outer

def Vis (sc : Scope) (x : Str) : Prop := sc.names.lookup x = some .local ∨ sc.names.lookup x = some .cell ∨ sc.names.lookup x = some .free
def Loc (sc : Scope) (x : Str) : Prop := sc.names.lookup x = some .local ∨ sc.names.lookup x = some .cell
def Look (env : Env) (h : Heap) (m : Str → Option Value) (x : Str) (u : Value) : Prop :=
  (env.kindOf x = some .local ∧ m x = some u) ∨ ((env.kindOf x = some .cell ∨ env.kindOf x = some .free) ∧ ∃ c, env.cells.lookup x = some c ∧ h.IsCell c (some u))

structure Cx.Ok (X : Cx) : Prop where
  mod : Mod X.K X.mg X.base
  kind : X.env.scope.kind = .function
  glob : X.env.globals = mainGlobals
  blt : X.env.builtins = builtinsNs
  above : X.s₀.heap.objs.size ≤ X.env.locals
  inj : ∀ x y c, X.env.cells.lookup x = some c → X.env.cells.lookup y = some c → x = y
  has : ∀ x, (X.env.kindOf x = some .cell ∨ X.env.kindOf x = some .free) → ∃ c, X.env.cells.lookup x = some c
  cab : ∀ x c, X.fn x = true → X.env.cells.lookup x = some c → X.s₀.heap.objs.size ≤ c
  hd : X.calm = true → X.A.handled = none
  frames : X.A.frames = some X.stack
  stk : X.stack = X.outer ∨ (X.stack = X.env :: X.outer ∧ X.env.frame = some X.env.locals)
  exf : ∀ b ∈ X.ex, b ≠ X.env.locals ∧ ∀ x c, X.env.cells.lookup x = some c → c ≠ b
  bs : ∀ b o, X.base.get? b = some o → X.s₀.heap.get? b = some o ∧ X.H₀ b = none
  bsz : X.base.objs.size ≤ X.s₀.heap.objs.size
  noex : ∀ b o, X.base.get? b = some o → b ∉ X.ex
  exfs : ∀ b ∈ X.ex, b ∉ X.fs
  funs : X.s₀.heap.FunFrames X.base X.outer
  frf : ∀ b ∈ X.fs, X.H₀ b = none

structure Inv (X : Cx) (pins : List (Addr × Obj)) (σ : List (Option V)) (H : Hp) (s : Shared) : Prop where
  ok : X.Ok
  os : s.os = X.s₀.os
  bare : AllBare s.gens
  base : Un X.fs X.ex X.H₀ H X.s₀.heap s.heap
  loc : ∃ m, s.heap.Ns X.env.locals m ∧ ∀ (i : Nat) (x : Str) (v : V), X.N[i]? = some x → σ[i]? = some (some v) → Vis X.env.scope x → ∃ u, RelV v u ∧ Look X.env s.heap m x u
  cell : ∀ x c, X.env.cells.lookup x = some c → ∃ v, s.heap.IsCell c v
  free : H X.env.locals = none
  freeC : ∀ x c, X.env.cells.lookup x = some c → H c = none
  pin : ∀ p ∈ X.pn ++ pins, s.heap.get? p.1 = some p.2 ∧ H p.1 = none ∧ p.1 ≠ X.env.locals ∧ p.1 ∉ X.fs ∧ ∀ v, p.2.data ≠ .cell v
  hok : HOk X.prog X.w H s.heap
  len : σ.length = X.N.length

section
variable {X : Cx} {pins : List (Addr × Obj)} {σ : List (Option V)} {H H' : Hp} {s : Shared} {h' : Heap}

theorem Cx.Ok.nofr (ok : X.Ok) {b : Addr} {o : Obj} (e : X.base.get? b = some o) : b ∉ X.fs := fun hb => by
  have := (ok.funs.mem hb).1
  rw [e] at this; cases this
theorem Inv.bs (I : Inv X pins σ H s) : ∀ b o, X.base.get? b = some o → s.heap.get? b = some o ∧ H b = none := fun b o e =>
  ⟨I.base.keep b o (I.ok.bs b o e).1 (I.ok.bs b o e).2 (I.ok.nofr e) (I.ok.noex b o e), I.base.free b o (I.ok.bs b o e).1 (I.ok.bs b o e).2 (I.ok.noex b o e)⟩
theorem Inv.bk (I : Inv X pins σ H s) : ∀ b o, X.base.get? b = some o → s.heap.get? b = some o := fun b o e => (I.bs b o e).1
theorem Inv.mod (I : Inv X pins σ H s) : Mod X.K X.mg X.base := I.ok.mod
theorem Inv.kIn (I : Inv X pins σ H s) : X.K.In s.heap := I.ok.mod.kin.keeps I.bk
theorem Inv.nolimit (I : Inv X pins σ H s) : s.heap.NoLimit := I.ok.mod.nolimit.keeps I.bk
/-- the frame over the base: for OpenK's rules (K.In X.base is I.mod.kin) -/
theorem Inv.fr (I : Inv X pins σ H s) : ∃ m, Fr X.base X.env.locals s.heap m :=
  let ⟨m, hn, _⟩ := I.loc
  ⟨m, hn, I.bk, Nat.le_trans I.ok.bsz I.ok.above⟩
theorem Inv.lt (I : Inv X pins σ H s) : X.env.locals < s.heap.objs.size := let ⟨_, hn, _⟩ := I.loc; hn.lt
theorem Inv.sz (I : Inv X pins σ H s) : X.s₀.heap.objs.size ≤ s.heap.objs.size := Nat.le_trans I.ok.above (Nat.le_of_lt I.lt)
theorem Inv.nofs (I : Inv X pins σ H s) {a : Addr} (h : s.heap.objs.size ≤ a) : a ∉ X.fs := fun hb => by
  obtain ⟨_, o, ho, _⟩ := I.ok.funs.mem hb
  exact absurd (Nat.lt_of_lt_of_le (Heap.lt_size ho) (Nat.le_trans I.sz h)) (Nat.lt_irrefl _)
theorem Inv.cne (I : Inv X pins σ H s) : ∀ x c, X.env.cells.lookup x = some c → c ≠ X.env.locals := fun x c e z => by
  obtain ⟨v, o, ho, hd⟩ := I.cell x c e
  obtain ⟨m, ⟨o', es, ep, ho', hd', _⟩, _⟩ := I.loc
  rw [z, ho'] at ho; cases ho; rw [hd'] at hd; cases hd
theorem Inv.funs (I : Inv X pins σ H s) : s.heap.FunFrames X.base X.outer := by
  have all : ∀ (l : List Env), (∀ b ∈ frs l, b ∈ X.fs) → X.s₀.heap.FunFrames X.base l → s.heap.FunFrames X.base l := by
    intro l
    induction l with
    | nil => intro _ _; trivial
    | cons env r ih =>
      intro hs hl
      obtain ⟨hk, ⟨L, o, hf, hn, ho, hd⟩, hr⟩ := hl
      have hL : L ∈ X.fs := hs L (by unfold frs; rw [List.filterMap_cons, hf]; exact List.mem_cons_self)
      obtain ⟨sl, e⟩ := I.base.slot L o ho (I.ok.frf L hL) hL fun z => I.ok.exfs L z hL
      exact ⟨hk, ⟨L, _, hf, hn, e, hd⟩, ih (fun b hb => hs b (by unfold frs; rw [List.filterMap_cons, hf]; exact List.mem_cons_of_mem _ hb)) hr⟩
  exact all X.outer (fun _ hb => hb) I.ok.funs

/-- the frames that run, for a call -/
theorem Inv.stack (I : Inv X pins σ H s) : s.heap.FunFrames X.base X.stack := by
  rcases I.ok.stk with e | ⟨e, hf⟩
  · rw [e]; exact I.funs
  · rw [e]
    obtain ⟨m, hn, _⟩ := I.loc
    refine .cons (by rw [I.ok.kind]; decide) hf hn ?_ I.funs
    exact Heap.get?_none_of_le (Nat.le_trans I.ok.bsz I.ok.above)
theorem Inv.stkSub (I : Inv X pins σ H s) : ∀ b ∈ frs X.stack, b ∈ X.env.locals :: X.fs := fun b hb => by
  rcases I.ok.stk with e | ⟨e, hf⟩
  · rw [e] at hb; exact List.mem_cons_of_mem _ hb
  · rw [e] at hb
    unfold frs at hb
    rw [List.filterMap_cons, hf] at hb
    exact hb
theorem Inv.stkFree (I : Inv X pins σ H s) : ∀ b ∈ frs X.stack, H b = none := fun b hb => by
  rcases List.mem_cons.mp (I.stkSub b hb) with e | hb
  · rw [e]; exact I.free
  · obtain ⟨_, o, ho, _⟩ := I.ok.funs.mem hb
    exact I.base.free b o ho (I.ok.frf b hb) fun z => I.ok.exfs b z hb

/-- THE STEP: the untracked objects but the frame and the records at ch are kept (the callers' frames up to slots), the frame's map is kept, the new abstract heap is held -/
theorem Inv.step {g' : Array GenState} {t' : Nat} {d' : Drawn} {ch : List Addr} (I : Inv X pins σ H s)
    (hch : ∀ b ∈ ch, (b ∈ X.ex ∨ X.s₀.heap.objs.size ≤ b) ∧ b ≠ X.env.locals ∧ (∀ x c, X.env.cells.lookup x = some c → c ≠ b) ∧ ∀ p ∈ X.pn ++ pins, p.1 ≠ b)
    (keep : ∀ b o, b ≠ X.env.locals → b ∉ X.fs → b ∉ ch → s.heap.get? b = some o → H b = none → h'.get? b = some o)
    (slot : ∀ b o, b ≠ X.env.locals → b ∈ X.fs → b ∉ ch → s.heap.get? b = some o → H b = none → ∃ sl, h'.get? b = some { o with slots := sl }) (free : ∀ b o, b ∉ ch → s.heap.get? b = some o → H b = none → H' b = none)
    (there : ∀ b o, b ∉ ch → s.heap.get? b = some o → ∃ o', h'.get? b = some o')
    (tups : ∀ b xs, H b = some (.tup xs) → H' b = some (.tup xs)) (frzs : ∀ b o u, H b = some (.frz o u) → H' b = some (.frz o u)) (tbls : ∀ b ps, H b = some (.tbl ps) → ∃ more, H' b = some (.tbl (ps ++ more)))
    (ns : ∀ m, s.heap.Ns X.env.locals m → h'.Ns X.env.locals m) (hok : HOk X.prog X.w H' h') (hg : AllBare g') :
    Inv X pins σ H' { s with heap := h', gens := g', drawn := d', toks := t' } := by
  have neL : ∀ b o, X.s₀.heap.get? b = some o → b ≠ X.env.locals := fun b o e => Nat.ne_of_lt (Nat.lt_of_lt_of_le (Heap.lt_size e) I.ok.above)
  have neC : ∀ b o, X.s₀.heap.get? b = some o → b ∉ X.ex → b ∉ ch := fun b o e hx hb => by
    rcases (hch b hb).1 with z | z
    · exact hx z
    · exact absurd (Nat.lt_of_lt_of_le (Heap.lt_size e) z) (Nat.lt_irrefl _)
  have cellK : ∀ x c, X.env.cells.lookup x = some c → ∀ v, s.heap.IsCell c v → h'.IsCell c v := fun x c e v ⟨o, ho, hd⟩ => by
    have nch : c ∉ ch := fun z => (hch c z).2.2.1 x c e rfl
    by_cases hc : c ∈ X.fs
    · obtain ⟨sl, q⟩ := slot c o (I.cne x c e) hc nch ho (I.freeC x c e)
      exact ⟨_, q, hd⟩
    · exact ⟨o, keep c o (I.cne x c e) hc nch ho (I.freeC x c e), hd⟩
  refine ⟨I.ok, I.os, hg, ⟨fun b o e n hb hx => ?_, fun b o e n hb hx => ?_, fun b o e n hx => ?_, fun b o e hx => ?_, fun b xs e => tups b xs (I.base.tups b xs e), fun b o xs e => frzs b o xs (I.base.frzs b o xs e), fun b ps e => ?_⟩, ?_, fun x c e => ?_, ?_, fun x c e => ?_, fun p hp => ?_, hok, I.len⟩
  · exact keep b o (neL b o e) hb (neC b o e hx) (I.base.keep b o e n hb hx) (I.base.free b o e n hx)
  · obtain ⟨sl, e1⟩ := I.base.slot b o e n hb hx
    obtain ⟨sl', e2⟩ := slot b _ (neL b o e) hb (neC b o e hx) e1 (I.base.free b o e n hx)
    exact ⟨sl', e2⟩
  · obtain ⟨o', e1⟩ := I.base.there b o e hx
    exact free b o' (neC b o e hx) e1 (I.base.free b o e n hx)
  · obtain ⟨o', e1⟩ := I.base.there b o e hx
    exact there b o' (neC b o e hx) e1
  · obtain ⟨m1, e1⟩ := I.base.tbls b ps e
    obtain ⟨m2, e2⟩ := tbls b _ e1
    exact ⟨m1 ++ m2, by rw [e2, Array.append_assoc]⟩
  · obtain ⟨m, hn, hl⟩ := I.loc
    refine ⟨m, ns m hn, fun i x v e1 e2 e3 => ?_⟩
    obtain ⟨u, r, l⟩ := hl i x v e1 e2 e3
    refine ⟨u, r, ?_⟩
    rcases l with l | ⟨k, c, e, z⟩
    · exact .inl l
    · exact .inr ⟨k, c, e, cellK x c e _ z⟩
  · obtain ⟨v, z⟩ := I.cell x c e
    exact ⟨v, cellK x c e v z⟩
  · obtain ⟨m, ⟨o, _, _, ho, _⟩, _⟩ := I.loc
    exact free _ o (fun z => (hch _ z).2.1 rfl) ho I.free
  · obtain ⟨v, o, ho, hd⟩ := I.cell x c e
    exact free c o (fun z => (hch c z).2.2.1 x c e rfl) ho (I.freeC x c e)
  · obtain ⟨e, n, ne, nf, d⟩ := I.pin p hp
    have nch : p.1 ∉ ch := fun z => (hch p.1 z).2.2.2 p hp rfl
    exact ⟨keep p.1 p.2 ne nf nch e n, free p.1 p.2 nch e n, ne, nf, d⟩
/-- .. where the frame's own object is kept too -/
theorem Inv.un {t' : Nat} (I : Inv X pins σ H s) (u : Un X.fs [] H H' s.heap h') (hok : HOk X.prog X.w H' h') : Inv X pins σ H' { s with heap := h', toks := t' } := by
  obtain ⟨m, ⟨o, es, ep, ho, r⟩, _⟩ := id I.loc
  obtain ⟨sl, hL⟩ := u.any ho I.free (by simp)
  exact I.step (g' := s.gens) (d' := s.drawn) (ch := []) (fun _ z => nomatch z) (fun b o _ hb _ e n => u.keep b o e n hb (by simp)) (fun b o _ hb _ e n => u.slot b o e n hb (by simp)) (fun b o _ e n => u.free b o e n (by simp)) (fun b o _ e => u.there b o e (by simp)) u.tups u.frzs u.tbls (fun m' hm => by
    obtain ⟨o', es', ep', ho', r'⟩ := hm
    rw [ho] at ho'; cases ho'
    exact ⟨_, es', ep', hL, r'⟩) hok I.bare
/-- behind a call (or a comprehension's block): the slots of this frame may have changed too, the records at ch may have turned -/
theorem Inv.call {g' : Array GenState} {t' : Nat} {d' : Drawn} {ch : List Addr} (I : Inv X pins σ H s) (u : Un (frs X.stack) ch H H' s.heap h') (hok : HOk X.prog X.w H' h') (hg : AllBare g')
    (hch : ∀ b ∈ ch, (b ∈ X.ex ∨ X.s₀.heap.objs.size ≤ b) ∧ b ≠ X.env.locals ∧ (∀ x c, X.env.cells.lookup x = some c → c ≠ b) ∧ ∀ p ∈ X.pn ++ pins, p.1 ≠ b) :
    Inv X pins σ H' { s with heap := h', gens := g', drawn := d', toks := t' } := by
  obtain ⟨m, ⟨o, es, ep, ho, r⟩, _⟩ := id I.loc
  obtain ⟨sl, hL⟩ := u.any ho I.free fun z => (hch _ z).2.1 rfl
  exact I.step (ch := ch) hch (fun b o hL hb hc e n => u.keep b o e n (fun z => (List.mem_cons.mp (I.stkSub b z)).elim hL hb) hc) (fun b o _ _ hc e n => u.any e n hc) (fun b o hc e n => u.free b o e n hc) (fun b o hc e => u.there b o e hc) u.tups u.frzs u.tbls (fun m' hm => by
    obtain ⟨o', es', ep', ho', r'⟩ := hm
    rw [ho] at ho'; cases ho'
    exact ⟨_, es', ep', hL, r'⟩) hok hg
/-- an untracked record of ours (an iterator) has turned -/
theorem Inv.turned {t' : Nat} {it : Addr} (I : Inv X pins σ H s) (k : ∀ b o, b ≠ it → s.heap.get? b = some o → h'.get? b = some o) (hn : H it = none) (hL : it ≠ X.env.locals)
    (h1 : it ∈ X.ex ∨ X.s₀.heap.objs.size ≤ it) (h2 : ∀ x c, X.env.cells.lookup x = some c → c ≠ it) (h3 : ∀ p ∈ X.pn ++ pins, p.1 ≠ it) : Inv X pins σ H { s with heap := h', toks := t' } := by
  have nit : ∀ b u, H b = some u → b ≠ it := fun b u e z => by rw [z, hn] at e; cases e
  refine I.step (g' := s.gens) (d' := s.drawn) (ch := [it]) (fun b hb => ?_) (fun b o _ _ hc e _ => k b o (fun z => hc (by simp [z])) e) (fun b o _ _ hc e _ => ⟨o.slots, k b o (fun z => hc (by simp [z])) e⟩) (fun _ _ _ _ n => n)
    (fun b o hc e => ⟨o, k b o (fun z => hc (by simp [z])) e⟩) (fun _ _ e => e) (fun _ _ _ e => e) (fun b ps e => ⟨#[], by rw [e]; simp⟩) (fun m hm => ?_) (fun b u e => ?_) I.bare
  · have e : b = it := by simpa using hb
    subst e
    exact ⟨h1, hL, h2, h3⟩
  · obtain ⟨o, es, ep, ho, r⟩ := hm
    exact ⟨o, es, ep, k _ o (Ne.symm hL) ho, r⟩
  · refine (I.hok b u e).stay (fun c v hc q => k c v ?_ q) (fun _ q => q) fun _ _ q => q
    rcases hc with z | z
    · rw [z]; exact nit b u e
    · exact nit c _ z
theorem Inv.tok (I : Inv X pins σ H s) (t : Nat) : Inv X pins σ H { s with toks := t } := I.un (h' := s.heap) (t' := t) Un.refl I.hok
/-- all objects kept -/
theorem Inv.kept {t' : Nat} (I : Inv X pins σ H s) (k : ∀ b u, s.heap.get? b = some u → h'.get? b = some u) : Inv X pins σ H { s with heap := h', toks := t' } := I.un (Un.kept k) (I.hok.kept k)
/-- a new object laid and tracked -/
theorem Inv.laid {a : Addr} {o : HO} {t' : Nat} (I : Inv X pins σ H s) (k : ∀ b u, s.heap.get? b = some u → h'.get? b = some u) (hp : s.heap.objs.size ≤ a) (new : ObjOk X.prog X.w (upd H a o) h' a o) :
    Inv X pins σ (upd H a o) { s with heap := h', toks := t' } := I.un (Un.laid k hp (I.hok.fresh hp)) (I.hok.laid k hp new)
/-- an object written -/
theorem Inv.write {x e : Addr} {o : HO} {t' : Nat} (I : Inv X pins σ H s) (mu : Mut (H x)) (he : e = x ∨ H e = some (.own x)) (k : ∀ b u, b ≠ e → s.heap.get? b = some u → h'.get? b = some u) (heo : ∃ u, h'.get? e = some u)
    (new : ObjOk X.prog X.w (upd H x o) h' x o) : Inv X pins σ (upd H x o) { s with heap := h', toks := t' } := I.un (Un.write mu he k heo) (I.hok.write mu he k heo new)
theorem Inv.pins_of {pins' : List (Addr × Obj)} (I : Inv X pins σ H s) (h : ∀ p ∈ pins', s.heap.get? p.1 = some p.2 ∧ H p.1 = none ∧ p.1 ≠ X.env.locals ∧ p.1 ∉ X.fs ∧ ∀ v, p.2.data ≠ .cell v) : Inv X pins' σ H s :=
  ⟨I.ok, I.os, I.bare, I.base, I.loc, I.cell, I.free, I.freeC, fun p hp => (List.mem_append.mp hp).elim (fun z => I.pin p (List.mem_append_left _ z)) (h p), I.hok, I.len⟩

theorem nodup_ix {N : List Str} (hN : N.Nodup) {i j : Nat} {x : Str} (a : N[i]? = some x) (b : N[j]? = some x) : i = j := by
  obtain ⟨h1, e1⟩ := List.getElem?_eq_some_iff.mp a
  obtain ⟨h2, e2⟩ := List.getElem?_eq_some_iff.mp b
  exact (List.getElem_inj hN).mp (e1.trans e2.symm)

/-- a name is stored; what changed -/
theorem store_ok2 {M : Model} {A : Around} {E : Value → Shared → Prop} {i : Nat} {x : Str} {v : V} {u : Value} {Q : Unit → Shared → Prop} (I : Inv X pins σ H s) (hN : X.N.Nodup) (hi : X.N[i]? = some x) (hx : Loc X.env.scope x) (r : RelV v u)
    (h : ∀ s', Inv X pins (σ.set i (some v)) H s' → (∃ a, Heap.SameBut a s.heap s'.heap ∧ (a = X.env.locals ∨ X.env.cells.lookup x = some a)) → Q () s') (hf : X.fn x = true ∨ X.env.scope.names.lookup x = some .local := by first | exact .inl rfl | exact .inr rfl | assumption) : wpAny M A (storeName X.env x u) Q E s := by
  obtain ⟨m, hn, hl⟩ := id I.loc
  have hcls : (X.env.scope.kind == .class || (X.env.scope.kind == .module && X.env.locals != X.env.globals)) = false := by rw [I.ok.kind]; rfl
  have hiσ : i < σ.length := by rw [I.len]; exact (List.getElem?_eq_some_iff.mp hi).1
  have cne := I.cne
  have tracked : ∀ {a : Addr} {h' : Heap}, (∃ o, s.heap.get? a = some o ∧ H a = none) → Heap.SameBut a s.heap h' → HOk X.prog X.w H h' := fun {a h'} ha hs b ob e => by
    obtain ⟨_, _, hfree⟩ := ha
    refine (I.hok b ob e).stay (fun c w' hc q => (hs.2 c ?_).trans q) (fun _ q => q) fun _ _ q => q
    rintro rfl
    rcases hc with rfl | hc
    · rw [hfree] at e; cases e
    · rw [hfree] at hc; cases hc
  rcases hx with hk | hk
  · refine wpAny_storeName_local hk hn (fun h' hn' hs => ?_) hcls
    obtain ⟨oL, _, _, hoL, _⟩ := id hn
    refine h _ ⟨I.ok, I.os, I.bare, ⟨fun b o e n hb hx => ?_, fun b o e n hb hx => ?_, I.base.free, fun b o e hx => ?_, I.base.tups, I.base.frzs, I.base.tbls⟩, ⟨_, hn', fun j y v' e1 e2 e3 => ?_⟩, fun y c e => ?_, I.free, I.freeC, fun p hp => ?_, tracked ⟨oL, hoL, I.free⟩ hs, by simpa using I.len⟩ ⟨_, hs, .inl rfl⟩
    · exact (hs.2 b (Nat.ne_of_lt (Nat.lt_of_lt_of_le (Heap.lt_size e) I.ok.above))).trans (I.base.keep b o e n hb hx)
    · obtain ⟨sl, e1⟩ := I.base.slot b o e n hb hx
      exact ⟨sl, (hs.2 b (Nat.ne_of_lt (Nat.lt_of_lt_of_le (Heap.lt_size e) I.ok.above))).trans e1⟩
    · obtain ⟨o', e1⟩ := I.base.there b o e hx
      exact ⟨o', (hs.2 b (Nat.ne_of_lt (Nat.lt_of_lt_of_le (Heap.lt_size e) I.ok.above))).trans e1⟩
    · by_cases hj : j = i
      · subst hj
        rw [hi] at e1; cases e1
        rw [List.getElem?_set_self hiσ] at e2
        cases e2
        exact ⟨u, r, .inl ⟨hk, by simp⟩⟩
      · rw [List.getElem?_set_ne (Ne.symm hj)] at e2
        obtain ⟨u', r', q⟩ := hl j y v' e1 e2 e3
        refine ⟨u', r', ?_⟩
        rcases q with ⟨k, e⟩ | ⟨k, c, e, z⟩
        · refine .inl ⟨k, ?_⟩
          have : y ≠ x := fun e => hj (nodup_ix hN e1 (e ▸ hi))
          simp [this, e]
        · exact .inr ⟨k, c, e, z.sameBut hs (cne y c e)⟩
    · obtain ⟨w', z⟩ := I.cell y c e
      exact ⟨w', z.sameBut hs (cne y c e)⟩
    · obtain ⟨e, n, ne, nf, d⟩ := I.pin p hp
      exact ⟨(hs.2 p.1 ne).trans e, n, ne, nf, d⟩
  · have hfn : X.fn x = true := by
      rcases hf with z | z
      · exact z
      · rw [z] at hk; cases hk
    obtain ⟨c, hc⟩ := I.ok.has x (.inl hk)
    obtain ⟨w', z⟩ := I.cell x c hc
    refine wpAny_storeName_cell I.ok.kind hk hc z (fun h' hc' hs => ?_)
    obtain ⟨oc, hoc, hocd⟩ := id z
    refine h { s with heap := h' } ⟨I.ok, I.os, I.bare, ⟨fun b o e n hb hx => ?_, fun b o e n hb hx => ?_, I.base.free, fun b o e hx => ?_, I.base.tups, I.base.frzs, I.base.tbls⟩, ⟨m, hn.sameBut hs (Ne.symm (cne x c hc)), fun j y v' e1 e2 e3 => ?_⟩, fun y c' e => ?_, I.free, I.freeC, fun p hp => ?_, tracked ⟨oc, hoc, I.freeC x c hc⟩ hs, by simpa using I.len⟩ ⟨c, hs, .inr hc⟩
    · exact (hs.2 b (Nat.ne_of_lt (Nat.lt_of_lt_of_le (Heap.lt_size e) (I.ok.cab x c hfn hc)))).trans (I.base.keep b o e n hb hx)
    · obtain ⟨sl, e1⟩ := I.base.slot b o e n hb hx
      exact ⟨sl, (hs.2 b (Nat.ne_of_lt (Nat.lt_of_lt_of_le (Heap.lt_size e) (I.ok.cab x c hfn hc)))).trans e1⟩
    · obtain ⟨o', e1⟩ := I.base.there b o e hx
      exact ⟨o', (hs.2 b (Nat.ne_of_lt (Nat.lt_of_lt_of_le (Heap.lt_size e) (I.ok.cab x c hfn hc)))).trans e1⟩
    · by_cases hj : j = i
      · subst hj
        rw [hi] at e1; cases e1
        rw [List.getElem?_set_self hiσ] at e2
        cases e2
        exact ⟨u, r, .inr ⟨.inl hk, c, hc, hc'⟩⟩
      · rw [List.getElem?_set_ne (Ne.symm hj)] at e2
        obtain ⟨u', r', q⟩ := hl j y v' e1 e2 e3
        refine ⟨u', r', ?_⟩
        rcases q with q | ⟨k, c', e, z'⟩
        · exact .inl q
        · refine .inr ⟨k, c', e, z'.sameBut hs ?_⟩
          rintro rfl
          exact hj (nodup_ix hN e1 (I.ok.inj _ _ _ e hc ▸ hi))
    · by_cases hcc : c' = c
      · subst hcc; exact ⟨_, hc'⟩
      · obtain ⟨w2, z2⟩ := I.cell y c' e
        exact ⟨w2, z2.sameBut hs hcc⟩
    · obtain ⟨e, n, ne, nf, d⟩ := I.pin p hp
      refine ⟨(hs.2 p.1 ?_).trans e, n, ne, nf, d⟩
      intro q
      rw [q, hoc] at e
      have q' : oc = p.2 := Option.some.inj e
      exact d w' (by rw [← q']; exact hocd)
theorem store_ok {M : Model} {A : Around} {E : Value → Shared → Prop} {i : Nat} {x : Str} {v : V} {u : Value} {Q : Unit → Shared → Prop} (I : Inv X pins σ H s) (hN : X.N.Nodup) (hi : X.N[i]? = some x) (hx : Loc X.env.scope x) (r : RelV v u)
    (h : ∀ s', Inv X pins (σ.set i (some v)) H s' → Q () s') (hf : X.fn x = true ∨ X.env.scope.names.lookup x = some .local := by first | exact .inl rfl | exact .inr rfl | assumption) : wpAny M A (storeName X.env x u) Q E s :=
  store_ok2 I hN hi hx r (fun s' I' _ => h s' I') hf
/-- behind a call or a block, the state as it is -/
theorem Inv.call' {s' : Shared} {ch : List Addr} (I : Inv X pins σ H s) (ho : s'.os = s.os) (u : Un (frs X.stack) ch H H' s.heap s'.heap) (hok : HOk X.prog X.w H' s'.heap) (hg : AllBare s'.gens)
    (hch : ∀ b ∈ ch, (b ∈ X.ex ∨ X.s₀.heap.objs.size ≤ b) ∧ b ≠ X.env.locals ∧ (∀ x c, X.env.cells.lookup x = some c → c ≠ b) ∧ ∀ p ∈ X.pn ++ pins, p.1 ≠ b) : Inv X pins σ H' s' := by
  obtain ⟨h', g', d', t', o'⟩ := s'
  have e : o' = s.os := ho
  subst e
  exact I.call (g' := g') (t' := t') (d' := d') u hok hg hch
end

/-! ### the judgements -/
/-- an exception: its class, its own dict's address (where it has one), the abstract heap behind it -/
abbrev XK := Value → Option Addr → Hp → Prop
abbrev St := List (Option V)
abbrev VK := V → Hp → Prop
/-- an expression's reading; a test's; an argument list's -/
abbrev TE := St → Hp → VK → Prop
abbrev TT := St → Hp → (Bool → Hp → Prop) → Prop
abbrev TA := St → Hp → (List V → Hp → Prop) → Prop
/-- what is wanted behind a statement -/
structure Ends where
  nx : St → Hp → Prop
  rt : VK
  bk : St → Hp → Prop := fun _ _ => False
  ct : St → Hp → Prop := fun _ _ => False
abbrev TS := Ends → St → Hp → Prop

def EP (X : Cx) (pins : List (Addr × Obj)) (σ : St) (Q : VK) (u : Value) (s' : Shared) : Prop := ∃ v H', Inv X pins σ H' s' ∧ RelV v u ∧ Q v H'
def TP (X : Cx) (pins : List (Addr × Obj)) (σ : St) (Q : Bool → Hp → Prop) (b : Bool) (s' : Shared) : Prop := ∃ H', Inv X pins σ H' s' ∧ Q b H'
def AP (X : Cx) (pins : List (Addr × Obj)) (σ : St) (Q : List V → Hp → Prop) (us : List Value) (s' : Shared) : Prop := ∃ vs H', Inv X pins σ H' s' ∧ Vals vs us ∧ Q vs H'
def SP (X : Cx) (pins : List (Addr × Obj)) (D : Ends) (f : Flow) (s' : Shared) : Prop :=
  match f with
  | .next => ∃ σ' H', Inv X pins σ' H' s' ∧ D.nx σ' H'
  | .brk => ∃ σ' H', Inv X pins σ' H' s' ∧ D.bk σ' H'
  | .cont => ∃ σ' H', Inv X pins σ' H' s' ∧ D.ct σ' H'
  | .ret u => ∃ v σ' H', Inv X pins σ' H' s' ∧ RelV v u ∧ D.rt v H'

def PE (X : Cx) (e : Expr) (t : TE) : Prop :=
  ∀ (pins : List (Addr × Obj)) (s : Shared) (σ : St) (H : Hp) (Q : VK), Inv X pins σ H s → t σ H Q → wpAny (model X.prog X.w) X.A (eval e X.env) (EP X pins σ Q) X.xe s
def PT (X : Cx) (e : Expr) (t : TT) : Prop :=
  ∀ (pins : List (Addr × Obj)) (s : Shared) (σ : St) (H : Hp) (Q : Bool → Hp → Prop), Inv X pins σ H s → t σ H Q → wpAny (model X.prog X.w) X.A (isTrue e X.env (eval e X.env)) (TP X pins σ Q) X.xe s
/-- a test whatever its 'whole' is (and, or) -/
def PW (X : Cx) (e : Expr) (t : TT) : Prop :=
  ∀ (whole : Sem Value) (pins : List (Addr × Obj)) (s : Shared) (σ : St) (H : Hp) (Q : Bool → Hp → Prop), Inv X pins σ H s → t σ H Q → wpAny (model X.prog X.w) X.A (isTrue e X.env whole) (TP X pins σ Q) X.xe s
theorem PW.pt {X : Cx} {e : Expr} {t : TT} (h : PW X e t) : PT X e t := h _
/-- an argument list (no star), from the left -/
def PA (X : Cx) (es : List Expr) (t : TA) : Prop :=
  ∀ (pos : Pos) (pins : List (Addr × Obj)) (s : Shared) (σ : St) (H : Hp) (Q : List V → Hp → Prop), Inv X pins σ H s → t σ H Q → wpAny (model X.prog X.w) X.A (spliced (backTo pos (starEach es X.env))) (AP X pins σ Q) X.xe s
def PS (X : Cx) (st : Stmt) (t : TS) : Prop :=
  ∀ (pins : List (Addr × Obj)) (s : Shared) (σ : St) (H : Hp) (D : Ends), Inv X pins σ H s → t D σ H → wpAny (model X.prog X.w) X.A (exec st X.env) (SP X pins D) X.xe s
def PSs (X : Cx) (st : List Stmt) (t : TS) : Prop :=
  ∀ (pins : List (Addr × Obj)) (s : Shared) (σ : St) (H : Hp) (D : Ends), Inv X pins σ H s → t D σ H → wpAny (model X.prog X.w) X.A (execs st X.env) (SP X pins D) X.xe s
/-- weaken the end -/
theorem thn {α : Type} {t : Sem α} {Q Q' : α → Shared → Prop} {M : Model} {A : Around} {E : Value → Shared → Prop} {s : Shared} (h : wpAny M A t Q E s) (hQ : ∀ a s, Q a s → Q' a s) : wpAny M A t Q' E s := wpAny_mono h hQ fun _ _ x => x
end L2

namespace L2
open PySem PySem.Spec PyProof.Rows
section
variable {X : Cx}

/-- two expressions in a row -/
theorem bin {a b : Expr} {ta tb : TE} (ha : PE X a ta) (hb : PE X b tb) {pins : List (Addr × Obj)} {s : Shared} {σ : St} {H : Hp} {R : V → V → Hp → Prop} (I : Inv X pins σ H s) (h : ta σ H fun x H1 => tb σ H1 fun y H2 => R x y H2)
    {α : Type} {Q : α → Shared → Prop} {f : Value → Value → Sem α}
    (hf : ∀ v u s2 x y H2, Inv X pins σ H2 s2 → RelV x v → RelV y u → R x y H2 → wpAny (model X.prog X.w) X.A (f v u) Q X.xe s2) :
    wpAny (model X.prog X.w) X.A (eval a X.env) (fun v s₁ => wpAny (model X.prog X.w) X.A (eval b X.env) (fun u s₂ => wpAny (model X.prog X.w) X.A (f v u) Q X.xe s₂) X.xe s₁) X.xe s := by
  refine thn (ha pins s σ H _ I h) fun v s1 ⟨x, H1, I1, r1, q1⟩ => ?_
  refine thn (hb pins s1 σ H1 _ I1 q1) fun u s2 ⟨y, H2, I2, r2, q2⟩ => ?_
  exact hf v u s2 x y H2 I2 r1 r2 q2

/-! ### names and constants -/
def tVar (i : Nat) : TE := fun σ H Q => ∃ v, σ[i]? = some (some v) ∧ Q v H
def tC (v : V) : TE := fun _ H Q => Q v H
theorem pe_var {i : Nat} {x : Str} {pos : Pos} (hN : X.N[i]? = some x) (hv : Vis X.env.scope x) (hd : (x == ("__debug__" : Str)) = false := by decide) (hcd : (x == ("__classdict__" : Str)) = false := by decide) : PE X (.Name x pos) (tVar i) := by
  intro pins s σ H Q I h
  obtain ⟨v, e, h⟩ := h
  obtain ⟨m, hn, hl⟩ := I.loc
  obtain ⟨u, r, l⟩ := hl i x v hN e hv
  have fin : EP X pins σ Q u s := ⟨v, H, I, r, h⟩
  rcases l with ⟨hk, hm⟩ | ⟨hk, c, hc, hcell⟩
  · exact wpAny_Name (wpAny_loadName_local I.ok.kind hk hn hm fin) hd
  · rcases hk with hk | hk
    · exact wpAny_Name (wpAny_loadName_cell I.ok.kind hk hc hcell fin) hd
    · exact wpAny_Name (wpAny_loadName_free I.ok.kind hk hc hcell fin hcd) hd
theorem pe_int {i j pos} : PE X (.Constant (.int i) j pos) (tC (.int i)) := fun _ _ _ H _ I h => wpAny_Constant_int ⟨.int i, H, I.tok _, ⟨_, rfl⟩, h⟩
theorem pe_bl {b j pos} : PE X (.Constant (.bool b) j pos) (tC (.bl b)) := fun _ _ _ H _ I h => Constant_bool ⟨.bl b, H, I, rfl, h⟩
theorem pe_non {j pos} : PE X (.Constant .none j pos) (tC .non) := fun _ _ _ H _ I h => Constant_none ⟨.non, H, I, rfl, h⟩
theorem pe_str {x j pos} : PE X (.Constant (.str x) j pos) (tC (.str x)) := fun _ _ _ H _ I h => Calls.Constant_str ⟨.str x, H, I.tok _, ⟨_, rfl⟩, h⟩

/-- a global name of the def -/
def Gl (X : Cx) (x : Str) : Prop := X.env.kindOf x = some .globalImplicit
theorem ld_glob {E : Value → Shared → Prop} {pins : List (Addr × Obj)} {s : Shared} {σ : St} {H : Hp} {x : Str} {u : Value} {pos : Pos} {Q : Value → Shared → Prop} (I : Inv X pins σ H s) (hg : Gl X x) (hm : X.mg x = some u) (h : Q u s)
    (hd : (x == ("__debug__" : Str)) = false := by decide) : wpAny (model X.prog X.w) X.A (eval (.Name x pos) X.env) Q E s :=
  Calls.Name_function_global I.ok.kind hg (Calls.loadGlobal_global (by rw [I.ok.glob]; exact I.mod.glob.keeps I.bk) hm h) hd
theorem ld_blt {E : Value → Shared → Prop} {pins : List (Addr × Obj)} {s : Shared} {σ : St} {H : Hp} {x : Str} {u : Value} {pos : Pos} {Q : Value → Shared → Prop} (I : Inv X pins σ H s) (hg : Gl X x) (hm : X.mg x = none) (hv : bootBuiltins x = some u) (h : Q u s)
    (hn : x ≠ "__name__" := by decide) (hd : (x == ("__debug__" : Str)) = false := by decide) : wpAny (model X.prog X.w) X.A (eval (.Name x pos) X.env) Q E s := by
  obtain ⟨mb, h1, h2⟩ := I.mod.blt
  exact Calls.Name_function_global I.ok.kind hg (Calls.loadGlobal_builtin (by rw [I.ok.glob]; exact I.mod.glob.keeps I.bk) hm (by rw [I.ok.blt]; exact h1.keeps I.bk) ((h2 x hn).trans hv) h) hd
/-- a module's constant, a class, a function, as a value -/
theorem pe_glob {x : Str} {v : V} {u : Value} {pos : Pos} (hg : Gl X x) (hm : X.mg x = some u) (r : RelV v u) (hd : (x == ("__debug__" : Str)) = false := by decide) : PE X (.Name x pos) (tC v) :=
  fun _ _ _ H _ I h => ld_glob I hg hm ⟨v, H, I, r, h⟩ hd
theorem pe_bltn {x : Str} {v : V} {u : Value} {pos : Pos} (hg : Gl X x) (hm : X.mg x = none) (hv : bootBuiltins x = some u) (r : RelV v u) (hn : x ≠ "__name__" := by decide) (hd : (x == ("__debug__" : Str)) = false := by decide) : PE X (.Name x pos) (tC v) :=
  fun _ _ _ H _ I h => ld_blt I hg hm hv ⟨v, H, I, r, h⟩ hn hd

/-! ### arithmetic -/
/-- two ints -/
def t2I (ta tb : TE) (k : Int → Int → Hp → Prop) : St → Hp → Prop := fun σ H => ta σ H fun x H1 => tb σ H1 fun y H2 => ∃ i j, x = .int i ∧ y = .int j ∧ k i j H2
variable {a b : Expr} {ta tb : TE} {pos : Pos}
/-! ### comparisons -/
def PC (X : Cx) (op : CmpOp) (a b : Expr) (t : TE) : Prop :=
  ∀ (pins : List (Addr × Obj)) (s : Shared) (σ : St) (H : Hp) (Q : VK), Inv X pins σ H s → t σ H Q →
    wpAny (model X.prog X.w) X.A (eval a X.env) (fun v s₁ => wpAny (model X.prog X.w) X.A (eval b X.env) (fun u s₂ => wpAny (model X.prog X.w) X.A (compareOp op v u) (EP X pins σ Q) X.xe s₂) X.xe s₁) X.xe s
theorem nobehind (b : Expr) {op : CmpOp} (h : op ≠ .In) (h2 : op ≠ .NotIn) : behindInMarks op b = false := by
  have e1 : (op == CmpOp.In) = false := by cases op <;> first | rfl | exact absurd rfl h
  have e2 : (op == CmpOp.NotIn) = false := by cases op <;> first | rfl | exact absurd rfl h2
  cases b <;> simp [behindInMarks, e1, e2]
def tCmp (p : Int → Int → Bool) (ta tb : TE) : TE := fun σ H Q => t2I ta tb (fun i j H2 => Q (.bl (p i j)) H2) σ H
/-- a comparison of two ints, by its rule -/
theorem pc_int {op : CmpOp} {p : Int → Int → Bool} (ha : PE X a ta) (hb : PE X b tb)
    (rule : ∀ (i j : Int) (t u : Tok) (Q : Value → Shared → Prop) (s : Shared), Q (.bool (p i j)) s → wpAny (model X.prog X.w) X.A (compareOp op (.int i t) (.int j u)) Q X.xe s) : PC X op a b (tCmp p ta tb) := by
  intro pins s σ H Q I h
  refine bin ha hb I h fun v u s2 x y H2 I2 rx ry q => ?_
  obtain ⟨i, j, rfl, rfl, q⟩ := q
  obtain ⟨t, rfl⟩ := rx
  obtain ⟨t', rfl⟩ := ry
  exact rule i j t t' _ s2 ⟨.bl _, H2, I2, rfl, q⟩
/-- a comparison as a value, as a test -/
def tB (t : TE) : TT := fun σ H Q => t σ H fun x H1 => ∃ c, x = .bl c ∧ Q c H1
theorem pe_cmp {op : CmpOp} {t : TE} (h : PC X op a b t) (h1 : behindInMarks op b = false := by first | exact nobehind _ (by decide) (by decide) | rfl) : PE X (.Compare a [op] [b] pos) t := fun pins s σ H Q I hw => wpAny_Compare1 (h pins s σ H Q I hw) h1
/-- an expression whose value is a bool, as a test -/
theorem pt_val {e : Expr} {t : TE} (h : PE X e t) (he : ∀ whole, isTrue e X.env whole = (do let v ← whole; standAt e.pos; holding [v] (truthy v)) := by intro _; rfl) : PT X e (tB t) := by
  intro pins s σ H Q I hw
  refine isTrue_plain (thn (h pins s σ H _ I hw) fun v s1 ⟨x, H1, I1, r1, q1⟩ => ?_) (he _)
  obtain ⟨d, rfl, q⟩ := q1
  cases r1
  exact wpAny_truthy_bool ⟨H1, I1, q⟩

/-! ### and, or, not -/
variable {tA tB' : TT} {rest : List Expr}
def tAnd (t u : TT) : TT := fun σ H Q => t σ H fun c H1 => if c = true then u σ H1 Q else Q false H1
def tOr (t u : TT) : TT := fun σ H Q => t σ H fun c H1 => if c = true then Q true H1 else u σ H1 Q
def tNot (t : TT) : TT := fun σ H Q => t σ H fun c H1 => Q (!c) H1
theorem pw_and1 (ha : PT X a tA) : PW X (.BoolOp .And [a] pos) tA := by
  intro wh pins s σ H Q I h
  refine isTrue_and (thn (ha pins s σ H Q I h) fun c s1 e => ?_)
  cases c with
  | true => exact isTrue_and_nil e
  | false => exact e
theorem pw_or1 (ha : PT X a tA) : PW X (.BoolOp .Or [a] pos) tA := by
  intro wh pins s σ H Q I h
  refine isTrue_or (thn (ha pins s σ H Q I h) fun c s1 e => ?_)
  cases c with
  | false => exact isTrue_or_nil e
  | true => exact e
theorem pw_and (ha : PT X a tA) (hb : PW X (.BoolOp .And (b :: rest) pos) tB') : PW X (.BoolOp .And (a :: b :: rest) pos) (tAnd tA tB') := by
  intro wh pins s σ H Q I h
  refine isTrue_and (thn (ha pins s σ H _ I h) fun c s1 ⟨H1, I1, q1⟩ => ?_)
  cases c with
  | true => exact hb wh pins s1 σ H1 Q I1 q1
  | false => exact ⟨H1, I1, q1⟩
theorem pw_or (ha : PT X a tA) (hb : PW X (.BoolOp .Or (b :: rest) pos) tB') : PW X (.BoolOp .Or (a :: b :: rest) pos) (tOr tA tB') := by
  intro wh pins s σ H Q I h
  refine isTrue_or (thn (ha pins s σ H _ I h) fun c s1 ⟨H1, I1, q1⟩ => ?_)
  cases c with
  | true => exact ⟨H1, I1, q1⟩
  | false => exact hb wh pins s1 σ H1 Q I1 q1
theorem pt_not (ha : PT X a tA) : PT X (.UnaryOp .Not a pos) (tNot tA) := by
  intro pins s σ H Q I h
  exact isTrue_not (ha pins s σ H (fun c H1 => Q (!c) H1) I h)
/-- .. as values (bools) -/
def tAndV (ta tb : TE) : TE := fun σ H Q => ta σ H fun x H1 => ∃ c, x = .bl c ∧ if c = true then tb σ H1 Q else Q (.bl false) H1
def tOrV (ta tb : TE) : TE := fun σ H Q => ta σ H fun x H1 => ∃ c, x = .bl c ∧ if c = true then Q (.bl true) H1 else tb σ H1 Q
theorem pe_one {op} {t : TE} (h : PE X a t) : PE X (.BoolOp op [a] pos) t := fun pins s σ H Q I hw => BoolOp_one (h pins s σ H Q I hw)
theorem pe_and (ha : PE X a ta) (hb : PE X (.BoolOp .And (b :: rest) pos) tb) : PE X (.BoolOp .And (a :: b :: rest) pos) (tAndV ta tb) := by
  intro pins s σ H Q I h
  refine BoolOp_and (thn (ha pins s σ H _ I h) fun v s1 ⟨x, H1, I1, r1, q1⟩ => ?_)
  obtain ⟨c, rfl, q1⟩ := q1
  cases r1
  refine wpAny_truthy_bool ?_
  cases c with
  | true => exact hb pins s1 σ H1 Q I1 q1
  | false => exact ⟨.bl false, H1, I1, rfl, q1⟩
theorem pe_or (ha : PE X a ta) (hb : PE X (.BoolOp .Or (b :: rest) pos) tb) : PE X (.BoolOp .Or (a :: b :: rest) pos) (tOrV ta tb) := by
  intro pins s σ H Q I h
  refine BoolOp_or (thn (ha pins s σ H _ I h) fun v s1 ⟨x, H1, I1, r1, q1⟩ => ?_)
  obtain ⟨c, rfl, q1⟩ := q1
  cases r1
  refine wpAny_truthy_bool ?_
  cases c with
  | false => exact hb pins s1 σ H1 Q I1 q1
  | true => exact ⟨.bl true, H1, I1, rfl, q1⟩
end
end L2

namespace L2
open PySem PySem.Spec PyProof.Rows

/-! ### a list, a tuple that is read: tracked, frozen, or an object of the module -/
def SqL (K : PySem.W.Frag) (H : Hp) (a : Addr) (xs : List V) : Prop :=
  Rd H a (.lst xs) ∨
    ∃ (o : Obj) (its : Array Value) (n : Nat), K.lookup a = some o ∧ o.cls = .type "list" ∧ o.dict = none ∧ o.data = .seq its n ∧ its.size ≤ sizeLine ∧ Vals xs its.toList
def SqT (K : PySem.W.Frag) (H : Hp) (a : Addr) (xs : List V) : Prop :=
  Rd H a (.tup xs) ∨
    ∃ (o : Obj) (its : Array Value) (n : Nat), K.lookup a = some o ∧ o.cls = .type "tuple" ∧ o.data = .seq its n ∧ its.size ≤ sizeLine ∧ Vals xs its.toList
def absV : Value → Option V
  | .none => some .non
  | .bool b => some (.bl b)
  | .int i _ => some (.int i)
  | .str x _ => some (.str x)
  | .bytes b _ => some (.byt b)
  | .float b _ => some (.flt b)
  | .ref a => some (.ref a)
  | .type n => some (.ty n)
  | _ => none
theorem RelV.abs {x : V} {u : Value} (r : RelV x u) : absV u = some x := by
  cases x with
  | non => cases r; rfl
  | bl _ => cases r; rfl
  | int _ => obtain ⟨t, rfl⟩ := r; rfl
  | str _ => obtain ⟨t, rfl⟩ := r; rfl
  | byt _ => obtain ⟨t, rfl⟩ := r; rfl
  | flt _ => obtain ⟨t, rfl⟩ := r; rfl
  | ref _ => cases r; rfl
  | ty _ => cases r; rfl
theorem RelV.inj {x y : V} {u : Value} (r : RelV x u) (q : RelV y u) : x = y := Option.some.inj (r.abs.symm.trans q.abs)
theorem Vals.inj : ∀ {xs ys : List V} {us : List Value}, Vals xs us → Vals ys us → xs = ys
  | _, _, _, .nil, .nil => rfl
  | _, _, _, .cons r t, .cons r' t' => by rw [r.inj r', Vals.inj t t']
section
variable {X : Cx} {pins : List (Addr × Obj)} {σ : St} {H : Hp} {s : Shared} {a : Addr} {xs ys : List V}
theorem SqL.of {K : PySem.W.Frag} (h : H a = some (.lst xs)) : SqL K H a xs := .inl (.inl h)
theorem SqT.of {K : PySem.W.Frag} (h : H a = some (.tup xs)) : SqT K H a xs := .inl (.inl h)
theorem Inv.list (I : Inv X pins σ H s) (h : SqL X.K H a xs) : ∃ its : List Value, Vals xs its ∧ PlainL s.heap a its.toArray ∧ xs.length ≤ sizeLine := by
  rcases h with h | ⟨o, its, n, hk, hc, hd, hs, hz, r⟩
  · obtain ⟨z, its, n, r, e⟩ := h.ok I.hok
    exact ⟨its, r, ⟨_, n, e, rfl, rfl, rfl⟩, z⟩
  · refine ⟨its.toList, r, ⟨o, n, I.kIn a o hk, hc, hd, by simpa using hs⟩, ?_⟩
    have e := r.length
    simp only [Array.length_toList] at e
    omega
theorem Inv.tuple (I : Inv X pins σ H s) (h : SqT X.K H a xs) : ∃ its : List Value, Vals xs its ∧ IsTup s.heap a its.toArray ∧ xs.length ≤ sizeLine := by
  rcases h with h | ⟨o, its, n, hk, hc, hs, hz, r⟩
  · obtain ⟨z, its, r, p⟩ := h.ok I.hok
    exact ⟨its, r, p, z⟩
  · refine ⟨its.toList, r, ⟨o, I.kIn a o hk, hc, n, by simpa using hs⟩, ?_⟩
    have e := r.length
    simp only [Array.length_toList] at e
    omega
theorem Inv.list_inj (I : Inv X pins σ H s) (h : SqL X.K H a xs) (h' : SqL X.K H a ys) : xs = ys := by
  obtain ⟨its, r, ⟨o, n, e, _, _, d⟩, _⟩ := I.list h
  obtain ⟨its', r', ⟨o', n', e', _, _, d'⟩, _⟩ := I.list h'
  rw [e] at e'; cases e'
  rw [d] at d'
  injection d' with d1 _
  have : its = its' := by simpa using congrArg Array.toList d1
  subst this
  exact r.inj r'
theorem Inv.tuple_inj (I : Inv X pins σ H s) (h : SqT X.K H a xs) (h' : SqT X.K H a ys) : xs = ys := by
  obtain ⟨its, r, ⟨o, e, _, n, d⟩, _⟩ := I.tuple h
  obtain ⟨its', r', ⟨o', e', _, n', d'⟩, _⟩ := I.tuple h'
  rw [e] at e'; cases e'
  rw [d] at d'
  injection d' with d1 _
  have : its = its' := by simpa using congrArg Array.toList d1
  subst this
  exact r.inj r'
end

/-! ### another wish about exceptions -/
abbrev Cx.wish (X : Cx) (E : Value → Shared → Prop) : Cx := { X with xe := E }
/-- no exception leaves -/
abbrev Cx.nox (X : Cx) : Cx := X.wish fun _ _ => False
theorem Cx.Ok.wish {X : Cx} (ok : X.Ok) (E : Value → Shared → Prop) : (X.wish E).Ok :=
  ⟨ok.mod, ok.kind, ok.glob, ok.blt, ok.above, ok.inj, ok.has, ok.cab, ok.hd, ok.frames, ok.stk, ok.exf, ok.bs, ok.bsz, ok.noex, ok.exfs, ok.funs, ok.frf⟩
theorem Cx.Ok.unwish {X : Cx} {E : Value → Shared → Prop} (ok : (X.wish E).Ok) : X.Ok :=
  ⟨ok.mod, ok.kind, ok.glob, ok.blt, ok.above, ok.inj, ok.has, ok.cab, ok.hd, ok.frames, ok.stk, ok.exf, ok.bs, ok.bsz, ok.noex, ok.exfs, ok.funs, ok.frf⟩
section
variable {X : Cx} {pins : List (Addr × Obj)} {σ : St} {H : Hp} {s : Shared} {E : Value → Shared → Prop}
theorem Inv.wish (I : Inv X pins σ H s) (E : Value → Shared → Prop) : Inv (X.wish E) pins σ H s := ⟨I.ok.wish E, I.os, I.bare, I.base, I.loc, I.cell, I.free, I.freeC, I.pin, I.hok, I.len⟩
theorem Inv.unwish (I : Inv (X.wish E) pins σ H s) : Inv X pins σ H s := ⟨I.ok.unwish, I.os, I.bare, I.base, I.loc, I.cell, I.free, I.freeC, I.pin, I.hok, I.len⟩
theorem SP.unwish {D : Ends} {f : Flow} {s' : Shared} (h : SP (X.wish E) pins D f s') : SP X pins D f s' := by
  cases f with
  | next => obtain ⟨σ', H', I, q⟩ := h; exact ⟨σ', H', I.unwish, q⟩
  | brk => obtain ⟨σ', H', I, q⟩ := h; exact ⟨σ', H', I.unwish, q⟩
  | cont => obtain ⟨σ', H', I, q⟩ := h; exact ⟨σ', H', I.unwish, q⟩
  | ret u => obtain ⟨v, σ', H', I, r, q⟩ := h; exact ⟨v, σ', H', I.unwish, r, q⟩
theorem PE.nox {e : Expr} {t : TE} (h : PE X.nox e t) : PE X e t := fun pins s σ H Q I hw =>
  wpAny_mono (h pins s σ H Q (I.wish _) hw) (fun _ _ ⟨v, H', I', r, q⟩ => ⟨v, H', I'.unwish, r, q⟩) fun _ _ z => False.elim z
theorem PT.nox {e : Expr} {t : TT} (h : PT X.nox e t) : PT X e t := fun pins s σ H Q I hw =>
  wpAny_mono (h pins s σ H Q (I.wish _) hw) (fun _ _ ⟨H', I', q⟩ => ⟨H', I'.unwish, q⟩) fun _ _ z => False.elim z
theorem PSs.nox {st : List Stmt} {t : TS} (h : PSs X.nox st t) : PSs X st t := fun pins s σ H D I hw =>
  wpAny_mono (h pins s σ H D (I.wish _) hw) (fun _ _ q => q.unwish) fun _ _ z => False.elim z
end

/-! ### blocks and small statements -/
section
variable {X : Cx} {st : Stmt} {rest : List Stmt} {t u : TS} {e : Expr} {te : TE} {pos : Pos}
def tNext : TS := fun D σ H => D.nx σ H
def tSeq (t u : TS) : TS := fun D σ H => t { D with nx := u D } σ H
theorem pss_nil : PSs X [] tNext := fun _ _ σ H _ I h => wpAny_execs_nil ⟨σ, H, I, h⟩
theorem pss_cons (h1 : PS X st t) (h2 : PSs X rest u) : PSs X (st :: rest) (tSeq t u) := by
  intro pins s σ H D I h
  refine wpAny_execs_cons (thn (h1 pins s σ H { D with nx := u D } I h) fun f s1 q => ?_)
  cases f with
  | next =>
    obtain ⟨σ', H', I', q⟩ := q
    exact h2 pins s1 σ' H' D I' q
  | ret v => exact q
  | brk => exact q
  | cont => exact q
theorem pss_one (h1 : PS X st t) : PSs X [st] t := by
  intro pins s σ H D I h
  refine wpAny_execs_cons (thn (h1 pins s σ H D I h) fun f s1 q => ?_)
  cases f with
  | next => exact wpAny_execs_nil q
  | ret v => exact q
  | brk => exact q
  | cont => exact q
/-- in a def's body nothing is shown -/
theorem Inv.quiet {pins : List (Addr × Obj)} {σ : St} {H : Hp} {s : Shared} (I : Inv X pins σ H s) : interactive X.env = false := by simp [interactive, I.ok.kind]
/-- an expression whose value is dropped -/
def tDrop (te : TE) : TS := fun D σ H => te σ H fun _ H1 => D.nx σ H1
theorem ps_expr (he : PE X e te) (hs : swapsWith e none pos.line X.env = pure false := by rfl) : PS X (.Expr e pos) (tDrop te) := by
  intro pins s σ H D I h
  exact wpAny_Expr_any (thn (he pins s σ H _ I h) fun v s1 ⟨x, H1, I1, r1, q1⟩ => ⟨σ, H1, I1, q1⟩) I.quiet hs
def tRet (te : TE) : TS := fun D σ H => te σ H D.rt
theorem ps_ret (he : PE X e te) : PS X (.Return (some e) pos) (tRet te) := by
  intro pins s σ H D I h
  exact wpAny_Return_some (thn (he pins s σ H _ I h) fun v s1 ⟨x, H1, I1, r1, q1⟩ => ⟨x, σ, H1, I1, r1, q1⟩)
def tIfS (c : TT) (t u : TS) : TS := fun D σ H => c σ H fun b H1 => if b = true then t D σ H1 else u D σ H1
theorem ps_if {c : Expr} {a b : List Stmt} {tc : TT} (hc : PT X c tc) (ha : PSs X a t) (hb : PSs X b u) : PS X (.If c a b pos) (tIfS tc t u) := by
  intro pins s σ H D I h
  refine wpAny_If (thn (hc pins s σ H _ I h) fun d s1 ⟨H1, I1, q1⟩ => ?_)
  cases d with
  | true => exact ha pins s1 σ H1 D I1 q1
  | false => exact hb pins s1 σ H1 D I1 q1
end

/-! ### targets -/
abbrev TG := V → St → Hp → (St → Hp → Prop) → Prop
abbrev TGs := List V → St → Hp → (St → Hp → Prop) → Prop
def PG (X : Cx) (target : Expr) (t : TG) : Prop :=
  ∀ (pins : List (Addr × Obj)) (s : Shared) (σ : St) (H : Hp) (v : V) (u : Value) (Q : St → Hp → Prop), Inv X pins σ H s → RelV v u → t v σ H Q →
    wpAny (model X.prog X.w) X.A (assign target X.env u) (fun _ s' => ∃ σ' H', Inv X pins σ' H' s' ∧ Q σ' H') X.xe s
/-- several targets, one after another -/
def PGs (X : Cx) (ts : List Expr) (t : TGs) : Prop :=
  ∀ (pins : List (Addr × Obj)) (s : Shared) (σ : St) (H : Hp) (vs : List V) (us : List Value) (Q : St → Hp → Prop), Inv X pins σ H s → Vals vs us → t vs σ H Q →
    wpAny (model X.prog X.w) X.A (assignInOrder ((assignEach ts X.env).map (·.2)) us) (fun _ s' => ∃ σ' H', Inv X pins σ' H' s' ∧ Q σ' H') X.xe s
/-- o[i] = v, by values -/
abbrev TSet := V → V → V → Hp → (Hp → Prop) → Prop
def PSet (X : Cx) (t : TSet) : Prop :=
  ∀ (pins : List (Addr × Obj)) (s : Shared) (σ : St) (H : Hp) (o i v : V) (ov iv u : Value) (Q : Hp → Prop), Inv X pins σ H s → RelV o ov → RelV i iv → RelV v u → t o i v H Q →
    wpAny (model X.prog X.w) X.A (setItem ov iv u) (fun _ s' => ∃ H', Inv X pins σ H' s' ∧ Q H') X.xe s
section
variable {X : Cx} {pos : Pos}
def gName (i : Nat) : TG := fun v σ H Q => Q (σ.set i (some v)) H
theorem pg_name {i : Nat} {x : Str} (hN : X.N.Nodup) (hi : X.N[i]? = some x) (hx : Loc X.env.scope x) (hf : X.fn x = true ∨ X.env.scope.names.lookup x = some .local := by first | exact .inl rfl | exact .inr rfl | assumption) : PG X (.Name x pos) (gName i) := by
  intro pins s σ H v u Q I r h
  exact wpAny_assign_Name (store_ok I hN hi hx r (fun s' I' => ⟨_, H, I', h⟩) hf)
def gNil : TGs := fun vs σ H Q => vs = [] ∧ Q σ H
def gCons (t : TG) (u : TGs) : TGs := fun vs σ H Q => ∃ v r, vs = v :: r ∧ t v σ H fun σ' H' => u r σ' H' Q
theorem pgs_nil : PGs X [] gNil := by
  intro pins s σ H vs us Q I r h
  obtain ⟨e, h⟩ := h
  subst e
  cases r
  exact assignInOrder_nil ⟨σ, H, I, h⟩
theorem pgs_cons {e : Expr} {es : List Expr} {t : TG} {u : TGs} (h1 : PG X e t) (h2 : PGs X es u)
    (hs : (assignEach (e :: es) X.env).map (·.2) = assign e X.env :: (assignEach es X.env).map (·.2) := by rfl) : PGs X (e :: es) (gCons t u) := by
  intro pins s σ H vs us Q I r h
  obtain ⟨v, vr, e1, h⟩ := h
  subst e1
  cases r with
  | cons r rr =>
    rw [hs]
    refine assignInOrder_cons (thn (h1 pins s σ H _ _ _ I r h) fun _ s1 ⟨σ1, H1, I1, q1⟩ => ?_)
    exact h2 pins s1 σ1 H1 _ _ Q I1 rr q1
/-- (a, b, ..) = a tuple of that length -/
def gTup (K : PySem.W.Frag) (n : Nat) (t : TGs) : TG := fun v σ H Q => ∃ a xs, v = .ref a ∧ SqT K H a xs ∧ xs.length = n ∧ t xs σ H Q
theorem pg_tup {es : List Expr} {k : Nat} {t : TGs} {n : Nat} (hc : X.calm = true) (h : PGs X es t)
    (hn : (assignEach es X.env).length = n := by rfl) (hst : (assignEach es X.env).findIdx? (·.1) = none := by rfl) : PG X (.Tuple es k pos) (gTup X.K n t) := by
  intro pins s σ H v u Q I r hw
  obtain ⟨a, xs, e1, hq, hl, hw⟩ := hw
  subst e1
  cases r
  obtain ⟨its, rv, ht, hz⟩ := I.tuple hq
  refine assign_Tuple_tuple (I.ok.hd hc) ht (by simp [hn, ← hl, rv.length]) hst fun h' hx => ?_
  have I1 : Inv X pins σ H { s with heap := h' } := I.kept (t' := s.toks) fun b o e => hx b o (Nat.ne_of_lt (Heap.lt_size e)) e
  exact h pins _ σ H xs _ Q I1 (by simpa using rv) hw
/-- o[i] = .. -/
def gSub (to ti : TE) (t : TSet) : TG := fun v σ H Q => to σ H fun o H1 => ti σ H1 fun i H2 => t o i v H2 fun H3 => Q σ H3
theorem pg_sub {o i : Expr} {to ti : TE} {t : TSet} (ho : PE X o to) (hi : PE X i ti) (hs : PSet X t)
    (ha : ∀ v, assign (.Subscript o i pos) X.env v = (do
      let ov ← holding [v] (eval o X.env)
      let iv ← holding [v, ov] (eval i X.env)
      standAt pos
      holding [v, ov, iv] (setItem ov iv v)
      release [v, ov, iv] []) := by intro _; rfl) : PG X (.Subscript o i pos) (gSub to ti t) := by
  intro pins s σ H v u Q I r h
  rw [ha]
  refine wpAny_bind (wpAny_holding (thn (ho pins s σ H _ I h) fun ov s1 ⟨x, H1, I1, r1, q1⟩ => ?_))
  refine wpAny_bind (wpAny_holding (thn (hi pins s1 σ H1 _ I1 q1) fun iv s2 ⟨y, H2, I2, r2, q2⟩ => ?_))
  refine wpAny_bind (wpAny_standAt (wpAny_bind (wpAny_holding (thn (hs pins s2 σ H2 x y v ov iv u _ I2 r1 r2 r q2) fun _ s3 ⟨H3, I3, q3⟩ => ?_))))
  exact wpAny_release ⟨σ, H3, I3, q3⟩
/-- target = value -/
def tAsg (te : TE) (g : TG) : TS := fun D σ H => te σ H fun x H1 => g x σ H1 D.nx
theorem ps_asg {tg e : Expr} {te : TE} {g : TG} (he : PE X e te) (hg : PG X tg g) (hs : swapsWithSole [tg] e pos.line X.env = pure false := by rfl) (hw : swappedStores [tg] e X.env = pure none := by rfl)
    (h1 : (assignEach [tg] X.env).map (·.2) = [assign tg X.env] := by rfl) : PS X (.Assign [tg] e pos) (tAsg te g) := by
  intro pins s σ H D I h
  refine wpAny_Assign_stores (thn (he pins s σ H _ I h) fun v s1 ⟨x, H1, I1, r1, q1⟩ => ?_) hs hw
  rw [h1]
  exact thn (hg pins s1 σ H1 x v _ I1 r1 q1) fun _ s2 q => q
/-- name = value -/
theorem ps_set {i : Nat} {x : Str} {e : Expr} {te : TE} {pos' : Pos} (hN : X.N.Nodup) (hi : X.N[i]? = some x) (hx : Loc X.env.scope x) (he : PE X e te) (hs : swapsWith e (some (.Name x pos')) pos.line X.env = pure false := by rfl) (hf : X.fn x = true ∨ X.env.scope.names.lookup x = some .local := by first | exact .inl rfl | exact .inr rfl | assumption) :
    PS X (.Assign [.Name x pos'] e pos) (tAsg te (gName i)) := by
  intro pins s σ H D I h
  refine wpAny_Assign_Name (thn (he pins s σ H _ I h) fun v s1 ⟨y, H1, I1, r1, q1⟩ => ?_) hs
  exact store_ok I1 hN hi hx r1 (fun s2 I2 => ⟨_, H1, I2, q1⟩) hf
end

/-! ### while -/
section
variable {X : Cx} {pos : Pos}
end

/-! ### what a loop or a comprehension walks -/
/-- at turn i: it yields x (the heap may grow), or it stops -/
structure It where
  go : Nat → Hp → Prop
  yld : Nat → Hp → V → Hp → Prop
  stop : Nat → Hp → Prop
/-- the iterator's own objects may turn: they are not the frame's, not pinned, younger than the entry (or a comprehension's own) -/
def FpOk (X : Cx) (pins : List (Addr × Obj)) (H : Hp) (b : Addr) : Prop :=
  H b = none ∧ b ≠ X.env.locals ∧ b ∉ X.fs ∧ (b ∈ X.ex ∨ X.s₀.heap.objs.size ≤ b) ∧ (∀ x c, X.env.cells.lookup x = some c → c ≠ b) ∧ ∀ p ∈ X.pn ++ pins, p.1 ≠ b
theorem Inv.fpOk {X : Cx} {pins : List (Addr × Obj)} {σ : St} {H H' : Hp} {s : Shared} {b : Addr} (I : Inv X pins σ H s) (hb : s.heap.objs.size ≤ b) (hn : H' b = none) : FpOk X pins H' b := by
  refine ⟨hn, Nat.ne_of_gt (Nat.lt_of_lt_of_le I.lt hb), I.nofs hb, .inr (Nat.le_trans I.sz hb), fun x c e z => ?_, fun p hp z => ?_⟩
  · obtain ⟨v, q⟩ := I.cell x c e
    exact absurd (Nat.lt_of_lt_of_le q.lt (by rw [z]; exact hb)) (Nat.lt_irrefl _)
  · exact absurd (Nat.lt_of_lt_of_le (Heap.lt_size (I.pin p hp).1) (by rw [z]; exact hb)) (Nat.lt_irrefl _)
structure Turn (P : Program) (w : World) (K : PySem.W.Frag) (tg : Expr) (J : It) (fp : List Addr) (it : Addr) (tn : Nat → Heap → Prop) : Prop where
  mem : it ∈ fp
  obj : ∀ i h, tn i h → ∀ b ∈ fp, ∃ o, h.get? b = some o ∧ ∀ v, o.data ≠ .cell v
  keep : ∀ i h h', tn i h → (∀ b ∈ fp, ∀ o, h.get? b = some o → h'.get? b = some o) → tn i h'
  item : ∀ (X : Cx), X.prog = P → X.w = w → X.K = K → X.calm = true → ∀ (i : Nat) (pins : List (Addr × Obj)) (s : Shared) (σ : St) (H : Hp) (E : Value → Shared → Prop), Inv X pins σ H s → (∀ b ∈ fp, FpOk X pins H b) → tn i s.heap → J.go i H →
    wpAny (model P w) X.A (pyNext (.ref it)) (fun r s1 => ∃ u, r = some u ∧
      wpAny (model P w) X.A (letOwnedTupleGo tg (.ref it) u) (fun _ s2 => ∃ x H', Inv X pins σ H' s2 ∧ RelV x u ∧ J.yld i H x H' ∧ tn (i + 1) s2.heap ∧ ∀ b ∈ fp, H' b = none) E s1) E s
  done : ∀ (X : Cx), X.prog = P → X.w = w → X.K = K → X.calm = true → ∀ (i : Nat) (pins : List (Addr × Obj)) (s : Shared) (σ : St) (H : Hp) (E : Value → Shared → Prop), Inv X pins σ H s → (∀ b ∈ fp, FpOk X pins H b) → tn i s.heap → J.stop i H →
    wpAny (model P w) X.A (pyNext (.ref it)) (fun r s1 => r = none ∧ Inv X pins σ H s1) E s
  self : ∀ (A : Around) (i : Nat) (s : Shared) (Q : Value → Shared → Prop) (E : Value → Shared → Prop), tn i s.heap → Q (.ref it) s → wpAny (model P w) A (pyIter (.ref it)) Q E s
abbrev TI := St → Hp → (It → Hp → Prop) → Prop
/-- an iterator has come -/
def PIE (X : Cx) (pins : List (Addr × Obj)) (σ : St) (tg : Expr) (R : It → Hp → Prop) (itv : Value) (s2 : Shared) : Prop :=
  ∃ (it : Addr) (fp : List Addr) (tn : Nat → Heap → Prop) (J : It) (H' : Hp), itv = .ref it ∧ Inv X pins σ H' s2 ∧ Turn X.prog X.w X.K tg J fp it tn ∧ tn 0 s2.heap ∧ (∀ b ∈ fp, FpOk X pins H' b) ∧ R J H'
def PI (X : Cx) (tg iter : Expr) (wi : TI) : Prop :=
  ∀ (pins : List (Addr × Obj)) (s : Shared) (σ : St) (H : Hp) (R : It → Hp → Prop), Inv X pins σ H s → wi σ H R →
    wpAny (model X.prog X.w) X.A (eval iter X.env) (fun v s1 => wpAny (model X.prog X.w) X.A (pyIter v) (PIE X pins σ tg R) X.xe s1) X.xe s

/-- the step ahead of the store is nothing for an iterator that keeps no tuple -/
theorem go_of {M : Model} {A : Around} {E : Value → Shared → Prop} {s : Shared} {tg : Expr} {it : Addr} {u : Value} {o : Obj} {n : String} {vs : Array Value} {Q : Unit → Shared → Prop} (ho : s.heap.get? it = some o) (hc : o.cls = .type n) (hd : o.data = .fields vs)
    (hn : ["enumerate", "zip", "dict_itemiterator", "dict_reverseitemiterator", "odict_iterator", "itertools.zip_longest", "itertools.pairwise"].contains n = false) (hQ : Q () s) : wpAny M A (letOwnedTupleGo tg (.ref it) u) Q E s := by
  unfold letOwnedTupleGo
  cases tg <;> first
    | exact wpAny_pure hQ
    | (cases u <;> first
        | exact wpAny_pure hQ
        | (refine wpAny_bind (wpAny_load ho ?_)
           rw [hc, hd]
           show wpAny M A (if (["enumerate", "zip", "dict_itemiterator", "dict_reverseitemiterator", "odict_iterator", "itertools.zip_longest", "itertools.pairwise"].contains n && vs[0]? == some (rawInt _)) = true then _ else _) Q E s
           rw [if_neg (by intro h; rw [hn, Bool.false_and] at h; cases h)]
           exact wpAny_pure hQ))

/-- the list at a, as it stands at each turn (a loop may append to it) -/
def Itl (K : PySem.W.Frag) (a : Addr) : It :=
  ⟨fun i H => ∃ xs x, SqL K H a xs ∧ xs[i]? = some x, fun i H x H' => H' = H ∧ ∀ xs, SqL K H a xs → xs[i]? = some x, fun i H => ∃ xs, SqL K H a xs ∧ xs.length ≤ i⟩
def Itt (K : PySem.W.Frag) (a : Addr) : It :=
  ⟨fun i H => ∃ xs x, SqT K H a xs ∧ xs[i]? = some x, fun i H x H' => H' = H ∧ ∀ xs, SqT K H a xs → xs[i]? = some x, fun i H => ∃ xs, SqT K H a xs ∧ xs.length ≤ i⟩
/-- lo, lo + 1, .. (n of them) -/
def Itr (lo : Int) (n : Nat) : It := ⟨fun i _ => i < n, fun i H x H' => H' = H ∧ x = .int (lo + i), fun i _ => n ≤ i⟩
theorem turn_list {P : Program} {w : World} {K : PySem.W.Frag} {tg : Expr} (a it : Addr) : Turn P w K tg (Itl K a) [it] it (fun i h => h.IsListIter it a i) where
  mem := by simp
  obj := fun i h st b hb => by
    have e : b = it := by simpa using hb
    subst e
    obtain ⟨o, e, c, d⟩ := st
    exact ⟨o, e, fun v z => by rw [d] at z; cases z⟩
  keep := fun i h h' st k => st.at fun o e => k it (by simp) o e
  item := by
    intro X hP hw hK hc i pins s σ H E I hf st hg
    subst hP hw hK
    obtain ⟨xs, x, hq, hx⟩ := hg
    obtain ⟨its, rv, p, hz⟩ := I.list hq
    obtain ⟨u, hu, ru⟩ := rv.get hx
    obtain ⟨f0, f1, f2, f3, f4, f5⟩ := hf it (by simp)
    refine wpAny_pyNext_list_item st p.isList (x := u) (by simpa using hu) fun h' st' sb => ?_
    have I1 : Inv X pins σ H { s with heap := h' } := I.turned (t' := s.toks) (fun b o hb e => (sb.2 b hb).trans e) f0 f1 f3 f4 f5
    obtain ⟨o, e, c, d⟩ := id st'
    exact ⟨u, rfl, go_of (s := { s with heap := h' }) e c d (by decide) ⟨x, H, I1, ru, ⟨rfl, fun ys hy => by rw [I.list_inj hy hq]; exact hx⟩, st', fun b hb => (hf b hb).1⟩⟩
  done := by
    intro X hP hw hK hc i pins s σ H E I hf st hg
    subst hP hw hK
    obtain ⟨xs, hq, hx⟩ := hg
    obtain ⟨its, rv, p, hz⟩ := I.list hq
    obtain ⟨f0, f1, f2, f3, f4, f5⟩ := hf it (by simp)
    have hl := rv.length
    exact wpAny_pyNext_list_end (I.ok.hd hc) st p.isList (by simp; omega) fun h' eb => ⟨rfl, I.turned (t' := s.toks) (fun b o hb e => eb b o hb e) f0 f1 f3 f4 f5⟩
  self := fun _ _ _ _ _ st h => wpAny_pyIter_listiter st h
theorem turn_tuple {P : Program} {w : World} {K : PySem.W.Frag} {tg : Expr} (a it : Addr) : Turn P w K tg (Itt K a) [it] it (fun i h => h.IsTupleIter it a i) where
  mem := by simp
  obj := fun i h st b hb => by
    have e : b = it := by simpa using hb
    subst e
    obtain ⟨o, e, c, d⟩ := st
    exact ⟨o, e, fun v z => by rw [d] at z; cases z⟩
  keep := fun i h h' st k => st.at fun o e => k it (by simp) o e
  item := by
    intro X hP hw hK hc i pins s σ H E I hf st hg
    subst hP hw hK
    obtain ⟨xs, x, hq, hx⟩ := hg
    obtain ⟨its, rv, p, hz⟩ := I.tuple hq
    obtain ⟨u, hu, ru⟩ := rv.get hx
    obtain ⟨f0, f1, f2, f3, f4, f5⟩ := hf it (by simp)
    refine wpAny_pyNext_tuple_item st (show s.heap.IsTuple a its.toArray from p) (x := u) (by simpa using hu) fun h' st' sb => ?_
    have I1 : Inv X pins σ H { s with heap := h' } := I.turned (t' := s.toks) (fun b o hb e => (sb.2 b hb).trans e) f0 f1 f3 f4 f5
    obtain ⟨o, e, c, d⟩ := id st'
    exact ⟨u, rfl, go_of (s := { s with heap := h' }) e c d (by decide) ⟨x, H, I1, ru, ⟨rfl, fun ys hy => by rw [I.tuple_inj hy hq]; exact hx⟩, st', fun b hb => (hf b hb).1⟩⟩
  done := by
    intro X hP hw hK hc i pins s σ H E I hf st hg
    subst hP hw hK
    obtain ⟨xs, hq, hx⟩ := hg
    obtain ⟨its, rv, p, hz⟩ := I.tuple hq
    obtain ⟨f0, f1, f2, f3, f4, f5⟩ := hf it (by simp)
    have hl := rv.length
    exact wpAny_pyNext_tuple_end (I.ok.hd hc) st (show s.heap.IsTuple a its.toArray from p) (by simp; omega) fun h' eb => ⟨rfl, I.turned (t' := s.toks) (fun b o hb e => eb b o hb e) f0 f1 f3 f4 f5⟩
  self := fun _ _ _ _ _ st h => wpAny_pyIter_tupleiter st h
theorem turn_range {P : Program} {w : World} {K : PySem.W.Frag} {tg : Expr} (it : Addr) (lo : Int) (n : Nat) : Turn P w K tg (Itr lo n) [it] it (fun i h => IsRangeIter h it (lo + (i : Nat) * 1) ((n : Int) - (i : Nat)) 1) where
  mem := by simp
  obj := fun i h st b hb => by
    have e : b = it := by simpa using hb
    subst e
    exact ⟨_, st, fun v z => by
      have z' : Data.fields _ = Data.cell v := z
      cases z'⟩
  keep := fun i h h' st k => k it (by simp) _ st
  item := by
    intro X hP hw hK hc i pins s σ H E I hf st hg
    subst hP hw hK
    obtain ⟨f0, f1, f2, f3, f4, f5⟩ := hf it (by simp)
    have W := Walks.range (prog := X.prog) (w := X.w) (I.ok.hd hc) it lo 1 n
    refine W.item i s _ _ hg st fun v h' tk hv st' kk => ?_
    obtain ⟨t, rfl⟩ := hv
    have I1 : Inv X pins σ H { s with heap := h', toks := tk } := I.turned (fun b o hb e => kk b o (by simpa using hb) e) f0 f1 f3 f4 f5
    refine ⟨_, rfl, go_of (s := { s with heap := h', toks := tk }) (n := "range_iterator") st' rfl rfl (by decide) ⟨.int (lo + i), H, I1, ⟨t, ?_⟩, ⟨rfl, rfl⟩, st', fun b hb => (hf b hb).1⟩⟩
    rw [Int.mul_one]
  done := by
    intro X hP hw hK hc i pins s σ H E I hf st hg
    subst hP hw hK
    obtain ⟨f0, f1, f2, f3, f4, f5⟩ := hf it (by simp)
    exact wpAny_pyNext_range_end (I.ok.hd hc) st (by have : n ≤ i := hg; omega) fun h' eb => ⟨rfl, I.turned (t' := s.toks) (fun b o hb e => eb b o hb e) f0 f1 f3 f4 f5⟩
  self := fun _ _ _ _ _ st h => wpAny_pyIter_rangeiter st h
end L2

namespace L2
open PySem PySem.Spec PyProof.Rows
section
variable {X : Cx} {tg : Expr}
def iList (K : PySem.W.Frag) (tl : TE) : TI := fun σ H R => tl σ H fun x H1 => ∃ a, x = .ref a ∧ (∃ xs, SqL K H1 a xs) ∧ R (Itl K a) H1
def iTup (K : PySem.W.Frag) (tl : TE) : TI := fun σ H R => tl σ H fun x H1 => ∃ a, x = .ref a ∧ (∃ xs, SqT K H1 a xs) ∧ R (Itt K a) H1
theorem pi_list {l : Expr} {tl : TE} (hl : PE X l tl) : PI X tg l (iList X.K tl) := by
  intro pins s σ H R I h
  refine thn (hl pins s σ H _ I h) fun v s1 ⟨x, H1, I1, r1, q1⟩ => ?_
  obtain ⟨a, e, ⟨xs, hq⟩, q⟩ := q1
  subst e
  cases r1
  obtain ⟨its, rv, p, hz⟩ := I1.list hq
  refine wpAny_pyIter_list p.isList ?_
  refine ⟨s1.heap.objs.size, [s1.heap.objs.size], _, _, H1, rfl, I1.kept (t' := s1.toks) fun b o e => Heap.get?_push_of_some _ e, turn_list a _, ⟨_, Heap.get?_push_size _ rfl, rfl, rfl⟩, fun b hb => ?_, q⟩
  have e : b = s1.heap.objs.size := by simpa using hb
  subst e
  exact I1.fpOk (Nat.le_refl _) (I1.hok.fresh (Nat.le_refl _))
theorem pi_tup {l : Expr} {tl : TE} (hl : PE X l tl) : PI X tg l (iTup X.K tl) := by
  intro pins s σ H R I h
  refine thn (hl pins s σ H _ I h) fun v s1 ⟨x, H1, I1, r1, q1⟩ => ?_
  obtain ⟨a, e, ⟨xs, hq⟩, q⟩ := q1
  subst e
  cases r1
  obtain ⟨its, rv, p, hz⟩ := I1.tuple hq
  refine wpAny_pyIter_tuple (show s1.heap.IsTuple a its.toArray from p) ?_
  refine ⟨s1.heap.objs.size, [s1.heap.objs.size], _, _, H1, rfl, I1.kept (t' := s1.toks) fun b o e => Heap.get?_push_of_some _ e, turn_tuple a _, ⟨_, Heap.get?_push_size _ rfl, rfl, rfl⟩, fun b hb => ?_, q⟩
  have e : b = s1.heap.objs.size := by simpa using hb
  subst e
  exact I1.fpOk (Nat.le_refl _) (I1.hok.fresh (Nat.le_refl _))
/-- a range object just made, walked -/
theorem range_it {pins : List (Addr × Obj)} {σ : St} {H : Hp} {s : Shared} {R : It → Hp → Prop} {E : Value → Shared → Prop} {lo hi : Int} {t u v : Tok} {tk : Nat} (I : Inv X pins σ H s) (h1 : -(2 ^ 62) ≤ lo) (h2 : lo < 2 ^ 62) (h3 : -(2 ^ 62) ≤ hi) (h4 : hi < 2 ^ 62)
    (q : R (Itr lo (hi - lo).toNat) H) : wpAny (model X.prog X.w) X.A (pyIter (.ref s.heap.objs.size)) (PIE X pins σ tg R) E { s with heap := s.heap.push { cls := .type "range", data := .fields #[.int lo t, .int hi u, .int 1 v] }, toks := tk } := by
  refine wpAny_pyIter_range (IsRange.new ..) (small_one h1 h2 h3 h4) ?_
  have I1 : Inv X pins σ H { s with heap := s.heap.push { cls := .type "range", data := .fields #[.int lo t, .int hi u, .int 1 v] }, toks := tk } := I.kept fun b o e => Heap.get?_push_of_some _ e
  refine ⟨(s.heap.push { cls := .type "range", data := .fields #[.int lo t, .int hi u, .int 1 v] }).objs.size, [(s.heap.push { cls := .type "range", data := .fields #[.int lo t, .int hi u, .int 1 v] }).objs.size], _, _, H, rfl,
    I1.kept (t' := tk) fun b o e => Heap.get?_push_of_some _ e, turn_range _ lo (hi - lo).toNat, ?_, fun b hb => ?_, q⟩
  · have e1 : lo + ((0 : Nat) : Int) * 1 = lo := by simp
    have e2 : (((hi - lo).toNat : Nat) : Int) - ((0 : Nat) : Int) = Builtin.Range.rangeSize lo hi 1 := by rw [rangeSize_one]; split <;> omega
    show IsRangeIter _ _ (lo + ((0 : Nat) : Int) * 1) ((((hi - lo).toNat : Nat) : Int) - ((0 : Nat) : Int)) 1
    rw [e1, e2]
    exact Heap.get?_push_size _ rfl
  · have e : b = (s.heap.push { cls := .type "range", data := .fields #[.int lo t, .int hi u, .int 1 v] }).objs.size := by simpa using hb
    subst e
    exact I1.fpOk (Nat.le_refl _) (I1.hok.fresh (Nat.le_refl _))
def iRng1 (ta : TA) : TI := fun σ H R => ta σ H fun vs H1 => ∃ j : Int, vs = [.int j] ∧ -(2 ^ 62) ≤ j ∧ j < 2 ^ 62 ∧ R (Itr 0 j.toNat) H1
theorem pi_range1 {a : Expr} {ta : TA} {p pos : Pos} (hg : Gl X "range") (hm : X.mg "range" = none) (ha : PA X [a] ta) (hs : starEach [a] X.env = [(false, eval a X.env)] := by rfl) : PI X tg (.Call (.Name "range" p) [a] [] pos) (iRng1 ta) := by
  intro pins s σ H R I h
  refine Call_ (ld_blt I hg hm boot_range (PyProof.Rows.callWith_type1 (thn (ha pos pins s σ H _ I h) fun us s1 ⟨vs, H1, I1, r1, q1⟩ => ?_) hs rfl))
  obtain ⟨j, e, q1, q2, q⟩ := q1
  subst e
  cases r1 with
  | cons r rr =>
    cases rr
    obtain ⟨t, rfl⟩ := r
    exact call_range_1 (range_it I1 (by omega) (by omega) q1 q2 (by simpa using q))
/-! ### for -/
/-- W: the invariant by the turn and a measure; N: what the body is to reach -/
def tFor (wi : TI) (g : TG) (tb : TS) : TS := fun D σ H => wi σ H fun J H1 => ∃ W : Nat → Nat → St → Hp → Prop, (∃ m, W 0 m σ H1) ∧ ∀ i m σ H, W i m σ H →
  (J.stop i H ∧ D.nx σ H) ∨ (J.go i H ∧ ∃ N : St → Hp → Prop, (∀ σ' H', N σ' H' → ∃ m', m' < m ∧ W (i + 1) m' σ' H') ∧ ∀ x H', J.yld i H x H' → g x σ H' fun σ2 H2 => tb { D with nx := N, ct := N, bk := D.nx } σ2 H2)
/-- the records at fp as they stand -/
def pinsAt (fp : List Addr) (h : Heap) : List (Addr × Obj) := fp.filterMap fun b => (h.get? b).map fun o => (b, o)
theorem mem_pinsAt {fp : List Addr} {h : Heap} {b : Addr} {o : Obj} (hb : b ∈ fp) (e : h.get? b = some o) : (b, o) ∈ pinsAt fp h := List.mem_filterMap.mpr ⟨b, hb, by rw [e]; rfl⟩
theorem of_pinsAt {fp : List Addr} {h : Heap} {p : Addr × Obj} (hp : p ∈ pinsAt fp h) : p.1 ∈ fp ∧ h.get? p.1 = some p.2 := by
  obtain ⟨b, hb, e⟩ := List.mem_filterMap.mp hp
  cases q : h.get? b with
  | none => rw [q] at e; cases e
  | some o =>
    rw [q] at e
    have e' : (b, o) = p := Option.some.inj e
    subst e'
    exact ⟨hb, q⟩
theorem Inv.pinned {pins : List (Addr × Obj)} {σ : St} {H : Hp} {s : Shared} {fp : List Addr} (I : Inv X pins σ H s) (hf : ∀ b ∈ fp, FpOk X pins H b) (ho : ∀ b ∈ fp, ∃ o, s.heap.get? b = some o ∧ ∀ v, o.data ≠ .cell v) : Inv X (pins ++ pinsAt fp s.heap) σ H s :=
  I.pins_of fun p hp => (List.mem_append.mp hp).elim (fun z => I.pin p (List.mem_append_right _ z)) fun z => by
    obtain ⟨hb, e⟩ := of_pinsAt z
    obtain ⟨f0, f1, f2, _⟩ := hf p.1 hb
    obtain ⟨o, e', d⟩ := ho p.1 hb
    rw [e] at e'; cases e'
    exact ⟨e, f0, f1, f2, d⟩
theorem Inv.unpinned {pins pl : List (Addr × Obj)} {σ : St} {H : Hp} {s : Shared} (I : Inv X (pins ++ pl) σ H s) : Inv X pins σ H s := I.pins_of fun p hp => I.pin p (List.mem_append_right _ (List.mem_append_left _ hp))
theorem ps_for {iter : Expr} {body : List Stmt} {wi : TI} {g : TG} {tb : TS} {pos : Pos} (hp : PassesOwn (model X.prog X.w) X.A X.env X.xe) (hc : X.calm = true) (hi : PI X tg iter wi) (hg : PG X tg g) (hb : PSs X body tb)
    (hs : ∀ x, foldedSetIterable iter X.env x = pure x := by intro _; rfl) : PS X (.For tg iter body [] pos) (tFor wi g tb) := by
  intro pins s σ H D I h
  refine wpAny_For (thn (hi pins s σ H _ I h) fun v s1 h1 => thn h1 fun itv s2 h2 => ?_) hs
  obtain ⟨it, fp, tn, J, H2, e, I2, T, st2, f2, W, ⟨m0, w0⟩, turn⟩ := h2
  subst e
  -- what stays true of the iterator's objects through the loop
  have stat : ∀ {H' : Hp}, (∀ b ∈ fp, H' b = none) → ∀ b ∈ fp, FpOk X pins H' b := fun hn b hb => ⟨hn b hb, (f2 b hb).2⟩
  refine codeAny_forLoop_any (fun n s' => ∃ i σ' H', Inv X pins σ' H' s' ∧ tn i s'.heap ∧ (∀ b ∈ fp, H' b = none) ∧ W i n σ' H') ?_ m0 ⟨0, σ, H2, I2, st2, fun b hb => (f2 b hb).1, w0⟩
  rintro n s3 ⟨i, σ3, H3, I3, st3, fr3, w3⟩
  rcases turn i n σ3 H3 w3 with ⟨stop, qn⟩ | ⟨go, N, hN, step⟩
  · refine wpAny_passesOwn hp (thn (T.done X rfl rfl rfl hc i pins s3 σ3 H3 X.xe I3 (stat fr3) st3 stop) fun r s4 ⟨hr, I4⟩ => ?_)
    subst hr
    exact wpAny_execs_nil ⟨σ3, H3, I4, qn⟩
  · refine wpAny_passesOwn hp (thn (T.item X rfl rfl rfl hc i pins s3 σ3 H3 X.xe I3 (stat fr3) st3 go) fun r s4 ⟨u, hr, h4⟩ => ?_)
    subst hr
    refine wpAny_passesOwn hp (thn h4 fun _ s5 ⟨x, H5, I5, r5, y5, st5, fr5⟩ => ?_)
    have I5' := I5.pinned (stat fr5) (T.obj _ _ st5)
    refine wpAny_passesOwn hp (thn (hg _ s5 σ3 H5 x u _ I5' r5 (step x H5 y5)) fun _ s6 ⟨σ6, H6, I6, q6⟩ => ?_)
    refine wpAny_passesOwn hp (thn (hb _ s6 σ6 H6 _ I6 q6) fun f s7 q7 => ?_)
    have again : ∀ {σ7 : St} {H7 : Hp}, Inv X (pins ++ pinsAt fp s5.heap) σ7 H7 s7 → N σ7 H7 → ∃ m, m < n ∧ ∃ i σ' H', Inv X pins σ' H' s7 ∧ tn i s7.heap ∧ (∀ b ∈ fp, H' b = none) ∧ W i m σ' H' := fun {σ7 H7} I7 n7 => by
      obtain ⟨m', hm, w7⟩ := hN σ7 H7 n7
      refine ⟨m', hm, i + 1, σ7, H7, I7.unpinned, T.keep _ _ _ st5 fun b hb o e => (I7.pin (b, o) (List.mem_append_right _ (List.mem_append_right _ (mem_pinsAt hb e)))).1, fun b hb => ?_, w7⟩
      obtain ⟨o, e, d⟩ := T.obj _ _ st5 b hb
      exact (I7.pin (b, o) (List.mem_append_right _ (List.mem_append_right _ (mem_pinsAt hb e)))).2.1
    cases f with
    | next => obtain ⟨σ7, H7, I7, n7⟩ := q7; exact again I7 n7
    | cont => obtain ⟨σ7, H7, I7, n7⟩ := q7; exact again I7 n7
    | brk => obtain ⟨σ7, H7, I7, q7⟩ := q7; exact ⟨σ7, H7, I7.unpinned, q7⟩
    | ret v => obtain ⟨x7, σ7, H7, I7, r7, q7⟩ := q7; exact ⟨x7, σ7, H7, I7.unpinned, r7, q7⟩
end

/-! ### the forms one uses -/
/-- over a list that the body leaves as it is -/
theorem for_list {K : PySem.W.Frag} {a : Addr} {xs : List V} {g : TG} {tb : TS} {D : Ends} {σ : St} {H : Hp} (Pv : Nat → St → Hp → Prop) (h0 : Pv 0 σ H) (hl : ∀ i σ H, i ≤ xs.length → Pv i σ H → SqL K H a xs)
    (hs : ∀ i x σ H, xs[i]? = some x → Pv i σ H → g x σ H fun σ2 H2 => tb { D with nx := Pv (i + 1), ct := Pv (i + 1), bk := D.nx } σ2 H2) (hd : ∀ σ H, Pv xs.length σ H → D.nx σ H) :
    ∃ W : Nat → Nat → St → Hp → Prop, (∃ m, W 0 m σ H) ∧ ∀ i m σ H, W i m σ H →
      ((Itl K a).stop i H ∧ D.nx σ H) ∨ ((Itl K a).go i H ∧ ∃ N : St → Hp → Prop, (∀ σ' H', N σ' H' → ∃ m', m' < m ∧ W (i + 1) m' σ' H') ∧ ∀ x H', (Itl K a).yld i H x H' → g x σ H' fun σ2 H2 => tb { D with nx := N, ct := N, bk := D.nx } σ2 H2) := by
  refine ⟨fun i m σ H => m = xs.length - i ∧ i ≤ xs.length ∧ Pv i σ H, ⟨xs.length, by simp, Nat.zero_le _, h0⟩, ?_⟩
  rintro i m σ H ⟨rfl, hi, p⟩
  have q := hl i σ H hi p
  by_cases hlt : i < xs.length
  · refine .inr ⟨⟨xs, xs[i], q, by simp [hlt]⟩, Pv (i + 1), fun σ' H' p' => ⟨xs.length - (i + 1), by omega, rfl, hlt, p'⟩, fun x H' y => ?_⟩
    obtain ⟨e, y⟩ := y
    subst e
    exact hs i x σ _ (y xs q) p
  · have e : i = xs.length := by omega
    subst e
    exact .inl ⟨⟨xs, q, Nat.le_refl _⟩, hd σ H p⟩
theorem for_tup {K : PySem.W.Frag} {a : Addr} {xs : List V} {g : TG} {tb : TS} {D : Ends} {σ : St} {H : Hp} (Pv : Nat → St → Hp → Prop) (h0 : Pv 0 σ H) (hl : ∀ i σ H, i ≤ xs.length → Pv i σ H → SqT K H a xs)
    (hs : ∀ i x σ H, xs[i]? = some x → Pv i σ H → g x σ H fun σ2 H2 => tb { D with nx := Pv (i + 1), ct := Pv (i + 1), bk := D.nx } σ2 H2) (hd : ∀ σ H, Pv xs.length σ H → D.nx σ H) :
    ∃ W : Nat → Nat → St → Hp → Prop, (∃ m, W 0 m σ H) ∧ ∀ i m σ H, W i m σ H →
      ((Itt K a).stop i H ∧ D.nx σ H) ∨ ((Itt K a).go i H ∧ ∃ N : St → Hp → Prop, (∀ σ' H', N σ' H' → ∃ m', m' < m ∧ W (i + 1) m' σ' H') ∧ ∀ x H', (Itt K a).yld i H x H' → g x σ H' fun σ2 H2 => tb { D with nx := N, ct := N, bk := D.nx } σ2 H2) := by
  refine ⟨fun i m σ H => m = xs.length - i ∧ i ≤ xs.length ∧ Pv i σ H, ⟨xs.length, by simp, Nat.zero_le _, h0⟩, ?_⟩
  rintro i m σ H ⟨rfl, hi, p⟩
  have q := hl i σ H hi p
  by_cases hlt : i < xs.length
  · refine .inr ⟨⟨xs, xs[i], q, by simp [hlt]⟩, Pv (i + 1), fun σ' H' p' => ⟨xs.length - (i + 1), by omega, rfl, hlt, p'⟩, fun x H' y => ?_⟩
    obtain ⟨e, y⟩ := y
    subst e
    exact hs i x σ _ (y xs q) p
  · have e : i = xs.length := by omega
    subst e
    exact .inl ⟨⟨xs, q, Nat.le_refl _⟩, hd σ H p⟩
theorem for_range {lo : Int} {n : Nat} {g : TG} {tb : TS} {D : Ends} {σ : St} {H : Hp} (Pv : Nat → St → Hp → Prop) (h0 : Pv 0 σ H)
    (hs : ∀ i σ H, i < n → Pv i σ H → g (.int (lo + i)) σ H fun σ2 H2 => tb { D with nx := Pv (i + 1), ct := Pv (i + 1), bk := D.nx } σ2 H2) (hd : ∀ σ H, Pv n σ H → D.nx σ H) :
    ∃ W : Nat → Nat → St → Hp → Prop, (∃ m, W 0 m σ H) ∧ ∀ i m σ H, W i m σ H →
      ((Itr lo n).stop i H ∧ D.nx σ H) ∨ ((Itr lo n).go i H ∧ ∃ N : St → Hp → Prop, (∀ σ' H', N σ' H' → ∃ m', m' < m ∧ W (i + 1) m' σ' H') ∧ ∀ x H', (Itr lo n).yld i H x H' → g x σ H' fun σ2 H2 => tb { D with nx := N, ct := N, bk := D.nx } σ2 H2) := by
  refine ⟨fun i m σ H => m = n - i ∧ i ≤ n ∧ Pv i σ H, ⟨n, by simp, Nat.zero_le _, h0⟩, ?_⟩
  rintro i m σ H ⟨rfl, hi, p⟩
  by_cases hlt : i < n
  · refine .inr ⟨hlt, Pv (i + 1), fun σ' H' p' => ⟨n - (i + 1), by omega, rfl, hlt, p'⟩, fun x H' y => ?_⟩
    obtain ⟨e, y⟩ := y
    subst e y
    exact hs i σ _ hlt p
  · have e : i = n := by omega
    subst e
    exact .inl ⟨Nat.le_refl _, hd σ H p⟩
end L2

namespace L2
open PySem PySem.Spec PyProof.Rows

abbrev R2 := V → V → Hp → VK → Prop
/-- a two-place operation on values: f is binaryOp op, inplaceOp op or compareOp op -/
def OpR (X : Cx) (f : Value → Value → Sem Value) (r : R2) : Prop :=
  ∀ (pins : List (Addr × Obj)) (s : Shared) (σ : St) (H : Hp) (x y : V) (v u : Value) (Q : VK), Inv X pins σ H s → RelV x v → RelV y u → r x y H Q →
    wpAny (model X.prog X.w) X.A (f v u) (EP X pins σ Q) X.xe s
/-- a one-place operation -/
def UnR (X : Cx) (f : Value → Sem Value) (r : V → Hp → VK → Prop) : Prop :=
  ∀ (pins : List (Addr × Obj)) (s : Shared) (σ : St) (H : Hp) (x : V) (v : Value) (Q : VK), Inv X pins σ H s → RelV x v → r x H Q →
    wpAny (model X.prog X.w) X.A (f v) (EP X pins σ Q) X.xe s
/-- a call of a value that is known (a builtin, a type) with values -/
def CallR (X : Cx) (f : Value) (r : List V → Hp → VK → Prop) : Prop :=
  ∀ (pins : List (Addr × Obj)) (s : Shared) (σ : St) (H : Hp) (xs : List V) (us : List Value) (Q : VK), Inv X pins σ H s → Vals xs us → r xs H Q →
    wpAny (model X.prog X.w) X.A (call f us) (EP X pins σ Q) X.xe s
def tOp (r : R2) (ta tb : TE) : TE := fun σ H Q => ta σ H fun x H1 => tb σ H1 fun y H2 => r x y H2 Q
/-- ints in, under C, and a value out -/
def rI (C : Int → Int → Prop) (g : Int → Int → V) : R2 := fun x y H Q => ∃ i j, x = .int i ∧ y = .int j ∧ C i j ∧ Q (g i j) H
def rI0 (g : Int → Int → V) : R2 := fun x y H Q => ∃ i j, x = .int i ∧ y = .int j ∧ Q (g i j) H
section
variable {X : Cx} {a b c : Expr} {ta tb tc : TE} {pos : Pos}

theorem binT (ha : PE X a ta) (hb : PE X b tb) {pins : List (Addr × Obj)} {s : Shared} {σ : St} {H : Hp} {R : V → V → Hp → Prop} (I : Inv X pins σ H s)
    (h : ta σ H fun x H1 => tb σ H1 fun y H2 => R x y H2) {Q : Value → Shared → Prop} {f : Value → Value → Sem Value}
    (hf : ∀ v u s2 x y H2, Inv X pins σ H2 s2 → RelV x v → RelV y u → R x y H2 → wpAny (model X.prog X.w) X.A (f v u) Q X.xe s2) :
    wpAny (model X.prog X.w) X.A (eval a X.env) (fun v s₁ => wpAny (model X.prog X.w) X.A (eval b X.env) (fun u s₂ => wpAny (model X.prog X.w) X.A (f v u) Q X.xe s₂) X.xe s₁) X.xe s := by
  refine thn (ha pins s σ H _ I h) fun v s1 ⟨x, H1, I1, r1, q1⟩ => ?_
  refine thn (hb pins s1 σ H1 _ I1 q1) fun u s2 ⟨y, H2, I2, r2, q2⟩ => ?_
  exact hf v u s2 x y H2 I2 r1 r2 q2

theorem pe_op {op : Operator} {r : R2} (ho : OpR X (binaryOp op) r) (ha : PE X a ta) (hb : PE X b tb) : PE X (.BinOp a op b pos) (tOp r ta tb) := by
  intro pins s σ H Q I h
  exact wpAny_BinOp (binT ha hb I h fun v u s2 x y H2 I2 rx ry q => ho pins s2 σ H2 x y v u Q I2 rx ry q)
/-! ### ints -/
theorem opI {f : Value → Value → Sem Value} {C : Int → Int → Prop} {g : Int → Int → Int}
    (rule : ∀ (i j : Int) (t u : Tok) (s : Shared) (Q : Value → Shared → Prop) (E : Value → Shared → Prop), C i j → Q (.int (g i j) s.toks) { s with toks := s.toks + 1 } → wpAny (model X.prog X.w) X.A (f (.int i t) (.int j u)) Q E s) :
    OpR X f (rI C fun i j => .int (g i j)) := by
  intro pins s σ H x y v u Q I rx ry h
  obtain ⟨i, j, rfl, rfl, hc, q⟩ := h
  obtain ⟨t, rfl⟩ := rx
  obtain ⟨t', rfl⟩ := ry
  exact rule i j t t' s _ _ hc ⟨.int (g i j), H, I.tok _, ⟨_, rfl⟩, q⟩
theorem opI0 {f : Value → Value → Sem Value} {g : Int → Int → Int}
    (rule : ∀ (i j : Int) (t u : Tok) (s : Shared) (Q : Value → Shared → Prop) (E : Value → Shared → Prop), Q (.int (g i j) s.toks) { s with toks := s.toks + 1 } → wpAny (model X.prog X.w) X.A (f (.int i t) (.int j u)) Q E s) :
    OpR X f (rI0 fun i j => .int (g i j)) := by
  intro pins s σ H x y v u Q I rx ry h
  obtain ⟨i, j, rfl, rfl, q⟩ := h
  obtain ⟨t, rfl⟩ := rx
  obtain ⟨t', rfl⟩ := ry
  exact rule i j t t' s _ _ ⟨.int (g i j), H, I.tok _, ⟨_, rfl⟩, q⟩
theorem opB0 {f : Value → Value → Sem Value} {g : Int → Int → Bool}
    (rule : ∀ (i j : Int) (t u : Tok) (s : Shared) (Q : Value → Shared → Prop) (E : Value → Shared → Prop), Q (.bool (g i j)) s → wpAny (model X.prog X.w) X.A (f (.int i t) (.int j u)) Q E s) :
    OpR X f (rI0 fun i j => .bl (g i j)) := by
  intro pins s σ H x y v u Q I rx ry h
  obtain ⟨i, j, rfl, rfl, q⟩ := h
  obtain ⟨t, rfl⟩ := rx
  obtain ⟨t', rfl⟩ := ry
  exact rule i j t t' s _ _ ⟨.bl (g i j), H, I, rfl, q⟩

def CDiv (i j : Int) : Prop := 0 < j ∧ j < 1073741824
def CMul (i j : Int) : Prop := (-(2 ^ 64) < i ∧ i < 2 ^ 64) ∨ (-(2 ^ 64) < j ∧ j < 2 ^ 64)
theorem CMul.ok {i j : Int} (h : CMul i j) : IntMulOk i j := by
  rcases h with ⟨h1, h2⟩ | ⟨h1, h2⟩
  · exact .of_left (intBits_le_64 h1 h2)
  · exact .of_right (intBits_le_64 h1 h2)
theorem op_add : OpR X (binaryOp .Add) (rI0 fun i j => .int (i + j)) := opI0 fun _ _ _ _ _ _ _ q => add_int q
theorem op_sub : OpR X (binaryOp .Sub) (rI0 fun i j => .int (i - j)) := opI0 fun _ _ _ _ _ _ _ q => sub_int q
theorem op_mul : OpR X (binaryOp .Mult) (rI CMul fun i j => .int (i * j)) := opI fun _ _ _ _ _ _ _ hc q => mul_int q hc.ok
/-- // by a positive divisor -/
theorem op_fdiv : OpR X (binaryOp .FloorDiv) (rI CDiv fun i j => .int (i / j)) := opI fun i j _ _ _ _ _ hc q => by
  have h1 : (0 : Int) < j := hc.1
  have h2 : j < 1073741824 := hc.2
  exact floordiv_int (by omega) (by rw [Int.fdiv_eq_ediv_of_nonneg i (by omega)]; exact q) (.inl (PyProof.noPylong_small (by omega)))
/-- % by a positive divisor of any size -/
theorem op_mod : OpR X (binaryOp .Mod) (rI (fun _ j => 0 < j) fun i j => .int (i % j)) := opI fun i j _ _ _ _ _ hc q => by
  have h1 : (0 : Int) < j := hc
  exact mod_int' (by omega) (by rw [Int.fmod_eq_emod_of_nonneg i (by omega)]; exact q)
/-! ### bools among ints: n += (a < b) -/
end

/-! ### comparisons -/
/-- the scalars that == tells apart as data does -/
def scal : V → V → Bool
  | .non, .non => true | .non, .int _ => true | .int _, .non => true | .non, .bl _ => true | .bl _, .non => true | .non, .str _ => true | .str _, .non => true
  | .int _, .int _ => true | .bl _, .bl _ => true | .str _, .str _ => true | .byt _, .byt _ => true
  | .int _, .str _ => true | .str _, .int _ => true | .bl _, .str _ => true | .str _, .bl _ => true
  | _, _ => false
def rEq : R2 := fun x y H Q => scal x y = true ∧ Q (.bl (decide (x = y))) H
def rNe : R2 := fun x y H Q => scal x y = true ∧ Q (.bl (!decide (x = y))) H

theorem dec_int {i j : Int} : decide (V.int i = V.int j) = (i == j) := by
  rw [Bool.eq_iff_iff]
  simp
theorem dec_bl {i j : Bool} : decide (V.bl i = V.bl j) = (i == j) := by
  rw [Bool.eq_iff_iff]
  simp
theorem dec_str {i j : Str} : decide (V.str i = V.str j) = (i == j) := by
  rw [Bool.eq_iff_iff]
  simp
theorem dec_byt {i j : Array UInt8} : decide (V.byt i = V.byt j) = (i.toList == j.toList) := by
  rw [Bool.eq_iff_iff]
  cases i
  cases j
  simp

section
variable {X : Cx} {a b c : Expr} {ta tb tc : TE} {pos : Pos}
theorem fin_bl {pins : List (Addr × Obj)} {σ : St} {H : Hp} {s : Shared} {Q : VK} {k k' : Bool} (I : Inv X pins σ H s) (q : Q (.bl k) H) (e : k = k') : EP X pins σ Q (.bool k') s := by
  subst e
  exact ⟨.bl k, H, I, rfl, q⟩
theorem op_eq : OpR X (compareOp .Eq) rEq := by
  intro pins s σ H x y v u Q I rx ry h
  obtain ⟨hs, q⟩ := h
  cases x with
  | non =>
    cases rx
    cases y with
    | non => cases ry; exact PySem.EqNone.eq_none_none (fin_bl I q (by simp))
    | bl j => cases ry; exact PySem.EqNone.eq_none_bool (fin_bl I q (by simp))
    | int j => obtain ⟨t', rfl⟩ := ry; exact PySem.EqNone.eq_none_int (fin_bl I q (by simp))
    | str j => obtain ⟨t', rfl⟩ := ry; exact PySem.EqNone.eq_none_str (fin_bl I q (by simp))
    | _ => exact absurd (show false = true from hs) Bool.false_ne_true
  | bl i =>
    cases rx
    cases y with
    | non => cases ry; exact PySem.EqNone.eq_bool_none (fin_bl I q (by simp))
    | bl j => cases ry; exact eq_bool (fin_bl I q dec_bl)
    | str j => obtain ⟨t', rfl⟩ := ry; exact PySem.EqMixed.eq_bool_str (fin_bl I q (by simp))
    | _ => exact absurd (show false = true from hs) Bool.false_ne_true
  | int i =>
    obtain ⟨t, rfl⟩ := rx
    cases y with
    | non => cases ry; exact PySem.EqNone.eq_int_none (fin_bl I q (by simp))
    | int j => obtain ⟨t', rfl⟩ := ry; exact eq_int (fin_bl I q dec_int)
    | str j => obtain ⟨t', rfl⟩ := ry; exact PySem.EqMixed.eq_int_str (fin_bl I q (by simp))
    | _ => exact absurd (show false = true from hs) Bool.false_ne_true
  | str i =>
    obtain ⟨t, rfl⟩ := rx
    cases y with
    | non => cases ry; exact PySem.EqNone.eq_str_none (fin_bl I q (by simp))
    | bl j => cases ry; exact PySem.EqMixed.eq_str_bool (fin_bl I q (by simp))
    | int j => obtain ⟨t', rfl⟩ := ry; exact PySem.EqMixed.eq_str_int (fin_bl I q (by simp))
    | str j => obtain ⟨t', rfl⟩ := ry; exact eq_str (fin_bl I q dec_str)
    | _ => exact absurd (show false = true from hs) Bool.false_ne_true
  | byt i =>
    obtain ⟨t, rfl⟩ := rx
    cases y with
    | byt j => obtain ⟨t', rfl⟩ := ry; exact PySem.W.eq_bytes (fin_bl I q dec_byt)
    | _ => exact absurd (show false = true from hs) Bool.false_ne_true
  | _ => cases y <;> exact absurd (show false = true from hs) Bool.false_ne_true
theorem op_ne : OpR X (compareOp .NotEq) rNe := by
  intro pins s σ H x y v u Q I rx ry h
  obtain ⟨hs, q⟩ := h
  cases x with
  | non =>
    cases rx
    cases y with
    | non => cases ry; exact PySem.EqNone.ne_none_none (fin_bl I q (by simp))
    | bl j => cases ry; exact PySem.EqNone.ne_none_bool (fin_bl I q (by simp))
    | int j => obtain ⟨t', rfl⟩ := ry; exact PySem.EqNone.ne_none_int (fin_bl I q (by simp))
    | str j => obtain ⟨t', rfl⟩ := ry; exact PySem.EqNone.ne_none_str (fin_bl I q (by simp))
    | _ => exact absurd (show false = true from hs) Bool.false_ne_true
  | bl i =>
    cases rx
    cases y with
    | non => cases ry; exact PySem.EqNone.ne_bool_none (fin_bl I q (by simp))
    | bl j => cases ry; exact ne_bool (fin_bl I q (congrArg not dec_bl))
    | str j => obtain ⟨t', rfl⟩ := ry; exact PySem.EqMixed.ne_bool_str (fin_bl I q (by simp))
    | _ => exact absurd (show false = true from hs) Bool.false_ne_true
  | int i =>
    obtain ⟨t, rfl⟩ := rx
    cases y with
    | non => cases ry; exact PySem.EqNone.ne_int_none (fin_bl I q (by simp))
    | int j => obtain ⟨t', rfl⟩ := ry; exact ne_int (fin_bl I q (congrArg not dec_int))
    | str j => obtain ⟨t', rfl⟩ := ry; exact PySem.EqMixed.ne_int_str (fin_bl I q (by simp))
    | _ => exact absurd (show false = true from hs) Bool.false_ne_true
  | str i =>
    obtain ⟨t, rfl⟩ := rx
    cases y with
    | non => cases ry; exact PySem.EqNone.ne_str_none (fin_bl I q (by simp))
    | bl j => cases ry; exact PySem.EqMixed.ne_str_bool (fin_bl I q (by simp))
    | int j => obtain ⟨t', rfl⟩ := ry; exact PySem.EqMixed.ne_str_int (fin_bl I q (by simp))
    | str j => obtain ⟨t', rfl⟩ := ry; exact ne_str (fin_bl I q (congrArg not dec_str))
    | _ => exact absurd (show false = true from hs) Bool.false_ne_true
  | byt i =>
    obtain ⟨t, rfl⟩ := rx
    cases y with
    | byt j => obtain ⟨t', rfl⟩ := ry; exact PySem.W.ne_bytes (fin_bl I q (congrArg not dec_byt))
    | _ => exact absurd (show false = true from hs) Bool.false_ne_true
  | _ => cases y <;> exact absurd (show false = true from hs) Bool.false_ne_true

theorem op_lt : OpR X (compareOp .Lt) (rI0 fun i j => .bl (decide (i < j))) := opB0 fun _ _ _ _ _ _ _ q => lt_int q
theorem op_le : OpR X (compareOp .LtE) (rI0 fun i j => .bl (decide (i ≤ j))) := opB0 fun _ _ _ _ _ _ _ q => le_int q
theorem op_gt : OpR X (compareOp .Gt) (rI0 fun i j => .bl (decide (j < i))) := opB0 fun _ _ _ _ _ _ _ q => gt_int q
/-- is None, is not None: the right side a value none -/
theorem op_isN : OpR X (compareOp .Is) (fun x y H Q => y = .non ∧ Q (.bl (decide (x = .non))) H) := by
  intro pins s σ H x y v u Q I rx ry h
  obtain ⟨rfl, q⟩ := h
  cases ry
  refine is_none_gen (fin_bl I q ?_)
  cases x <;> first
    | (cases rx; rfl)
    | (obtain ⟨t, rfl⟩ := rx; rfl)
/-- two rules for one operation: by cases -/
theorem OpR.or {f : Value → Value → Sem Value} {r r' : R2} (h : OpR X f r) (h' : OpR X f r') : OpR X f (fun x y H Q => r x y H Q ∨ r' x y H Q) := by
  intro pins s σ H x y v u Q I rx ry q
  rcases q with q | q
  · exact h pins s σ H x y v u Q I rx ry q
  · exact h' pins s σ H x y v u Q I rx ry q

theorem nomark (b : Expr) {op : CmpOp} (h : op ≠ .In := by decide) (h2 : op ≠ .NotIn := by decide) : behindInMarks op b = false := by
  have e1 : (op == CmpOp.In) = false := by cases op <;> first | rfl | exact absurd rfl h
  have e2 : (op == CmpOp.NotIn) = false := by cases op <;> first | rfl | exact absurd rfl h2
  cases b <;> simp [behindInMarks, e1, e2]
/-- a comparison as a value; hm: nomark b, or (for in, not in) by with_unfolding_all rfl -/
theorem pe_cmpR {op : CmpOp} {r : R2} (ho : OpR X (compareOp op) r) (ha : PE X a ta) (hb : PE X b tb) (hm : behindInMarks op b = false) : PE X (.Compare a [op] [b] pos) (tOp r ta tb) := by
  intro pins s σ H Q I h
  exact wpAny_Compare1 (binT ha hb I h fun v u s2 x y H2 I2 rx ry q => ho pins s2 σ H2 x y v u Q I2 rx ry q) hm
/-- a reading of a value as a test -/
def tTest (t : TE) : TT := fun σ H Q => t σ H fun x H' => ∃ k, x = .bl k ∧ Q k H'
theorem pt_cmpR {op : CmpOp} {r : R2} (ho : OpR X (compareOp op) r) (ha : PE X a ta) (hb : PE X b tb) (hm : behindInMarks op b = false) : PT X (.Compare a [op] [b] pos) (tTest (tOp r ta tb)) := by
  intro pins s σ H Q I h
  refine wpAny_isTrue_Compare1 (thn (ha pins s σ H _ I h) fun v s1 ⟨x, H1, I1, r1, q1⟩ => thn (hb pins s1 σ H1 _ I1 q1) fun u s2 ⟨y, H2, I2, r2, q2⟩ =>
    thn (ho pins s2 σ H2 x y v u _ I2 r1 r2 q2) fun c s3 ⟨z, H3, I3, r3, k, e, q3⟩ => ?_) hm
  subst e
  cases r3
  exact wpAny_truthy_bool ⟨H3, I3, q3⟩
/-- a op1 b op2 c -/
def tChain (r r' : R2) (ta tb tc : TE) : TE := fun σ H Q => ta σ H fun x H1 => tb σ H1 fun y H2 => r x y H2 fun z H3 => ∃ k, z = .bl k ∧
  (if k = true then tc σ H3 fun w' H4 => r' y w' H4 Q else Q (.bl false) H3)
theorem pe_chain {op op' : CmpOp} {r r' : R2} (ho : OpR X (compareOp op) r) (ho' : OpR X (compareOp op') r') (ha : PE X a ta) (hb : PE X b tb) (hc : PE X c tc)
    (hm : lastMarks [op, op'] [b, c] = false := by with_unfolding_all rfl) : PE X (.Compare a [op, op'] [b, c] pos) (tChain r r' ta tb tc) := by
  intro pins s σ H Q I h
  refine Compare_chain (thn (ha pins s σ H _ I h) fun v s1 ⟨x, H1, I1, r1, q1⟩ => chain_link (thn (hb pins s1 σ H1 _ I1 q1) fun u s2 ⟨y, H2, I2, r2, q2⟩ =>
    thn (ho pins s2 σ H2 x y v u _ I2 r1 r2 q2) fun d s3 ⟨z, H3, I3, r3, k, e, q3⟩ => ?_)) hm
  subst e
  cases r3
  refine wpAny_truthy_bool ?_
  cases k with
  | false => exact ite_ff ⟨.bl false, H3, I3, rfl, q3⟩
  | true => exact ite_tt (chain_last (thn (hc pins s3 σ H3 _ I3 q3) fun w' s4 ⟨z', H4, I4, r4, q4⟩ => ho' pins s4 σ H4 y z' u w' Q I4 r2 r4 q4))
/-! ### truth -/
theorem line63 : (sizeLine : Nat) < 2 ^ 63 := by rw [sizeLine_eq]; decide
/-! ### strs and bytes -/
theorem op_add_str : OpR X (binaryOp .Add) (fun x y H Q => ∃ i j, x = .str i ∧ y = .str j ∧ i.length + j.length ≤ sizeLine ∧ Q (.str (i ++ j)) H) := by
  intro pins s σ H x y v u Q I rx ry h
  obtain ⟨i, j, rfl, rfl, hz, q⟩ := h
  obtain ⟨t, rfl⟩ := rx
  obtain ⟨t', rfl⟩ := ry
  exact add_str (fun t' tk => ⟨.str (i ++ j), H, I.tok _, ⟨_, rfl⟩, q⟩) hz
/-! ### scalar builtins, by CallR -/
theorem vals1 {x : V} {us : List Value} (r : Vals [x] us) : ∃ u, us = [u] ∧ RelV x u := by
  cases r with
  | cons r1 r2 => cases r2; exact ⟨_, rfl, r1⟩
theorem call_int1 : CallR X (.type "int") (fun xs H Q => (∃ i, xs = [.int i] ∧ Q (.int i) H) ∨ ∃ k, xs = [.bl k] ∧ Q (.int (if k then 1 else 0)) H) := by
  intro pins s σ H xs us Q I r h
  rcases h with ⟨i, rfl, q⟩ | ⟨k, rfl, q⟩
  · obtain ⟨u, rfl, t, rfl⟩ := vals1 r
    exact call_int_int ⟨.int i, H, I, ⟨_, rfl⟩, q⟩
  · obtain ⟨u, rfl, r1⟩ := vals1 r
    cases r1
    exact call_int_bool ⟨.int (if k then 1 else 0), H, I.tok _, ⟨_, rfl⟩, q⟩
end
end L2

namespace L2
open PySem PySem.Spec PyProof.Rows

/-! ### an instance, its attributes a map -/
structure ObjM (h : Heap) (x dx C : Addr) (mA : Str → Option Value) : Prop where
  obj : h.get? x = some (PySem.W.instObj C dx)
  ns : h.Ns1 dx mA
  ne : dx ≠ x

theorem lookIn_ns {h : Heap} {dx : Addr} {mA : Str → Option Value} (n : h.Ns1 dx mA) : ∃ od, h.get? dx = some od ∧ ∀ name, PySem.W.lookIn name od = some (mA name) := by
  obtain ⟨o, es, ep, ho, hd, hk, _, hm⟩ := n
  refine ⟨o, ho, fun name => ?_⟩
  have e := hm name
  unfold nsFind findBy at e
  rw [← Array.find?_toList] at e
  unfold PySem.W.lookIn
  rw [hd]
  dsimp only
  split
  · rename_i y q
    rw [q] at e
    exact congrArg some e
  · rename_i q
    rw [q] at e
    have a : es.toList.any (·.refKey) = false := by
      rw [List.any_eq_false]
      intro y hy
      obtain ⟨z, t, hkey⟩ := hk y (Array.mem_toList_iff.mp hy)
      simp [DictEntry.refKey, hkey]
    have a' : ¬ es.toList.any (·.refKey) = true := by rw [a]; exact Bool.false_ne_true
    rw [if_neg a']
    exact congrArg some e

theorem ObjM.look {h : Heap} {x dx C : Addr} {mA : Str → Option Value} (I : ObjM h x dx C mA) : ∃ od, PySem.W.InstAt h x (PySem.W.instObj C dx) C (some od) ∧ ∀ name, PySem.W.lookIn name od = some (mA name) :=
  let ⟨od, ho, hl⟩ := lookIn_ns I.ns
  ⟨od, ⟨I.obj, rfl, rfl, ho⟩, hl⟩

section
variable {prog : Program} {w : World} {A : Around} {E : Value → Shared → Prop} {s : Shared} {K : PySem.W.Frag} {x dx C f : Addr} {mA : Str → Option Value} {name : Str} {v : Value}

theorem get_map {expr : Bool} {Q : Value → Shared → Prop} (X : K.In s.heap) (I : ObjM s.heap x dx C mA) (hg : PySem.W.plainGet K C name = true) (hh : PySem.W.hasDictIn K C = true)
    (ha : PySem.W.findIn K (.ref C) name = some none) (hv : mA name = some v) (hv' : PySem.W.handedIn v = true) (h : Q v { s with toks := s.toks + 1 }) :
    wpAny (model prog w) A (getAttr (.ref x) name expr) Q E s := by
  obtain ⟨od, J, hl⟩ := I.look
  exact PySem.W.get_value X J (PySem.W.plainGet_of hg).1 (PySem.W.findObj_own hh ha rfl (by rw [hl, hv])) hv' h

theorem set_map {ns : List Str} {Q : Unit → Shared → Prop} (X : K.In s.heap) (I : ObjM s.heap x dx C mA)
    (hs : PySem.W.findIn K (.ref C) "__setattr__" = some (some (.builtin "object.__setattr__"))) (hp : PySem.W.plainOver K C = true) (ht : PySem.W.takerIn K C name = some none) (hh : PySem.W.hasDictIn K C = true)
    (hw : PySem.Within mA ns) (hsz : ns.length ≤ sizeLine)
    (h : ∀ h', ObjM h' x dx C (fun y => if y = name then some v else mA y) → Heap.SameBut dx s.heap h' → Q () { s with heap := h', toks := s.toks + 2 }) :
    wpAny (model prog w) A (setAttr (.ref x) name v) Q E s := by
  obtain ⟨od, J, hl⟩ := I.look
  refine PySem.W.set_plain X J hs (PySem.W.osa_open (s := { s with toks := s.toks + 1 }) (r := none) X J hp ht fun b => ?_)
  obtain ⟨cd, hc, hd'⟩ := PySem.W.any_some hh
  have hx : s.heap.get? x = some ⟨.ref C, some dx, .plain, #[]⟩ := I.obj
  refine wpAny_bind (wpAny_pure (wpAny_bind (wpAny_bind (wpAny_loadPart hx (wpAny_bind (PySem.W.Looks.here (s := { s with toks := s.toks + 1 }) (PySem.W.looks_clsIn X hc) ?_))))))
  rw [hd']
  refine wpAny_pure (a := some dx) (wpAny_bind (wpAny_pure (wpAny_bind ?_)))
  refine wpAny_nsSet1 (s := { s with toks := s.toks + 1 }) I.ns fun h' hn2 hs2 => ?_
  obtain ⟨oD, esD, epD, hoD, hdD, hcD⟩ := hn2.count (PySem.Within.cons name v hw)
  refine wpAny_bind (wpAny_lookBehind hoD (by rw [hdD]; exact pastItsLine_dict (Nat.le_trans hcD (by rw [List.length_cons]; omega))) ?_)
  exact wpAny_pure (h _ ⟨(hs2.2 _ (Ne.symm I.ne)).trans I.obj, hn2, I.ne⟩ hs2)

/-- C(..): the dict at the heap's end, the instance behind it; then its __init__ -/
theorem make_map {R : Result → Shared → Prop} {vs : List Value} {kw : List (Str × Value)} (X : K.In s.heap) (hm : PySem.W.makesIn K C = true)
    (hi : PySem.W.findIn K (.ref C) "__init__" = some (some (.ref f))) (hf : PySem.W.typeIn K (.ref f) = some (.type "function"))
    (h : codeAny (model prog w) (A.under (.builtin "type.__call__" ⟨.ref C :: vs, kw⟩)) (.call (.ref f) ⟨.ref (s.heap.objs.size + 1) :: vs, kw⟩) (PySem.W.InitBack (s.heap.objs.size + 1) R)
      { s with heap := (s.heap.push PySem.W.emptyDict).push (PySem.W.instObj C s.heap.objs.size) }) :
    codeAny (model prog w) A (.call (.ref C) ⟨vs, kw⟩) R s := by
  obtain ⟨hh, g, d, t, os⟩ := s
  exact PySem.W.make_core (PySem.W.makes_of X hm) (PySem.W.looks_findIn X hi) (fun self => PySem.W.bind_fn X self hf) (.inl rfl) h
end

/-! ### the attributes as a list of pairs -/
def putF (f : Str) (v : V) : List (Str × V) → List (Str × V)
  | [] => [(f, v)]
  | (g, x) :: r => if g = f then (g, v) :: r else (g, x) :: putF f v r
theorem lookup_putF (f g : Str) (v : V) : ∀ fs : List (Str × V), (putF f v fs).lookup g = if g = f then some v else fs.lookup g
  | [] => by
    show List.lookup g [(f, v)] = _
    by_cases h : g = f
    · have hb : (g == f) = true := beq_iff_eq.mpr h
      simp only [List.lookup, hb, if_pos h]
    · have hb : (g == f) = false := beq_eq_false_iff_ne.mpr h
      simp only [List.lookup, hb, if_neg h]
  | (k, x) :: r => by
    have ih := lookup_putF f g v r
    rw [show putF f v ((k, x) :: r) = (if k = f then (k, v) :: r else (k, x) :: putF f v r) from rfl]
    by_cases hk : k = f
    · rw [if_pos hk]
      by_cases h : g = k
      · have hb : (g == k) = true := beq_iff_eq.mpr h
        simp only [List.lookup, hb, if_pos (h.trans hk)]
      · have hb : (g == k) = false := beq_eq_false_iff_ne.mpr h
        simp only [List.lookup, hb, if_neg (fun e : g = f => h (e.trans hk.symm))]
    · rw [if_neg hk]
      by_cases h : g = k
      · have hb : (g == k) = true := beq_iff_eq.mpr h
        simp only [List.lookup, hb, if_neg (fun e : g = f => hk (h.symm.trans e))]
      · have hb : (g == k) = false := beq_eq_false_iff_ne.mpr h
        simp only [List.lookup, hb]
        exact ih
theorem keys_putF (f : Str) (v : V) : ∀ fs : List (Str × V), f ∈ (putF f v fs).map (·.1) ∧ ∀ g, g ∈ fs.map (·.1) → g ∈ (putF f v fs).map (·.1)
  | [] => ⟨by simp [putF], fun g h => by simp at h⟩
  | (k, x) :: r => by
    obtain ⟨i1, i2⟩ := keys_putF f v r
    rw [show putF f v ((k, x) :: r) = (if k = f then (k, v) :: r else (k, x) :: putF f v r) from rfl]
    by_cases hk : k = f
    · rw [if_pos hk]
      subst hk
      exact ⟨by simp, fun g h => by simpa using h⟩
    · rw [if_neg hk]
      refine ⟨?_, fun g h => ?_⟩
      · rw [List.map_cons]
        exact List.mem_cons_of_mem _ i1
      · rw [List.map_cons] at h ⊢
        rcases List.mem_cons.mp h with e | e
        · exact List.mem_cons.mpr (.inl e)
        · exact List.mem_cons_of_mem _ (i2 g e)
theorem length_putF (f : Str) (v : V) : ∀ fs : List (Str × V), (putF f v fs).length ≤ fs.length + 1
  | [] => by simp [putF]
  | (k, x) :: r => by
    have ih := length_putF f v r
    rw [show putF f v ((k, x) :: r) = (if k = f then (k, v) :: r else (k, x) :: putF f v r) from rfl]
    by_cases hk : k = f
    · rw [if_pos hk, List.length_cons, List.length_cons]; omega
    · rw [if_neg hk, List.length_cons, List.length_cons]; omega

theorem RelO.some_of {v : V} {o : Option Value} (r : RelO (some v) o) : ∃ u, o = some u ∧ RelV v u := by
  cases o with
  | none => exact (show False from r).elim
  | some u => exact ⟨u, rfl, r⟩
theorem RelO.none_of {o : Option Value} (r : RelO none o) : o = none := by
  cases o with
  | none => rfl
  | some u => exact (show False from r).elim
theorem handed_of {v : V} {u : Value} (r : RelV v u) : PySem.W.handedIn u = true := by
  cases v with
  | non => cases (show u = Value.none from r); rfl
  | bl b => cases (show u = Value.bool b from r); rfl
  | int i => obtain ⟨t, e⟩ := (show ∃ t, u = Value.int i t from r); cases e; rfl
  | str x => obtain ⟨t, e⟩ := (show ∃ t, u = Value.str x t from r); cases e; rfl
  | byt b => obtain ⟨t, e⟩ := (show ∃ t, u = Value.bytes b t from r); cases e; rfl
  | flt b => obtain ⟨t, e⟩ := (show ∃ t, u = Value.float b t from r); cases e; rfl
  | ref a => cases (show u = Value.ref a from r); rfl
  | ty n => cases (show u = Value.type n from r); rfl

section
variable {P : Program} {w : World} {H H' : Hp} {h h' : Heap} {a C dx : Addr} {fs fs' : List (Str × V)}
theorem ins_get (hok : HOk P w H h) (e : H a = some (.ins C dx fs)) : ∃ mA, ObjM h a dx C mA ∧ (∀ f, RelO (fs.lookup f) (mA f)) ∧ PySem.Within mA (fs.map (·.1)) ∧ fs.length ≤ 1000 ∧ H dx = some (.own a) := by
  obtain ⟨d, z, ne, ob, mA, n, r, q⟩ := (show ObjOk P w H h a (.ins C dx fs) from hok a _ e)
  exact ⟨mA, ⟨ob, n, ne⟩, r, q, z, d⟩
end

/-! ### what of the text a class must have -/
structure Cls (K : PySem.W.Frag) (C : Addr) : Prop where
  pg : PySem.W.plainGet K C Str.empty = true
  hd : PySem.W.hasDictIn K C = true
  po : PySem.W.plainOver K C = true
  sa : PySem.W.findIn K (.ref C) "__setattr__" = some (some (.builtin "object.__setattr__"))
theorem Cls.get {K : PySem.W.Frag} {C : Addr} (c : Cls K C) (f : Str) : PySem.W.plainGet K C f = true := c.pg
/-- no class of it has the name -/
def NoAttr (K : PySem.W.Frag) (C : Addr) (f : Str) : Prop := PySem.W.findIn K (.ref C) f = some none
theorem NoAttr.taker {K : PySem.W.Frag} {C : Addr} {f : Str} (n : NoAttr K C f) : PySem.W.takerIn K C f = some none := by
  unfold PySem.W.takerIn
  rw [show PySem.W.findIn K (.ref C) f = some none from n]
  rfl
/-- a constant of the class -/
structure Con (K : PySem.W.Frag) (C : Addr) (f : Str) (v : V) (u : Value) : Prop where
  at_ : PySem.W.findIn K (.ref C) f = some (some u)
  rel : RelV v u
  get : PySem.W.specialIn K u "__get__" = some none
  cp : PySem.W.copiedNames.contains f = false
/-- a method: a plain def of the class or of one above it -/
structure Meth (K : PySem.W.Frag) (C : Addr) (m : Str) (f : Addr) : Prop where
  at_ : PySem.W.findIn K (.ref C) m = some (some (.ref f))
  fn : PySem.W.isFn K (.ref f) = true
  kp : PySem.W.keepIn K (.ref f) = true

section
variable {X : Cx} {pins : List (Addr × Obj)} {σ : St} {H : Hp} {s : Shared} {a C dx : Addr} {fs : List (Str × V)} {f : Str} {v : V} {A : Around} {E : Value → Shared → Prop}

theorem getattr_ok {b : Bool} {Q : Value → Shared → Prop} (I : Inv X pins σ H s) (e : H a = some (.ins C dx fs)) (c : Cls X.K C) (n : NoAttr X.K C f) (l : fs.lookup f = some v)
    (h : ∀ u s', Inv X pins σ H s' → RelV v u → Q u s') : wpAny (model X.prog X.w) A (getAttr (.ref a) f b) Q E s := by
  obtain ⟨mA, O, r, _, _, _⟩ := ins_get I.hok e
  obtain ⟨u, hu, ru⟩ := RelO.some_of (v := v) (o := mA f) (by rw [← l]; exact r f)
  exact get_map I.kIn O (c.get f) c.hd n hu (handed_of ru) (h u _ (I.tok _) ru)

theorem setattr_ok {y : V} {u : Value} {Q : Unit → Shared → Prop} (I : Inv X pins σ H s) (e : H a = some (.ins C dx fs)) (c : Cls X.K C) (n : NoAttr X.K C f) (hl : fs.length < 1000) (ry : RelV y u)
    (h : ∀ s', Inv X pins σ (upd H a (.ins C dx (putF f y fs))) s' → Q () s') : wpAny (model X.prog X.w) A (setAttr (.ref a) f u) Q E s := by
  obtain ⟨mA, O, r, wi, _, ho⟩ := ins_get I.hok e
  have hz : (fs.map (·.1)).length ≤ sizeLine := by rw [List.length_map, sizeLine_eq]; omega
  refine set_map I.kIn O c.sa c.po n.taker c.hd wi hz fun h' O' sb => h _ ?_
  have hd : ∃ o, h'.get? dx = some o := let ⟨o, _, _, e', _⟩ := O'.ns; ⟨o, e'⟩
  refine I.write (x := a) (e := dx) (by rw [e]; exact True.intro) (.inr ho) (fun b q hb z => (sb.2 b hb).trans z) hd ?_
  refine ⟨by rw [upd_ne O.ne]; exact ho, ?_, O.ne, O'.obj, _, O'.ns, fun g => ?_, fun g hg => ?_⟩
  · have := length_putF f y fs; omega
  · show RelO ((putF f y fs).lookup g) (if g = f then some u else mA g)
    rw [lookup_putF]
    by_cases q : g = f
    · rw [if_pos q, if_pos q]; exact ry
    · rw [if_neg q, if_neg q]; exact r g
  · by_cases q : g = f
    · rw [q]; exact (keys_putF f y fs).1
    · refine (keys_putF f y fs).2 g (wi g fun z => hg ?_)
      show (if g = f then some u else mA g) = none
      rw [if_neg q]; exact z

/-- a new instance, tracked, without attributes -/
theorem Inv.made (I : Inv X pins σ H s) : Inv X pins σ (upd (upd H s.heap.objs.size (.own (s.heap.objs.size + 1))) (s.heap.objs.size + 1) (.ins C s.heap.objs.size []))
    { s with heap := (s.heap.push PySem.W.emptyDict).push (PySem.W.instObj C s.heap.objs.size) } := by
  have e1 : (s.heap.push PySem.W.emptyDict).get? s.heap.objs.size = some PySem.W.emptyDict := Heap.get?_push_size s.heap rfl
  have e2 : ((s.heap.push PySem.W.emptyDict).push (PySem.W.instObj C s.heap.objs.size)).get? (s.heap.objs.size + 1) = some (PySem.W.instObj C s.heap.objs.size) := by
    have := Heap.get?_push_size (s.heap.push PySem.W.emptyDict) (o := PySem.W.instObj C s.heap.objs.size) rfl
    rwa [Heap.size_push] at this
  have e3 : (s.heap.push PySem.W.emptyDict).Ns s.heap.objs.size (fun _ => none) := ⟨PySem.W.emptyDict, #[], _, e1, rfl, (fun e he => absurd he (by simp)), fun _ => rfl⟩
  have I1 := I.laid (a := s.heap.objs.size) (o := .own (s.heap.objs.size + 1)) (h' := s.heap.push PySem.W.emptyDict) (t' := s.toks) (fun b u q => Heap.get?_push_of_some _ q) (Nat.le_refl _) ⟨_, e1⟩
  refine I1.laid (a := s.heap.objs.size + 1) (o := .ins C s.heap.objs.size []) (t' := s.toks) (fun b u q => Heap.get?_push_of_some _ q) (Nat.le_of_eq (Heap.size_push _ _)) ?_
  have ne : s.heap.objs.size ≠ s.heap.objs.size + 1 := Nat.ne_of_lt (Nat.lt_succ_self _)
  refine ⟨by rw [upd_ne ne, upd_same], Nat.zero_le _, ne, e2, fun _ => none, (Heap.Ns1.of_empty e3).at fun o q => Heap.get?_push_of_some _ q, fun _ => True.intro, fun y hy => absurd rfl hy⟩

/-- e.f where nothing but the object is asked: through attributeBase (super) and the last hold -/
theorem attr_of {prog : Program} {w : World} {env : Env} {e : Expr} {f : Str} {pos : Pos} {s : Shared} {Q : Value → Shared → Prop} (hb : attributeBase e f env (eval e env) = eval e env)
    (h : wpAny (model prog w) A (eval e env) (fun o s₁ => wpAny (model prog w) A (getAttr o f true) Q E s₁) E s) : wpAny (model prog w) A (eval (.Attribute e f pos) env) Q E s :=
  Attribute_any_ h (by rw [arm_eval_Attribute, hb])
end

/-! ### readings and rules -/
/-- e.f, an attribute of the instance -/
def tFld (K : PySem.W.Frag) (ta : TE) (f : Str) : TE := fun σ H Q => ta σ H fun x H1 => ∃ a C dx fs v, x = .ref a ∧ H1 a = some (.ins C dx fs) ∧ Cls K C ∧ NoAttr K C f ∧ fs.lookup f = some v ∧ Q v H1
/-- e.f = value -/
def sFld (K : PySem.W.Frag) (ta tv : TE) (f : Str) : TS := fun D σ H => tv σ H fun y H1 => ta σ H1 fun x H2 => ∃ a C dx fs, x = .ref a ∧ H2 a = some (.ins C dx fs) ∧ Cls K C ∧ NoAttr K C f ∧ fs.length < 1000 ∧
  D.nx σ (upd H2 a (.ins C dx (putF f y fs)))
section
variable {X : Cx} {o e value : Expr} {f : Str} {pos pos' tpos : Pos} {ta tv : TE}
theorem pe_fld (he : PE X e ta) (hb : attributeBase e f X.env (eval e X.env) = eval e X.env) : PE X (.Attribute e f pos) (tFld X.K ta f) := by
  intro pins s σ H Q I h
  refine attr_of hb (thn (he pins s σ H _ I h) fun u s1 ⟨x, H1, I1, rx, a, C, dx, fs, v, ex, ea, c, n, l, q⟩ => ?_)
  subst ex
  obtain rfl : u = Value.ref a := rx
  exact getattr_ok I1 ea c n l fun u' s2 I2 ru => ⟨v, H1, I2, ru, q⟩
theorem ps_fld (ha : PE X o ta) (hv : PE X value tv) (hs : swapsWith value (some (.Attribute o f pos')) pos.line X.env = pure false) : PS X (.Assign [.Attribute o f pos'] value pos) (sFld X.K ta tv f) := by
  intro pins s σ H D I h
  refine plainObj_wpAny_Assign_Attribute (thn (hv pins s σ H _ I h) fun u s1 ⟨y, H1, I1, ry, q⟩ => thn (ha pins s1 σ H1 _ I1 q) fun ov s2 ⟨x, H2, I2, rx, a, C, dx, fs, ex, ea, c, n, l, q2⟩ => ?_) hs
  subst ex
  obtain rfl : ov = Value.ref a := rx
  exact setattr_ok I2 ea c n l ry fun s3 I3 => ⟨σ, _, I3, q2⟩
end

/-! ### isinstance -/
section
variable {X : Cx} {pins : List (Addr × Obj)} {σ : St} {H : Hp} {s : Shared} {A : Around} {E : Value → Shared → Prop} {Q : Value → Shared → Prop} {c : Value} {b : Bool}
/-- the type of a value, as the fragment's deciders take it; for an instance its class -/
inductive TyOf (K : PySem.W.Frag) (H : Hp) : V → Value → Prop where
  | non : TyOf K H .non (.type "NoneType")
  | bl (x : Bool) : TyOf K H (.bl x) (.type "bool")
  | int (i : Int) : TyOf K H (.int i) (.type "int")
  | str (x : Str) : TyOf K H (.str x) (.type "str")
  | flt (x : UInt64) : TyOf K H (.flt x) (.type "float")
  | lst {a : Addr} {xs : List V} (e : H a = some (.lst xs)) : TyOf K H (.ref a) (.type "list")
  | frz {a : Addr} {o : Obj} {xs : List V} (e : H a = some (.frz o (.lst xs))) : TyOf K H (.ref a) (.type "list")
  | tup {a : Addr} {xs : List V} (e : H a = some (.tup xs)) : TyOf K H (.ref a) (.type "tuple")
  | dK {a : Addr} {kvs : List (Key × V)} (e : H a = some (.dK kvs)) : TyOf K H (.ref a) (.type "dict")
  | dT {a : Addr} {kvs : List (List Key × V)} (e : H a = some (.dT kvs)) : TyOf K H (.ref a) (.type "dict")
  | ins {a C dx : Addr} {fs : List (Str × V)} (e : H a = some (.ins C dx fs)) (cl : Cls K C) (ha : PySem.W.findIn K (.ref C) "__class__" = some (some (.builtin "object.__class__")))
      (hn : PySem.W.specialIn K (.builtin "object.__class__") "__get__" = some (some (.builtin "getset_descriptor.__get__"))) (htk : PySem.W.takesIn K (.builtin "object.__class__") = some true)
      (hm : PySem.W.mroIn K C (.type "object") = some true) : TyOf K H (.ref a) (.ref C)
/-- isinstance(x, c) for one class c, a built-in or an own one: kitOne's answer -/
theorem isinst_ok {x : V} {u t : Value} (I : Inv X pins σ H s) (rx : RelV x u) (ty : TyOf X.K H x t) (e : PySem.W.kitOne X.K t c = some b) (h : ∀ tk, Q (.bool b) { s with toks := tk }) :
    wpAny (model X.prog X.w) A (call (.builtin "isinstance") [u, c]) Q E s := by
  cases ty with
  | non => cases (show u = Value.none from rx); exact PySem.W.kia_one PySem.W.kitx_none I.kIn True.intro e (fun z => nomatch z) h
  | bl y => cases (show u = Value.bool y from rx); exact PySem.W.kia_one PySem.W.kitx_bool I.kIn True.intro e (fun z => nomatch z) h
  | int i => obtain ⟨t, q⟩ := (show ∃ t, u = Value.int i t from rx); cases q; exact PySem.W.kia_one PySem.W.kitx_int I.kIn True.intro e (fun z => nomatch z) h
  | str y => obtain ⟨t, q⟩ := (show ∃ t, u = Value.str y t from rx); cases q; exact PySem.W.kia_one PySem.W.kitx_str I.kIn True.intro e (fun z => nomatch z) h
  | flt y => obtain ⟨t, q⟩ := (show ∃ t, u = Value.float y t from rx); cases q; exact PySem.W.kia_one PySem.W.kitx_float I.kIn True.intro e (fun z => nomatch z) h
  | @lst a xs ea =>
    cases (show u = Value.ref a from rx)
    obtain ⟨_, _, n, _, h1⟩ := (show ObjOk X.prog X.w H s.heap a (.lst xs) from I.hok a _ ea)
    exact PySem.W.kia_one PySem.W.kitx_list I.kIn ⟨_, h1, rfl⟩ e (fun z => nomatch z) h
  | @frz a ob xs ea =>
    cases (show u = Value.ref a from rx)
    obtain ⟨_, _, _, n, _, h1⟩ := (show ObjOk X.prog X.w H s.heap a (.frz ob (.lst xs)) from I.hok a _ ea)
    exact PySem.W.kia_one PySem.W.kitx_list I.kIn ⟨_, h1, rfl⟩ e (fun z => nomatch z) h
  | @tup a xs ea =>
    cases (show u = Value.ref a from rx)
    obtain ⟨_, _, _, p⟩ := (show ObjOk X.prog X.w H s.heap a (.tup xs) from I.hok a _ ea)
    obtain ⟨o, h1, h2, _⟩ := p
    exact PySem.W.kia_one PySem.W.kitx_tuple I.kIn ⟨o, h1, h2⟩ e (fun z => nomatch z) h
  | @dK a kvs ea =>
    cases (show u = Value.ref a from rx)
    obtain ⟨_, _, vs, _, p⟩ := (show ObjOk X.prog X.w H s.heap a (.dK kvs) from I.hok a _ ea)
    obtain ⟨o, es, ep, h1, h2, _⟩ := p
    exact PySem.W.kia_one PySem.W.kitx_dict I.kIn ⟨o, h1, h2.1⟩ e (fun z => nomatch z) h
  | @dT a kvs ea =>
    cases (show u = Value.ref a from rx)
    obtain ⟨_, _, xs, _, o, es, ep, h1, h2, _⟩ := (show ObjOk X.prog X.w H s.heap a (.dT kvs) from I.hok a _ ea)
    exact PySem.W.kia_one PySem.W.kitx_dict I.kIn ⟨o, h1, h2.1⟩ e (fun z => nomatch z) h
  | @ins a C dx fs ea cl ha hn htk hm =>
    cases (show u = Value.ref a from rx)
    obtain ⟨mA, O, _⟩ := ins_get I.hok ea
    obtain ⟨od, J, _⟩ := O.look
    exact PySem.W.kia_one (PySem.W.kitx_own (cl.get _) cl.hd ha hn htk hm) I.kIn J e (fun z => nomatch z) h
end
end L2

namespace L2
open PySem PySem.Spec PyProof.Rows

/-! ### room -/
structure Room (k : Nat) (A : Around) : Prop where
  hd : A.handled = none
  dp : A.depth + 3 * k + 5 < recursionLimit
  un : A.units + 16 * k + 200 < cLine
theorem Room.mono {j k : Nat} {A : Around} (r : Room k A) (h : j ≤ k) : Room j A := ⟨r.hd, by have := r.dp; omega, by have := r.un; omega⟩
theorem Room.deeper {k : Nat} {A : Around} (r : Room (k + 1) A) (env : Env) : Room k (A.deeper env) :=
  ⟨r.hd, by have := r.dp; show A.depth + 1 + 3 * k + 5 < _; omega, by have := r.un; show A.units + 3 + 16 * k + 200 < _; omega⟩
theorem Room.in1 {k : Nat} {A : Around} (r : Room (k + 1) A) : Room k A.in1 :=
  ⟨r.hd, by have := r.dp; show A.depth + 3 * k + 5 < _; omega, by have := r.un; show A.units + 1 + 16 * k + 200 < _; omega⟩
theorem make_depth {A : Around} {C : Addr} {us : List Value} {kw : List (Str × Value)} : (A.under (.builtin "type.__call__" ⟨.ref C :: us, kw⟩)).depth = A.depth + 1 := by
  first | rfl | simp [Around.under, Code.weight, Code.isCreation, Code.isGuard, Code.isCaller, Code.frames, Code.isFrame, guardIds]
theorem make_units {A : Around} {C : Addr} {us : List Value} {kw : List (Str × Value)} : (A.under (.builtin "type.__call__" ⟨.ref C :: us, kw⟩)).units = A.units + 1 := by
  first | rfl | simp [Around.under, Code.cUnits, Code.frames, Code.isFrame]
theorem Room.make {k : Nat} {A : Around} (r : Room (k + 1) A) (C : Addr) (us : List Value) (kw : List (Str × Value)) : Room k (A.under (.builtin "type.__call__" ⟨.ref C :: us, kw⟩)) :=
  ⟨r.hd, by have := r.dp; rw [make_depth]; omega, by have := r.un; rw [make_units]; omega⟩
theorem Room.depth {k : Nat} {A : Around} (r : Room k A) : A.depth < recursionLimit := by have := r.dp; omega
theorem Room.units {k : Nat} {A : Around} (r : Room k A) : A.units + 64 < cLine := by have := r.un; omega
/-! ### argument lists and displays -/
def tNil : TA := fun _ H Q => Q [] H
def tCons (ta : TE) (tr : TA) : TA := fun σ H Q => ta σ H fun x H1 => tr σ H1 fun xs H2 => Q (x :: xs) H2
section
variable {X : Cx} {e : Expr} {es : List Expr} {te : TE} {t : TA} {pos : Pos}
theorem pa_nil : PA X [] tNil := fun _ _ _ _ H Q I h => Calls.spliced_nil ⟨[], H, I, .nil, h⟩
theorem pa_cons (ha : PE X e te) (hr : PA X es t) (hs : starEach (e :: es) X.env = (false, eval e X.env) :: starEach es X.env := by rfl) : PA X (e :: es) (tCons te t) := by
  intro pos pins s σ H Q I h
  rw [hs]
  show wpAny _ _ (spliced ((false, eval e X.env) :: backTo pos (starEach es X.env))) _ _ s
  refine Calls.spliced_cons (thn (ha pins s σ H _ I h) fun u s1 ⟨x, H1, I1, r1, q1⟩ => ?_)
  exact thn (hr pos pins s1 σ H1 _ I1 q1) fun us s2 ⟨xs, H2, I2, r2, q2⟩ => ⟨x :: xs, H2, I2, .cons r1 r2, q2⟩

/-- a tuple, a list of written items -/
def tTup (t : TA) : TE := fun σ H Q => t σ H fun xs H1 => xs.length ≤ sizeLine ∧ ∀ p, H1 p = none → Q (.ref p) (upd H1 p (.tup xs))
def tLst (t : TA) : TE := fun σ H Q => t σ H fun xs H1 => xs.length ≤ sizeLine ∧ ∀ p, H1 p = none → Q (.ref p) (upd H1 p (.lst xs))
theorem pe_tup {x1} (h : PA X es t) : PE X (.Tuple es x1 pos) (tTup t) := by
  intro pins s σ H Q I hq
  refine wpAny_Tuple_spliced (thn (h pos pins s σ H _ I hq) fun us s1 ⟨xs, H1, I1, r, z, q⟩ => ⟨by rw [← r.length]; exact z, ?_⟩)
  have hf : H1 s1.heap.objs.size = none := I1.hok.fresh (Nat.le_refl _)
  refine ⟨.ref s1.heap.objs.size, upd H1 s1.heap.objs.size (.tup xs), I1.laid (t' := s1.toks) (fun b u e => Heap.get?_push_of_some _ e) (Nat.le_refl _) ?_, rfl, q _ hf⟩
  exact ⟨z, us, r, ⟨_, Heap.get?_push_size _ rfl, rfl, _, rfl⟩⟩
theorem pe_lst (h : PA X es t) : PE X (.List es pos) (tLst t) := by
  intro pins s σ H Q I hq
  refine wpAny_List_spliced (thn (h pos pins s σ H _ I hq) fun us s1 ⟨xs, H1, I1, r, z, q⟩ => ⟨by rw [← r.length]; exact z, ?_⟩)
  have hf : H1 s1.heap.objs.size = none := I1.hok.fresh (Nat.le_refl _)
  refine ⟨.ref s1.heap.objs.size, upd H1 s1.heap.objs.size (.lst xs), I1.laid (t' := s1.toks) (fun b u e => Heap.get?_push_of_some _ e) (Nat.le_refl _) ?_, rfl, q _ hf⟩
  exact ⟨z, us, 0, r, Heap.get?_push_size _ rfl⟩
end

/-! ### what a def promises -/
/-- a def's promise: the bound arguments in the parameters' order, the heap, the wanted end, the wanted exception -/
abbrev Sp := List V → Hp → VK → XK → Prop
/-- how an exception lies behind a call (file 08 gives it): the callers' frames, abstract heap and state ahead of the call, the wish, the exception, the state -/
abbrev CXT := List Env → Hp → Shared → XK → Value → Shared → Prop

/-- the state at a call -/
structure Env0 (P : Program) (w : World) (K : PySem.W.Frag) (mg : Str → Option Value) (base : Heap) (A : Around) (outer : List Env) (s : Shared) (H : Hp) : Prop where
  frames : A.frames = some outer
  mod : Mod K mg base
  bs : ∀ b o, base.get? b = some o → s.heap.get? b = some o ∧ H b = none
  bsz : base.objs.size ≤ s.heap.objs.size
  funs : s.heap.FunFrames base outer
  frf : ∀ b ∈ frs outer, H b = none
  hok : HOk P w H s.heap
  bare : AllBare s.gens
/-- a call's end -/
def CE (outer : List Env) (P : Program) (w : World) (H : Hp) (s : Shared) (Q : VK) (u : Value) (s' : Shared) : Prop :=
  ∃ v H', s'.os = s.os ∧ AllBare s'.gens ∧ Un (frs outer) [] H H' s.heap s'.heap ∧ HOk P w H' s'.heap ∧ RelV v u ∧ Q v H'
def CR (CX : CXT) (outer : List Env) (P : Program) (w : World) (H : Hp) (s : Shared) (Q : VK) (E : XK) (r : Result) (s' : Shared) : Prop :=
  match r with
  | .ok (.ret u) => CE outer P w H s Q u s'
  | .ok _ => False
  | .error e => CX outer H s E e s'
structure FnOk (P : Program) (w : World) (K : PySem.W.Frag) (mg : Str → Option Value) (base : Heap) (CX : CXT) (k : Nat) (f : Addr) (fd : FuncData) (ps : List Str) (sp : Sp) : Prop where
  len : ∀ vs H Q E, sp vs H Q E → vs.length = ps.length
  run : ∀ (A : Around) (outer : List Env) (s : Shared) (H : Hp) (args : Args) (us : List Value) (vs : List V) (Q : VK) (E : XK), Room k A → Env0 P w K mg base A outer s H → BindsTo s fd args (ps.zip us) → Vals vs us → sp vs H Q E →
    codeAny (model P w) A (.call (.ref f) args) (CR CX outer P w H s Q E) s
theorem FnOk.mono {P : Program} {w : World} {K : PySem.W.Frag} {mg : Str → Option Value} {base : Heap} {CX : CXT} {j k : Nat} {f : Addr} {fd : FuncData} {ps : List Str} {sp : Sp} (F : FnOk P w K mg base CX j f fd ps sp) (h : j ≤ k) :
    FnOk P w K mg base CX k f fd ps sp := ⟨F.len, fun A outer s H args us vs Q E hr => F.run A outer s H args us vs Q E (hr.mono h)⟩
/-- a weaker promise -/
theorem FnOk.imp {P : Program} {w : World} {K : PySem.W.Frag} {mg : Str → Option Value} {base : Heap} {CX : CXT} {k : Nat} {f : Addr} {fd : FuncData} {ps : List Str} {sp sp' : Sp} (F : FnOk P w K mg base CX k f fd ps sp)
    (h : ∀ vs H Q E, sp' vs H Q E → sp vs H Q E) : FnOk P w K mg base CX k f fd ps sp' :=
  ⟨fun vs H Q E q => F.len vs H Q E (h _ _ _ _ q), fun A outer s H args us vs Q E hr he hb hv hs => F.run A outer s H args us vs Q E hr he hb hv (h _ _ _ _ hs)⟩

theorem Env0.make {P : Program} {w : World} {K : PySem.W.Frag} {mg : Str → Option Value} {base : Heap} {A : Around} {outer : List Env} {s : Shared} {H : Hp} (e : Env0 P w K mg base A outer s H) (C : Addr) (us : List Value) (kw : List (Str × Value)) :
    Env0 P w K mg base (A.under (.builtin "type.__call__" ⟨.ref C :: us, kw⟩)) outer s H := ⟨by first | exact e.frames | (simpa [Around.under, Code.envs, Code.isFrame, pushEnvs] using e.frames), e.mod, e.bs, e.bsz, e.funs, e.frf, e.hok, e.bare⟩
theorem Env0.in1 {P : Program} {w : World} {K : PySem.W.Frag} {mg : Str → Option Value} {base : Heap} {A : Around} {outer : List Env} {s : Shared} {H : Hp} (e : Env0 P w K mg base A outer s H) :
    Env0 P w K mg base A.in1 outer s H := ⟨e.frames, e.mod, e.bs, e.bsz, e.funs, e.frf, e.hok, e.bare⟩

section
variable {X : Cx} {pins : List (Addr × Obj)} {σ : St} {H : Hp} {s s' : Shared}
/-- from a body: what a callee wants -/
theorem Inv.env0 (I : Inv X pins σ H s) : Env0 X.prog X.w X.K X.mg X.base X.A X.stack s H :=
  ⟨I.ok.frames, I.ok.mod, I.bs, Nat.le_trans I.ok.bsz I.sz, I.stack, I.stkFree, I.hok, I.bare⟩
/-- behind a call -/
theorem Inv.after {Q : VK} {u : Value} (I : Inv X pins σ H s) (h : CE X.stack X.prog X.w H s Q u s') : EP X pins σ Q u s' := by
  obtain ⟨v, H', os, bare, un, hok, r, q⟩ := h
  obtain ⟨hh, g, d, t, os'⟩ := s'
  obtain rfl : os' = s.os := os
  exact ⟨v, H', I.call (h' := hh) (g' := g) (d' := d) (t' := t) (ch := []) un hok bare (fun b z => absurd z (by simp)), r, q⟩
end

/-! ### calls -/
/-- f(..): the written arguments, then the defaults dvs; E: what is wanted of an exception -/
def tCall (sp : Sp) (dvs : List V) (E : XK) (t : TA) : TE := fun σ H Q => t σ H fun vs H1 => sp (vs ++ dvs) H1 Q E
/-- C(..): a new instance and its dict, then __init__ -/
def tMake (C : Addr) (sp : Sp) (dvs : List V) (E : XK) (t : TA) : TE := fun σ H Q => t σ H fun vs H1 => ∀ x dx, H1 x = none → H1 dx = none → dx ≠ x →
  sp (.ref x :: (vs ++ dvs)) (upd (upd H1 dx (.own x)) x (.ins C dx [])) (fun v H2 => v = .non ∧ Q (.ref x) H2) E

/-- how the parameters are bound: us the positional arguments, kw the keywords' values by name, ds the defaults that fill up -/
def Binds (K : PySem.W.Frag) (fd : FuncData) (ps : List Str) (ds : List Value) : Prop :=
  ∀ (s : Shared) (us : List Value), K.In s.heap → (us ++ ds).length = ps.length → BindsTo s fd ⟨us, []⟩ (ps.zip (us ++ ds))
/-- every parameter is given -/
theorem Binds.all {K : PySem.W.Frag} {fd : FuncData} {ps : List Str} (h : ∀ us : List Value, us.length = ps.length → bindArgs fd ⟨us, []⟩ = pure (ps.zip us)) : Binds K fd ps [] := fun s us _ hl => by
  rw [List.append_nil] at hl ⊢
  exact .of_eq (h us hl)

/-- an exception of a callee reaches what this body wants of exceptions -/
def Passes (CX : CXT) (X : Cx) (E : XK) : Prop := ∀ (pins : List (Addr × Obj)) (σ : St) (H : Hp) (s : Shared) (e : Value) (s' : Shared), Inv X pins σ H s → CX X.stack H s E e s' → X.xe e s'

section
variable {X : Cx} {CX : CXT} {k : Nat} {f C : Addr} {fd : FuncData} {ps : List Str} {sp : Sp} {dvs : List V} {ds : List Value} {E : XK} {x m : Str} {p pos apos : Pos} {e o : Expr} {es : List Expr} {ta : TE} {t : TA}

/-- the callee runs -/
theorem run_fn {pins : List (Addr × Obj)} {σ : St} {H : Hp} {s : Shared} {Q : VK} {us : List Value} {vs : List V} (F : FnOk X.prog X.w X.K X.mg X.base CX k f fd ps sp) (hr : Room k X.A) (hb : Binds X.K fd ps ds) (hd : Vals dvs ds) (hx : Passes CX X E)
    (I : Inv X pins σ H s) (r : Vals vs us) (h : sp (vs ++ dvs) H Q E) : wpAny (model X.prog X.w) X.A (call (.ref f) us) (EP X pins σ Q) X.xe s := by
  have r2 : Vals (vs ++ dvs) (us ++ ds) := r.append hd
  have hl : (us ++ ds).length = ps.length := by rw [← r2.length]; exact F.len _ _ _ _ h
  refine wpAny_call (codeAny_mono (F.run X.A X.stack s H ⟨us, []⟩ (us ++ ds) (vs ++ dvs) Q E hr I.env0 (hb s us I.kIn hl) r2 h) fun r s' hq => ?_)
  cases r with
  | error e => exact hx pins σ H s e s' I hq
  | ok fl =>
    cases fl with
    | ret u => exact I.after hq
    | next => exact False.elim hq
    | brk => exact False.elim hq
    | cont => exact False.elim hq

theorem pe_call (F : FnOk X.prog X.w X.K X.mg X.base CX k f fd ps sp) (hr : Room k X.A) (hg : Gl X x) (hm : X.mg x = some (.ref f)) (hk : PySem.W.keepIn X.K (.ref f) = true) (hb : Binds X.K fd ps ds) (hd : Vals dvs ds) (hx : Passes CX X E)
    (ha : PA X (e :: es) t) (hdb : (x == ("__debug__" : Str)) = false := by decide) (he : starEach (e :: es) X.env = (false, eval e X.env) :: starEach es X.env := by rfl) (hpl : (backTo pos (starEach es X.env)).any (·.1) = false := by rfl) :
    PE X (.Call (.Name x p) (e :: es) [] pos) (tCall sp dvs E t) := by
  intro pins s σ H Q I h
  refine wpAny_Call_Name_kw (ld_glob I hg hm ?_ hdb)
  refine PySem.W.callWith_K (h₀ := X.base) I.ok.mod.kin hk (thn (ha pos pins s σ H _ I h) fun us s1 ⟨vs, H1, I1, r, q⟩ => ⟨I1.kIn, ?_⟩) he hpl
  exact run_fn F hr hb hd hx I1 r q
/-- what a class must have to be made -/
structure Mk (K : PySem.W.Frag) (C f : Addr) : Prop where
  makes : PySem.W.makesIn K C = true
  init : PySem.W.findIn K (.ref C) "__init__" = some (some (.ref f))
  fn : PySem.W.isFn K (.ref f) = true
  kp : PySem.W.keepIn K (.ref C) = true

theorem run_make {pins : List (Addr × Obj)} {σ : St} {H : Hp} {s : Shared} {Q : VK} {us : List Value} {vs : List V} (M : Mk X.K C f) (F : FnOk X.prog X.w X.K X.mg X.base CX k f fd ps sp) (hr : Room (k + 1) X.A) (hb : Binds X.K fd ps ds) (hd : Vals dvs ds)
    (hx : Passes CX X E) (I : Inv X pins σ H s) (r : Vals vs us)
    (h : ∀ x dx, H x = none → H dx = none → dx ≠ x → sp (.ref x :: (vs ++ dvs)) (upd (upd H dx (.own x)) x (.ins C dx [])) (fun v H2 => v = .non ∧ Q (.ref x) H2) E) :
    wpAny (model X.prog X.w) X.A (call (.ref C) us) (EP X pins σ Q) X.xe s := by
  have hq := h (s.heap.objs.size + 1) s.heap.objs.size (I.hok.fresh (Nat.le_succ _)) (I.hok.fresh (Nat.le_refl _)) (Nat.ne_of_lt (Nat.lt_succ_self _))
  have I2 := Inv.made (C := C) I
  have r2 : Vals (V.ref (s.heap.objs.size + 1) :: (vs ++ dvs)) (Value.ref (s.heap.objs.size + 1) :: (us ++ ds)) := .cons rfl (r.append hd)
  have hl : (Value.ref (s.heap.objs.size + 1) :: us ++ ds).length = ps.length := by
    have e := r2.length
    rw [F.len _ _ _ _ hq] at e
    exact e.symm
  refine wpAny_call (make_map (f := f) I.kIn M.makes M.init (beq_iff_eq.mp M.fn) (codeAny_mono (F.run _ X.stack _ _ ⟨Value.ref (s.heap.objs.size + 1) :: us, []⟩ (Value.ref (s.heap.objs.size + 1) :: (us ++ ds)) _ _ E (hr.make C us [])
    (I2.env0.make C us []) (hb _ (Value.ref (s.heap.objs.size + 1) :: us) I2.kIn hl) r2 hq) fun r s' hq' => ?_))
  cases r with
  | error e => exact hx pins σ _ _ e s' I2 hq'
  | ok fl =>
    cases fl with
    | ret u =>
      obtain ⟨v, H', I3, rv, ev, q3⟩ := I2.after hq'
      subst ev
      exact ⟨rv, ⟨V.ref (s.heap.objs.size + 1), H', I3, rfl, q3⟩⟩
    | next => exact False.elim hq'
    | brk => exact False.elim hq'
    | cont => exact False.elim hq'
theorem pe_make (M : Mk X.K C f) (F : FnOk X.prog X.w X.K X.mg X.base CX k f fd ps sp) (hr : Room (k + 1) X.A) (hg : Gl X x) (hm : X.mg x = some (.ref C)) (hb : Binds X.K fd ps ds) (hd : Vals dvs ds) (hx : Passes CX X E)
    (ha : PA X (e :: es) t) (hdb : (x == ("__debug__" : Str)) = false := by decide) (he : starEach (e :: es) X.env = (false, eval e X.env) :: starEach es X.env := by rfl) (hpl : (backTo pos (starEach es X.env)).any (·.1) = false := by rfl) :
    PE X (.Call (.Name x p) (e :: es) [] pos) (tMake C sp dvs E t) := by
  intro pins s σ H Q I h
  refine wpAny_Call_Name_kw (ld_glob I hg hm ?_ hdb)
  refine PySem.W.callWith_K (h₀ := X.base) I.ok.mod.kin M.kp (thn (ha pos pins s σ H _ I h) fun us s1 ⟨vs, H1, I1, r, q⟩ => ⟨I1.kIn, ?_⟩) he hpl
  exact run_make M F hr hb hd hx I1 r q
end

/-! ### keywords -/
section
variable {X : Cx} {CX : CXT} {k : Nat} {f C : Addr} {fd : FuncData} {ps ks : List Str} {sp : Sp} {E : XK} {x m : Str} {p pos apos kpos : Pos} {e o : Expr} {es : List Expr} {kws : List Keyword} {te ta : TE} {t tk : TA} {nm : Option Str}
/-- how a call with keywords binds: g puts the positional values us and the keywords' values ws (names ks) in the parameters' order, defaults among them -/
structure KBinds (K : PySem.W.Frag) (fd : FuncData) (ps ks : List Str) (g : List Value → List Value → List Value) (gV : List V → List V → List V) : Prop where
  to : ∀ (s : Shared) (us ws : List Value), K.In s.heap → (g us ws).length = ps.length → BindsTo s fd ⟨us, ks.zip ws⟩ (ps.zip (g us ws))
  rel : ∀ {vs : List V} {us : List Value} {zs : List V} {ws : List Value}, Vals vs us → Vals zs ws → Vals (gV vs zs) (g us ws)
variable {g : List Value → List Value → List Value} {gV : List V → List V → List V}
end

/-! ### a def's body keeps its promise -/
/-- names: the parameters first -/
structure FnScope (N P : List Str) (sc : Scope) : Prop where
  kind : sc.kind = .function
  co : sc.isCoroutine = false
  gen : sc.isGenerator = false
  nd : N.Nodup
  pre : N.take P.length = P
  par : ∀ x ∈ P, sc.names.lookup x = some .local ∨ sc.names.lookup x = some .cell
  nofree : ∀ y ∈ sc.names, y.2 ≠ .free

theorem bindL_out {kindOf : Str → Option NameKind} {x : Str} : ∀ {binds : List (Str × Value)} {m : Str → Option Value}, (∀ v, (x, v) ∉ binds) → bindL kindOf binds m x = m x
  | [], _, _ => rfl
  | (n, v) :: r, m, h => by
    unfold bindL
    rw [bindL_out fun w hw => h w (List.mem_cons_of_mem _ hw)]
    split
    · have : x ≠ n := by rintro rfl; exact h v List.mem_cons_self
      simp [this]
    · rfl
theorem bindC_out {kindOf : Str → Option NameKind} {x : Str} : ∀ {binds : List (Str × Value)} {m : Str → Option Value}, (∀ v, (x, v) ∉ binds) → bindC kindOf binds m x = m x
  | [], _, _ => rfl
  | (n, v) :: r, m, h => by
    unfold bindC
    rw [bindC_out fun w hw => h w (List.mem_cons_of_mem _ hw)]
    split
    · rfl
    · have : x ≠ n := by rintro rfl; exact h v List.mem_cons_self
      simp [this]
theorem bindL_get {kindOf : Str → Option NameKind} {x : Str} {v : Value} : ∀ {P : List Str} {vs : List Value} {i : Nat} {m : Str → Option Value}, P.Nodup → P[i]? = some x → vs[i]? = some v → kindOf x = some .local →
    bindL kindOf (P.zip vs) m x = some v
  | [], _, _, _, _, h, _, _ => by simp at h
  | _ :: _, [], _, _, _, _, h, _ => by simp at h
  | p :: P, w :: vs, 0, m, nd, h1, h2, hk => by
    simp at h1 h2; subst h1; subst h2
    show bindL kindOf ((p, w) :: P.zip vs) m p = _
    unfold bindL
    rw [bindL_out fun v hv => (List.nodup_cons.mp nd).1 (List.of_mem_zip hv).1, if_pos hk]
    simp
  | p :: P, w :: vs, i + 1, m, nd, h1, h2, hk => by
    show bindL kindOf ((p, w) :: P.zip vs) m x = _
    unfold bindL
    exact bindL_get (i := i) (List.nodup_cons.mp nd).2 (by simpa using h1) (by simpa using h2) hk
theorem bindC_get {kindOf : Str → Option NameKind} {x : Str} {v : Value} : ∀ {P : List Str} {vs : List Value} {i : Nat} {m : Str → Option Value}, P.Nodup → P[i]? = some x → vs[i]? = some v → kindOf x ≠ some .local →
    bindC kindOf (P.zip vs) m x = some v
  | [], _, _, _, _, h, _, _ => by simp at h
  | _ :: _, [], _, _, _, _, h, _ => by simp at h
  | p :: P, w :: vs, 0, m, nd, h1, h2, hk => by
    simp at h1 h2; subst h1; subst h2
    show bindC kindOf ((p, w) :: P.zip vs) m p = _
    unfold bindC
    rw [bindC_out fun v hv => (List.nodup_cons.mp nd).1 (List.of_mem_zip hv).1, if_neg hk]
    simp
  | p :: P, w :: vs, i + 1, m, nd, h1, h2, hk => by
    show bindC kindOf ((p, w) :: P.zip vs) m x = _
    unfold bindC
    exact bindC_get (i := i) (List.nodup_cons.mp nd).2 (by simpa using h1) (by simpa using h2) hk

/-- the names' values at the entry -/
def start (N : List Str) (vs : List V) : St := vs.map some ++ List.replicate (N.length - vs.length) none

/-- the context of a def's body, at its entry; an exception leaves the frame, then lies as CX says -/
def cxOf (CX : CXT) (P : Program) (w : World) (K : PySem.W.Frag) (mg : Str → Option Value) (base : Heap) (N : List Str) (qual : Str) (scope : Scope) (f : Addr) (cd : Value) (A : Around) (outer : List Env) (s : Shared) (H : Hp) (E : XK) : Cx where
  prog := P
  w := w
  K := K
  mg := mg
  base := base
  A := A.deeper (envOfC qual scope s.heap.objs.size f cd)
  N := N
  s₀ := s
  H₀ := H
  env := envOfC qual scope s.heap.objs.size f cd
  outer := outer
  stack := envOfC qual scope s.heap.objs.size f cd :: outer
  ex := []
  calm := true
  fn := fun _ => true
  pn := []
  xe := fun e s' => wpAny (model P w) (A.deeper (envOfC qual scope s.heap.objs.size f cd)) (leaving (envOfC qual scope s.heap.objs.size f cd) e) (fun _ s'' => CX outer H s E e s'') (fun e' s'' => CX outer H s E e' s'') s'

theorem cell_has {sc : Scope} {n : Nat} {x : Str} (h : sc.names.lookup x = some .cell) : ∃ c, (cellsFrom n sc.names []).lookup x = some c := by
  have q := PySem.W.cellsFrom_some sc.names n [] (.inl h)
  exact Option.isSome_iff_exists.mp q

theorem inv_start {CX : CXT} {P : Program} {w : World} {K : PySem.W.Frag} {mg : Str → Option Value} {base : Heap} {N ps : List Str} {qual : Str} {scope : Scope} {f : Addr} {cd : Value} {A : Around} {outer : List Env} {s s1 : Shared} {H : Hp} {E : XK} {us : List Value} {vs : List V}
    (S : FnScope N ps scope) (hd : A.handled = none) (e0 : Env0 P w K mg base A outer s H) (hl : vs.length = ps.length) (r : Vals vs us)
    (x : InCallC s s.heap.objs.size (bindL (envOfC qual scope s.heap.objs.size f cd).kindOf (ps.zip us) fun _ => none) (cellsFrom (s.heap.objs.size + 1) scope.names []) (bindC (envOfC qual scope s.heap.objs.size f cd).kindOf (ps.zip us) fun _ => none) s1) :
    Inv (cxOf CX P w K mg base N qual scope f cd A outer s H E) [] (start N vs) H s1 := by
  have hpl : ps.length ≤ N.length := by have := congrArg List.length S.pre; rw [List.length_take] at this; omega
  obtain ⟨h1, tk, rfl, hk⟩ := x.done
  have noA : ∀ b : Addr, b ∉ (cxOf CX P w K mg base N qual scope f cd A outer s H E).ex := fun b z => absurd (show b ∈ ([] : List Addr) from z) (by simp)
  refine ⟨⟨e0.mod, S.kind, rfl, rfl, Nat.le_refl _, fun y z c h1 h2 => ?_, fun y hy => ?_, fun y c _ h => ?_, fun _ => hd, Around.frames_deeper e0.frames, .inr ⟨rfl, rfl⟩, fun b z => absurd z (noA b), e0.bs, e0.bsz, fun b _ _ => noA b, fun b z => absurd z (noA b), e0.funs, e0.frf⟩,
    rfl, e0.bare, Un.kept hk, ⟨_, x.toInCall.ns, fun i y v h1 h2 h3 => ?_⟩, fun y c h => ⟨_, x.cell y c h⟩, e0.hok.fresh (Nat.le_refl _), fun y c h => ?_, fun p hp => absurd (show p ∈ ([] : List (Addr × Obj)) from hp) (by simp), e0.hok.kept hk, ?_⟩
  · exact name_of_addr x.apart (PySem.mem_of_lookup h1) (PySem.mem_of_lookup h2)
  · have hy : scope.names.lookup y = some .cell ∨ scope.names.lookup y = some .free := hy
    rcases hy with hy | hy
    · exact cell_has hy
    · exact absurd rfl (S.nofree _ (PySem.mem_of_lookup hy))
  · exact Nat.le_of_lt (x.above y c (PySem.mem_of_lookup h))
  · have hi : i < vs.length := by
      unfold start at h2
      by_cases hi : i < vs.length
      · exact hi
      · rw [List.getElem?_append_right (by simpa using hi)] at h2
        rw [List.getElem?_replicate] at h2
        split at h2 <;> cases h2
    have ha : vs[i]? = some v := by
      unfold start at h2
      rw [List.getElem?_append_left (by simpa using hi), List.getElem?_map] at h2
      cases e : vs[i]? with
      | none => rw [e] at h2; cases h2
      | some a => rw [e] at h2; cases h2; rfl
    obtain ⟨u, hu, rv⟩ := r.get ha
    have hp : ps[i]? = some y := by
      rw [← S.pre, List.getElem?_take_of_lt (by omega)]; exact h1
    have ndP : ps.Nodup := by rw [← S.pre]; exact S.nd.sublist (List.take_sublist _ _)
    refine ⟨u, rv, ?_⟩
    rcases S.par y (List.mem_of_getElem? hp) with k | k
    · exact .inl ⟨k, bindL_get ndP hp hu k⟩
    · obtain ⟨c, e⟩ := cell_has (n := s.heap.objs.size + 1) k
      refine .inr ⟨.inl k, c, e, ?_⟩
      have q := x.cell y c e
      rw [bindC_get ndP hp hu (by show scope.names.lookup y ≠ _; rw [k]; decide)] at q
      exact q
  · exact e0.hok.fresh (Nat.le_of_lt (x.above y c (PySem.mem_of_lookup h)))
  · unfold start
    show _ = N.length
    rw [List.length_append, List.length_map, List.length_replicate]
    omega

/-- THE RULE: a def (or a method) of the text, by its body. The body's reading t is chosen for each entry; it is run at the parameters' values -/
theorem fn_of {CX : CXT} {P : Program} {w : World} {K : PySem.W.Frag} {mg : Str → Option Value} {base : Heap} {k : Nat} {f : Addr} {name qual : Str} {params : Arguments} {body : List Stmt} {scope : Scope} {dV kV doc pm cdv ct oc : Value} {an od : Option Addr}
    {osl : Array (Option Value)} {N ps : List Str} {sp : Sp} (lk : K.lookup f = some ⟨oc, od, .func (PySem.W.fnOf name qual params body scope dV kV doc pm an cdv ct), osl⟩) (hcd : PySem.W.codeIn K cdv qual = true) (S : FnScope N ps scope)
    (len : ∀ vs H Q E, sp vs H Q E → vs.length = ps.length)
    (hbody : ∀ (A : Around) (outer : List Env) (s : Shared) (H : Hp) (vs : List V) (Q : VK) (E : XK), Room k (A.deeper (envOfC qual scope s.heap.objs.size f cdv)) → sp vs H Q E →
      ∃ t, PSs (cxOf CX P w K mg base N qual scope f cdv A outer s H E) body t ∧ t { nx := fun _ H' => Q .non H', rt := Q } (start N vs) H) :
    FnOk P w K mg base CX (k + 1) f (PySem.W.fnOf name qual params body scope dV kV doc pm an cdv ct) ps sp := by
  refine ⟨len, fun A outer s H args us vs Q E hr e0 hb r hsp => ?_⟩
  have hl := len _ _ _ _ hsp
  have KX : K.In s.heap := e0.mod.kin.keeps fun b o e => (e0.bs b o e).1
  have lim : s.heap.NoLimit := e0.mod.nolimit.keeps fun b o e => (e0.bs b o e).1
  have hkind : ∀ y ∈ ps.zip us, scope.names.lookup y.1 = some .local ∨ (scope.names.lookup y.1 = some .cell ∧ ((cellsFrom (s.heap.objs.size + 1) scope.names []).lookup y.1).isSome = true) := fun ⟨n, v⟩ hy => by
    rcases S.par n (List.of_mem_zip hy).1 with q | q
    · exact .inl q
    · exact .inr ⟨q, PySem.W.cellsFrom_some _ _ _ (.inl q)⟩
  refine codeAny_call_function hr.depth (KX _ _ lk) rfl S.co S.gen rfl (PySem.W.codeRec_of KX hcd) (hb _ _ _ _ ?_)
  refine wpAny_newFunctionEnv_cells S.kind hkind fun env he s1 x => ?_
  subst he
  refine ⟨lim.keeps x.toInCall.keep, codeAny_func ?_⟩
  obtain ⟨t, ht, hq⟩ := hbody A outer s H vs Q E (hr.deeper _) hsp
  have I : Inv (cxOf CX P w K mg base N qual scope f cdv A outer s H E) [] (start N vs) H s1 := inv_start S hr.hd e0 hl r x
  refine wpAny_mono (ht [] s1 (start N vs) H _ I hq) (fun fl s' hs => ?_) fun e s' hs => hs
  have fin : ∀ {σ' : St} {H' : Hp} {v : V} {u : Value}, Inv (cxOf CX P w K mg base N qual scope f cdv A outer s H E) [] σ' H' s' → RelV v u → Q v H' → CE outer P w H s Q u s' :=
    fun {σ' H' v u} J rv q => ⟨v, H', J.os, J.bare, J.base, J.hok, rv, q⟩
  cases fl with
  | ret u =>
    obtain ⟨v, σ', H', J, rv, q⟩ := hs
    exact fin J rv q
  | next =>
    obtain ⟨σ', H', J, q⟩ := hs
    exact fin (v := V.non) (u := Value.none) J rfl q
  | brk =>
    obtain ⟨_, _, _, q⟩ := hs
    exact False.elim q
  | cont =>
    obtain ⟨_, _, _, q⟩ := hs
    exact False.elim q
end L2

namespace L2
open PySem PySem.Spec PyProof.Rows
section
variable {X : Cx} {x : Str} {p pos : Pos} {e : Expr} {es : List Expr} {t : TA} {id T : String} {r : List V → Hp → VK → Prop}

def tCB (r : List V → Hp → VK → Prop) (t : TA) : TE := fun σ H Q => t σ H fun vs H1 => r vs H1 Q
/-- f(e, ..), f a built-in function -/
theorem pe_callB (hc : CallR X (.builtin id) r) (hg : Gl X x) (hm : X.mg x = none) (hv : bootBuiltins x = some (.builtin id)) (ha : PA X (e :: es) t) (hn : x ≠ "__name__" := by decide) (hdb : (x == ("__debug__" : Str)) = false := by decide)
    (he : starEach (e :: es) X.env = (false, eval e X.env) :: starEach es X.env := by rfl) (hpl : (backTo pos (starEach es X.env)).any (·.1) = false := by rfl) : PE X (.Call (.Name x p) (e :: es) [] pos) (tCB r t) := by
  intro pins s σ H Q I h
  refine wpAny_Call_Name_kw (ld_blt I hg hm hv ?_ hn hdb)
  exact PyProof.Rows.callWith_builtin1 (thn (ha pos pins s σ H _ I h) fun us s1 ⟨vs, H1, I1, r1, q1⟩ => hc pins s1 σ H1 vs us Q I1 r1 q1) he hpl
/-- T(e, ..), T a built-in type -/
theorem pe_callTy (hc : CallR X (.type T) r) (hg : Gl X x) (hm : X.mg x = none) (hv : bootBuiltins x = some (.type T)) (ha : PA X (e :: es) t) (hn : x ≠ "__name__" := by decide) (hdb : (x == ("__debug__" : Str)) = false := by decide)
    (he : starEach (e :: es) X.env = (false, eval e X.env) :: starEach es X.env := by rfl) (hpl : (backTo pos (starEach es X.env)).any (·.1) = false := by rfl) : PE X (.Call (.Name x p) (e :: es) [] pos) (tCB r t) := by
  intro pins s σ H Q I h
  refine wpAny_Call_Name_kw (ld_blt I hg hm hv ?_ hn hdb)
  exact PyProof.Rows.callWith_type1 (thn (ha pos pins s σ H _ I h) fun us s1 ⟨vs, H1, I1, r1, q1⟩ => hc pins s1 σ H1 vs us Q I1 r1 q1) he hpl
end
end L2

namespace HT
open PySem PyProof.Rows

section
open PySem.SeqAt
open PySem.AutoSeq1 (wpAny_loadPart')
open PySem.MeetsSeq PySem.MeetsSeq2 PySem.MeetsSeq3

end

section
variable {prog : Program} {w : World} {A : Around} {E : Value → Shared → Prop} {s : Shared}

/-- t + u, t not empty -/
theorem cat_tup {t b : Addr} {vs ws : List Value} {Q : Value → Shared → Prop} (ht : IsTup s.heap t vs.toArray) (hb : IsTup s.heap b ws.toArray) (hv : vs ≠ [])
    (h1 : ws = [] → Q (.ref t) s) (h2 : ws ≠ [] → Q (.ref s.heap.objs.size) { s with heap := s.heap.push { cls := .type "tuple", data := .seq (vs ++ ws).toArray } })
    (hsz : vs.length + ws.length ≤ sizeLine) : wpAny (model prog w) A (binaryOp .Add (.ref t) (.ref b)) Q E s := by
  obtain ⟨⟨cls, dd, data, sl⟩, ho, hc, n, hd⟩ := id ht
  obtain ⟨⟨cls2, dd2, data2, sl2⟩, ho2, hc2, n2, hd2⟩ := id hb
  simp only at hc hd hc2 hd2
  subst hc hd hc2 hd2
  have e : vs.toArray ++ ws.toArray = (vs ++ ws).toArray := by simp
  by_cases hw : ws = []
  · exact concat_meets ⟨_, ho, rfl⟩ ⟨_, ho2, rfl⟩ noFill_tuple_add seq_tuple_add PySem.F.slot_tuple_add PySem.F.entry_tuple_add (PySem.F.args_tuple_add_2 _ _)
      (tuple_addW1 t b vs.toArray ws.toArray n n2 dd dd2 sl sl2 (by simpa using hv) (by simp [hw])) ⟨ho, ho2, h1 hw⟩
  · refine concat_meets ⟨_, ho, rfl⟩ ⟨_, ho2, rfl⟩ noFill_tuple_add seq_tuple_add PySem.F.slot_tuple_add PySem.F.entry_tuple_add (PySem.F.args_tuple_add_2 _ _)
      (tuple_addW2 t b vs.toArray ws.toArray n n2 dd dd2 sl sl2 (by simpa using hv) (by simpa using hw) (by rw [List.size_toArray, List.size_toArray]; exact hsz)) ⟨ho, ho2, ?_⟩
    rw [e]
    exact h2 hw

/-! ### t[a:b], not the whole -/
/-- a slice's bound as a place among n (d where it is left out) -/
def sIx (n d : Nat) : Option Int → Nat
  | none => d
  | some v => if v < 0 then (v + (n : Int)).toNat else min v.toNat n
theorem sIx_none (n d : Nat) : sIx n d none = d := rfl
theorem sIx_nat (n d k : Nat) : sIx n d (some (k : Int)) = min k n := by
  show (if (k : Int) < 0 then ((k : Int) + (n : Int)).toNat else min (k : Int).toNat n) = min k n
  rw [if_neg (by omega), Int.toNat_natCast]
theorem sIx_le (n d : Nat) (hd : d ≤ n) (o : Option Int) : sIx n d o ≤ n := by
  cases o with
  | none => exact hd
  | some v =>
    show (if v < 0 then (v + (n : Int)).toNat else min v.toNat n) ≤ n
    by_cases hv : v < 0
    · rw [if_pos hv]; omega
    · rw [if_neg hv]; exact Nat.min_le_right _ _
theorem clip_eq (v : Int) (n d : Nat) : (if v < 0 then max (v + (n : Int)) 0 else min v (n : Int)) = ((sIx n d (some v) : Nat) : Int) := by
  show (if v < 0 then max (v + (n : Int)) 0 else min v (n : Int)) = (((if v < 0 then (v + (n : Int)).toNat else min v.toNat n) : Nat) : Int)
  by_cases hv : v < 0
  · simp only [if_pos hv]; omega
  · simp only [if_neg hv]; omega
theorem adjust_gen (lo hi : Option Int) (n : Nat) : Builtin.Slice.sliceAdjust lo hi 1 (n : Int) = (((sIx n 0 lo : Nat) : Int), ((sIx n n hi : Nat) : Int)) := by
  have h1 : ¬ ((1 : Int) < 0) := by omega
  unfold Builtin.Slice.sliceAdjust
  simp only [h1, if_false]
  refine Prod.ext ?_ ?_
  · cases lo with
    | none => rfl
    | some v => exact clip_eq v n 0
  · cases hi with
    | none => rfl
    | some v => exact clip_eq v n n
theorem places_gen (i j : Nat) : Builtin.Slice.slicePlaces (i : Int) (j : Int) 1 = j - i := by
  unfold Builtin.Slice.slicePlaces
  have h1 : (1 : Int) > 0 := by omega
  simp only [h1, if_true, Int.ediv_one]
  split <;> omega
theorem slicePart_ {v : Value} {o : Option Int} {Q : Option Int → Shared → Prop} (p : IsPart v o) (h : Q o s) : wpAny (model prog w) A (Builtin.Slice.slicePartIndex v) Q E s := by
  cases p with
  | none => exact slicePart_none h
  | int i t => exact slicePart_int h
theorem sliceApplied_gen {sl : Addr} {vl vu : Value} {lo hi : Option Int} {n : Nat} {Q : Int × Int × Nat → Shared → Prop} (hs : s.heap.IsSliceOf sl vl vu .none) (pl : IsPart vl lo) (pu : IsPart vu hi)
    (h : Q (((sIx n 0 lo : Nat) : Int), 1, sIx n n hi - sIx n 0 lo) s) : wpAny (model prog w) A (Builtin.Slice.sliceApplied (.ref sl) (pure (n : Int))) Q E s := by
  obtain ⟨os, hos, hcs, hds⟩ := id hs
  unfold Builtin.Slice.sliceApplied Builtin.Slice.sliceFields
  refine wpAny_bind (wpAny_bind (wpAny_field hos hds (x := vl) rfl (wpAny_bind (wpAny_field hos hds (x := vu) rfl (wpAny_bind (wpAny_field hos hds (x := .none) rfl (wpAny_pure ?_)))))))
  refine wpAny_bind (slicePart_none ?_)
  show wpAny _ _ (if ((1 : Int) == 0) = true then _ else _) _ _ s
  rw [if_neg (by decide)]
  refine wpAny_bind (slicePart_ pl (wpAny_bind (slicePart_ pu (wpAny_bind (wpAny_pure ?_)))))
  show wpAny _ _ (match Builtin.Slice.sliceAdjust lo hi 1 (n : Int) with | (lo, hi) => pure (lo, (1 : Int), Builtin.Slice.slicePlaces lo hi 1)) _ _ s
  rw [adjust_gen lo hi n]
  show wpAny _ _ (pure (((sIx n 0 lo : Nat) : Int), (1 : Int), Builtin.Slice.slicePlaces ((sIx n 0 lo : Nat) : Int) ((sIx n n hi : Nat) : Int) 1)) _ _ s
  rw [places_gen]
  exact wpAny_pure h
theorem pick_gen (xs : Array Value) (i k : Nat) : ((List.range k).filterMap fun (m : Nat) => xs[((i : Int) + (m : Int) * 1).toNat]?).toArray = ((xs.toList.drop i).take k).toArray := by
  have e : (fun (m : Nat) => xs[((i : Int) + (m : Int) * 1).toNat]?) = fun m => xs[i + m]? := by
    funext m
    have : ((i : Int) + (m : Int) * 1).toNat = i + m := by omega
    rw [this]
  rw [e]
  have := pick_run xs i k
  rw [List.filterMap_map] at this
  have e2 : ((fun x => xs[x]?) ∘ fun x => i + x) = fun m => xs[i + m]? := rfl
  rw [e2] at this
  rw [this]

theorem getItem_tuple_cut {t sl : Addr} {items : Array Value} {vl vu : Value} {lo hi : Option Int} {Q : Value → Shared → Prop} (ht : IsTup s.heap t items) (hs : s.heap.IsSliceOf sl vl vu .none) (pl : IsPart vl lo) (pu : IsPart vu hi)
    (hw : ¬ (sIx items.size 0 lo = 0 ∧ sIx items.size items.size hi = items.size))
    (h : Q (.ref s.heap.objs.size) { s with heap := s.heap.push { cls := .type "tuple", data := .seq ((items.toList.drop (sIx items.size 0 lo)).take (sIx items.size items.size hi - sIx items.size 0 lo)).toArray } })
    (hsz : items.size ≤ sizeLine) : wpAny (model prog w) A (getItem (.ref t) (.ref sl)) Q E s := by
  have htake : sizeOk (.seq ((items.toList.drop (sIx items.size 0 lo)).take (sIx items.size items.size hi - sIx items.size 0 lo)).toArray) := by
    show ((items.toList.drop (sIx items.size 0 lo)).take (sIx items.size items.size hi - sIx items.size 0 lo)).toArray.size ≤ sizeLine
    rw [List.size_toArray, List.length_take, List.length_drop, Array.length_toList]
    omega
  have hj : sIx items.size items.size hi ≤ items.size := sIx_le _ _ (Nat.le_refl _) hi
  obtain ⟨os, hos, hcs, hds⟩ := id hs
  have hTs : s.TypeIs (.ref sl) "slice" := ⟨os, hos, hcs⟩
  unfold getItem
  try with_reducible refine wpAny_holding ?_
  first | refine wpAny_bind (wpAny_pure ?_) | skip
  refine wpAny_bind (wpAny_sequenceKey ht.typeIs (by decide) ?_)
  refine wpAny_bind (wpAny_callSpecial?_slot (name := Str.ofString "__getitem__") ht.typeIs PyProof.Rows.slot_tuple_getitem
    (wpAny_call_entry PyProof.Rows.slot_tuple_getitem ht.typeIs entry_tuple_getitem ?_ (args_tuple_getitem _ _)))
  show wpAny _ _ (Builtin.Tuple.tupleItemsOf (.ref t) >>= _) _ _ s
  refine wpAny_bind (tupleItemsOf_ ht ?_)
  refine wpAny_bind (wpAny_typeOf hTs ?_)
  rw [if_pos (by decide)]
  refine wpAny_bind (sliceApplied_gen hs pl pu ?_)
  have hno : ¬ ((((sIx items.size 0 lo : Nat) : Int) == 0 && (1 : Int) == 1 && (sIx items.size items.size hi - sIx items.size 0 lo) == items.size) = true) := by
    intro q
    rw [Bool.and_eq_true, Bool.and_eq_true] at q
    have q1 : ((sIx items.size 0 lo : Nat) : Int) = 0 := eq_of_beq q.1.1
    have q2 : sIx items.size items.size hi - sIx items.size 0 lo = items.size := eq_of_beq q.2
    exact hw ⟨by omega, by omega⟩
  show wpAny _ _ (if (((sIx items.size 0 lo : Nat) : Int) == 0 && (1 : Int) == 1 && (sIx items.size items.size hi - sIx items.size 0 lo) == items.size) = true then _ else _) _ _ s
  rw [if_neg hno, pick_gen]
  first
    | exact wpAny_bind (m := Builtin.Tuple.tupleExact _) (wpAny_newObj_type (wpAny_pure ⟨_, rfl, wpAny_pure h⟩) htake)
    | exact wpAny_bind (m := Builtin.Tuple.tupleExact _) (wpAny_newObj_type (wpAny_bind (wpAny_pure (wpAny_pure ⟨_, rfl, wpAny_pure h⟩))) htake)
    | exact wpAny_bind (wpAny_bind (m := Builtin.Tuple.tupleExact _) (wpAny_newObj_type (wpAny_pure (wpAny_pure ⟨_, rfl, wpAny_pure h⟩)) htake))
    | exact wpAny_bind (wpAny_bind (m := Builtin.Tuple.tupleExact _) (wpAny_newObj_type (wpAny_pure ⟨_, rfl, wpAny_pure h⟩) htake))
end
end HT

namespace L2
open PySem PySem.Spec PyProof.Rows

/-! ### the parts of a slice -/
abbrev TO := St → Hp → (Option Int → Hp → Prop) → Prop
/-- a slice's part (left out, or an int) -/
def PO (X : Cx) (e : Option Expr) (t : TO) : Prop :=
  ∀ (pins : List (Addr × Obj)) (s : Shared) (σ : St) (H : Hp) (Q : Option Int → Hp → Prop), Inv X pins σ H s → t σ H Q →
    wpAny (model X.prog X.w) X.A (evalPart e X.env) (fun u s' => ∃ o H', Inv X pins σ H' s' ∧ IsPart u o ∧ Q o H') X.xe s
def tNoPart : TO := fun _ H Q => Q none H
def tPart (t : TE) : TO := fun σ H Q => t σ H fun x H1 => ∃ i, x = .int i ∧ Q (some i) H1

section
variable {X : Cx} {e : Expr} {te : TE} {lo hi : Option Expr} {tl th : TO} {pos p2 : Pos}

theorem po_none : PO X none tNoPart := by
  intro pins s σ H Q I h
  rw [evalPart_none]
  exact wpAny_pure ⟨none, H, I, .none, h⟩
theorem po_some (h : PE X e te) : PO X (some e) (tPart te) := by
  intro pins s σ H Q I hw
  rw [evalPart_some]
  refine thn (h pins s σ H _ I hw) fun u s1 ⟨x, H1, I1, r1, q1⟩ => ?_
  obtain ⟨i, rfl, q⟩ := q1
  obtain ⟨t, rfl⟩ := r1
  exact ⟨some i, H1, I1, .int i t, q⟩

/-- what a slice of a value is, by values: the slice object stands at sl -/
def SlR (X : Cx) (r : V → Option Int → Option Int → Hp → VK → Prop) : Prop :=
  ∀ (pins : List (Addr × Obj)) (s : Shared) (σ : St) (H : Hp) (x : V) (v vl vu : Value) (lo hi : Option Int) (sl : Addr) (Q : VK), Inv X pins σ H s → RelV x v → s.heap.IsSliceOf sl vl vu .none → IsPart vl lo → IsPart vu hi → r x lo hi H Q →
    ∃ T id, typeLookup (.type T) "__getitem__" = pure (some (.builtin id)) ∧ s.TypeIs v T ∧ wpAny (model X.prog X.w) X.A (getItem v (.ref sl)) (EP X pins σ Q) X.xe s
theorem SlR.or {r r' : V → Option Int → Option Int → Hp → VK → Prop} (h : SlR X r) (h' : SlR X r') : SlR X (fun x lo hi H Q => r x lo hi H Q ∨ r' x lo hi H Q) := by
  intro pins s σ H x v vl vu lo hi sl Q I rx hs pl pu q
  rcases q with q | q
  · exact h pins s σ H x v vl vu lo hi sl Q I rx hs pl pu q
  · exact h' pins s σ H x v vl vu lo hi sl Q I rx hs pl pu q
def tSl (r : V → Option Int → Option Int → Hp → VK → Prop) (te : TE) (tl th : TO) : TE := fun σ H Q => te σ H fun x H1 => tl σ H1 fun l H2 => th σ H2 fun u H3 => r x l u H3 Q
/-- a[lo:hi], any a -/
theorem pe_slice {r : V → Option Int → Option Int → Hp → VK → Prop} (hr : SlR X r) (he : PE X e te) (hl : PO X lo tl) (hu : PO X hi th) : PE X (.Subscript e (.Slice lo hi none p2) pos) (tSl r te tl th) := by
  intro pins s σ H Q I h
  refine Subscript_ (thn (he pins s σ H _ I h) fun v s1 ⟨x, H1, I1, r1, q1⟩ => ?_)
  refine wpAny_Slice (thn (hl pins s1 σ H1 _ I1 q1) fun vl s2 ⟨l, H2, I2, pl, q2⟩ => thn (hu pins s2 σ H2 _ I2 q2) fun vu s3 ⟨u, H3, I3, pu, q3⟩ => ?_)
  rw [evalPart_none]
  refine wpAny_pure ?_
  have I4 : Inv X pins σ H3 { s3 with heap := s3.heap.push { cls := .type "slice", data := .fields #[vl, vu, .none] } } := I3.kept (t' := s3.toks) fun b ob q => Heap.get?_push_of_some _ q
  obtain ⟨T, id, hT, ht, hg⟩ := hr pins { s3 with heap := s3.heap.push { cls := .type "slice", data := .fields #[vl, vu, .none] } } σ H3 x v vl vu l u s3.heap.objs.size Q I4 r1 (Heap.IsSliceOf.new ..) pl pu q3
  show wpAny (model X.prog X.w) X.A (subscriptTail e (.Slice lo hi none p2) v (.ref s3.heap.objs.size)) (EP X pins σ Q) X.xe { s3 with heap := s3.heap.push { cls := .type "slice", data := .fields #[vl, vu, .none] } }
  exact tail_any (ops := [.ref s3.heap.objs.size, v]) ht hT hg (by with_unfolding_all rfl)

/-- the items of xs[lo:hi] -/
def cutV (xs : List V) (lo hi : Option Int) : List V := (xs.drop (HT.sIx xs.length 0 lo)).take (HT.sIx xs.length xs.length hi - HT.sIx xs.length 0 lo)
theorem cutV_length (xs : List V) (lo hi : Option Int) : (cutV xs lo hi).length ≤ xs.length := by
  unfold cutV
  rw [List.length_take, List.length_drop]
  omega
/-- t[lo:hi], not the whole of it (the whole would be t itself) -/
def rSlT (K : PySem.W.Frag) : V → Option Int → Option Int → Hp → VK → Prop := fun x lo hi H Q => ∃ a xs, x = .ref a ∧ SqT K H a xs ∧
  ¬ (HT.sIx xs.length 0 lo = 0 ∧ HT.sIx xs.length xs.length hi = xs.length) ∧ ∀ p, H p = none → Q (.ref p) (upd H p (.tup (cutV xs lo hi)))
theorem sl_tup : SlR X (rSlT X.K) := by
  intro pins s σ H x v vl vu lo hi sl Q I rx hs pl pu h
  obtain ⟨a, xs, rfl, hx, hw, q⟩ := h
  cases rx
  obtain ⟨its, r, ht, hz⟩ := I.tuple hx
  have hlen : its.toArray.size = xs.length := by rw [List.size_toArray]; exact r.length.symm
  refine ⟨"tuple", _, PyProof.Rows.slot_tuple_getitem.lookup, ht.typeIs, ?_⟩
  refine HT.getItem_tuple_cut ht hs pl pu (by rw [hlen]; exact hw) ?_ (by rw [hlen]; exact hz)
  rw [hlen]
  refine ⟨.ref s.heap.objs.size, _, I.laid (t' := s.toks) (o := .tup (cutV xs lo hi)) (fun b ob q => Heap.get?_push_of_some _ q) (Nat.le_refl _) ?_, rfl, q _ (I.hok.fresh (Nat.le_refl _))⟩
  exact ⟨Nat.le_trans (cutV_length xs lo hi) hz, _, (r.drop (HT.sIx xs.length 0 lo)).take (HT.sIx xs.length xs.length hi - HT.sIx xs.length 0 lo), IsTup.new _ _⟩

/-! ### t < u, t + u -/
/-- t + u, t not empty: u empty gives t itself -/
def rCatT (K : PySem.W.Frag) : R2 := fun x y H Q => ∃ a b xs ys, x = .ref a ∧ y = .ref b ∧ SqT K H a xs ∧ SqT K H b ys ∧ xs ≠ [] ∧ xs.length + ys.length ≤ sizeLine ∧
  (ys = [] → Q (.ref a) H) ∧ (ys ≠ [] → ∀ p, H p = none → Q (.ref p) (upd H p (.tup (xs ++ ys))))
theorem Vals.nil_iff {xs : List V} {us : List Value} (r : Vals xs us) : us = [] ↔ xs = [] := by
  cases r with
  | nil => simp
  | cons _ _ => simp
theorem op_catT : OpR X (binaryOp .Add) (rCatT X.K) := by
  intro pins s σ H x y v u Q I rx ry h
  obtain ⟨a, b, xs, ys, rfl, rfl, ha, hb, hx, hz, q1, q2⟩ := h
  cases rx
  cases ry
  obtain ⟨its, r1, p1, _⟩ := I.tuple ha
  obtain ⟨its2, r2, p2, _⟩ := I.tuple hb
  refine HT.cat_tup p1 p2 (fun z => hx (r1.nil_iff.mp z)) (fun z => ⟨.ref a, H, I, rfl, q1 (r2.nil_iff.mp z)⟩) (fun z => ?_) (by rw [← r1.length, ← r2.length]; exact hz)
  refine ⟨.ref s.heap.objs.size, _, I.laid (t' := s.toks) (o := .tup (xs ++ ys)) (fun b ob q => Heap.get?_push_of_some _ q) (Nat.le_refl _) ?_, rfl, q2 (fun w => z (r2.nil_iff.mpr w)) _ (I.hok.fresh (Nat.le_refl _))⟩
  exact ⟨by rw [List.length_append]; exact hz, _, r1.append r2, IsTup.new _ _⟩
end
end L2

namespace L2
open PySem PySem.Spec PyProof.Rows

/-! ### places -/
/-- the place that an index of any sign means -/
def ixN (n : Nat) (i : Int) : Option Nat := if 0 ≤ i then (if i < n then some i.toNat else none) else if -(n : Int) ≤ i then some (i + n).toNat else none
def atI {α : Type} (xs : List α) (i : Int) : Option α := (ixN xs.length i).bind fun j => xs[j]?
theorem ixN_seq {n : Nat} {i : Int} {j : Nat} (h : ixN n i = some j) : seqIndex? i n = some j ∧ j < n ∧ -(n : Int) ≤ i ∧ i < n := by
  unfold ixN at h
  by_cases h0 : 0 ≤ i
  · rw [if_pos h0] at h
    by_cases h1 : i < n
    · rw [if_pos h1] at h
      have e : i.toNat = j := Option.some.inj h
      exact ⟨by rw [seqIndex_of h0 h1, e], by omega, by omega, h1⟩
    · rw [if_neg h1] at h; cases h
  · rw [if_neg h0] at h
    by_cases h1 : -(n : Int) ≤ i
    · rw [if_pos h1] at h
      have e : (i + n).toNat = j := Option.some.inj h
      exact ⟨by rw [seqIndex_neg (by omega) h1, e], by omega, h1, by omega⟩
    · rw [if_neg h1] at h; cases h
theorem atI_get {α : Type} {xs : List α} {i : Int} {v : α} (h : atI xs i = some v) : ∃ j, seqIndex? i xs.length = some j ∧ xs[j]? = some v ∧ j < xs.length ∧ -(xs.length : Int) ≤ i ∧ i < xs.length := by
  unfold atI at h
  cases e : ixN xs.length i with
  | none => rw [e] at h; cases h
  | some j =>
    rw [e] at h
    obtain ⟨h1, h2, h3, h4⟩ := ixN_seq e
    exact ⟨j, h1, h, h2, h3, h4⟩
theorem atI_nat {α : Type} {xs : List α} {j : Nat} {v : α} (h : xs[j]? = some v) : atI xs (j : Int) = some v := by
  have hj : j < xs.length := (List.getElem?_eq_some_iff.mp h).1
  have e : ixN xs.length (j : Int) = some j := by
    unfold ixN
    rw [if_pos (by omega), if_pos (by omega)]; simp
  unfold atI; rw [e]; exact h
/-! ### what may be subscripted -/
/-- what stands as an index of a plain subscript -/
def PlainIx (b : Expr) : Prop := ∀ o i, subscripted b false o i = operate [o, i] (getItem o i)
/-- a subscript by values -/
def IxR (X : Cx) (r : R2) : Prop :=
  ∀ (value slice : Expr) (pins : List (Addr × Obj)) (s : Shared) (σ : St) (H : Hp) (x y : V) (v u : Value) (Q : VK), Inv X pins σ H s → RelV x v → RelV y u → r x y H Q →
    subscripted slice false v u = operate [v, u] (getItem v u) → wpAny (model X.prog X.w) X.A (subscriptTail value slice v u) (EP X pins σ Q) X.xe s
/-- a call of a builtin's method by values: the receiver, the arguments -/
def MtR (X : Cx) (id : String) (r : V → List V → Hp → VK → Prop) : Prop :=
  ∀ (pins : List (Addr × Obj)) (s : Shared) (σ : St) (H : Hp) (x : V) (xs : List V) (v : Value) (us : List Value) (Q : VK), Inv X pins σ H s → RelV x v → Vals xs us → r x xs H Q →
    wpAny (model X.prog X.w) X.A (call (.builtin id) (v :: us)) (EP X pins σ Q) X.xe s
section
variable {X : Cx} {a b : Expr} {ta tb : TE} {pos : Pos}
theorem IxR.or {r r' : R2} (h : IxR X r) (h' : IxR X r') : IxR X (fun x y H Q => r x y H Q ∨ r' x y H Q) := by
  intro value slice pins s σ H x y v u Q I rx ry q hs
  rcases q with q | q
  · exact h value slice pins s σ H x y v u Q I rx ry q hs
  · exact h' value slice pins s σ H x y v u Q I rx ry q hs
theorem MtR.or {id : String} {r r' : V → List V → Hp → VK → Prop} (h : MtR X id r) (h' : MtR X id r') : MtR X id (fun x xs H Q => r x xs H Q ∨ r' x xs H Q) := by
  intro pins s σ H x xs v us Q I rx rs q
  rcases q with q | q
  · exact h pins s σ H x xs v us Q I rx rs q
  · exact h' pins s σ H x xs v us Q I rx rs q
/-- a[b] -/
theorem pe_ix {r : R2} (hr : IxR X r) (ha : PE X a ta) (hb : PE X b tb) (hs : PlainIx b) : PE X (.Subscript a b pos) (tOp r ta tb) := by
  intro pins s σ H Q I h
  exact Subscript_ (binT ha hb I h fun v u s2 x y H2 I2 rx ry q => hr a b pins s2 σ H2 x y v u Q I2 rx ry q (hs _ _))

def rIxL (K : PySem.W.Frag) : R2 := fun x y H Q => ∃ p xs i v, x = .ref p ∧ y = .int i ∧ SqL K H p xs ∧ atI xs i = some v ∧ Q v H
def rIxT (K : PySem.W.Frag) : R2 := fun x y H Q => ∃ p xs i v, x = .ref p ∧ y = .int i ∧ SqT K H p xs ∧ atI xs i = some v ∧ Q v H
def rIxS : R2 := fun x y H Q => ∃ z i c, x = .str z ∧ y = .int i ∧ z.length ≤ sizeLine ∧ atI z.cps.toList i = some c ∧ Q (.str ⟨#[c]⟩) H
theorem ix_list : IxR X (rIxL X.K) := by
  intro value slice pins s σ H x y v u Q I rx ry h hs
  obtain ⟨p, xs, i, z, rfl, rfl, hq, he, q⟩ := h
  cases rx
  obtain ⟨t, rfl⟩ := ry
  obtain ⟨its, r, pl, hz⟩ := I.list hq
  obtain ⟨j, h1, h2, h3, h4, h5⟩ := atI_get he
  obtain ⟨w, ew, rw'⟩ := r.get h2
  have hl := r.length
  have hn := line63
  have fin : EP X pins σ Q w s := ⟨z, H, I, rw', q⟩
  by_cases h0 : 0 ≤ i
  · have hj : i.toNat = j := by
      rw [seqIndex_of h0 h5] at h1
      exact Option.some.inj h1
    exact item_listR pl.isList h0 (by omega) (by rw [hj]; simpa using ew) fin hs
  · have hj : (i + (its.toArray.size : Int)).toNat = j := by
      rw [seqIndex_neg (by omega) h4] at h1
      rw [List.size_toArray, ← hl]
      exact Option.some.inj h1
    exact subscriptTail_builtinR (x := w) pl.isList.typeIs slot_list_getitem.lookup
      (wpAny_getItem_list_neg (Q := fun r s' => r = w ∧ EP X pins σ Q r s') pl.isList (by omega) (by rw [List.size_toArray] <;> omega) (by omega) (by rw [hj]; simpa using ew) ⟨rfl, fin⟩) hs
theorem ix_tup : IxR X (rIxT X.K) := by
  intro value slice pins s σ H x y v u Q I rx ry h hs
  obtain ⟨p, xs, i, z, rfl, rfl, hq, he, q⟩ := h
  cases rx
  obtain ⟨t, rfl⟩ := ry
  obtain ⟨its, r, pl, hz⟩ := I.tuple hq
  obtain ⟨j, h1, h2, h3, h4, h5⟩ := atI_get he
  obtain ⟨w, ew, rw'⟩ := r.get h2
  have hl := r.length
  have hn := line63
  have fin : EP X pins σ Q w s := ⟨z, H, I, rw', q⟩
  exact subscriptTail_builtinR (x := w) pl.typeIs slot_tuple_getitem.lookup
    (getItem_tuple (j := j) (Q := fun r s' => r = w ∧ EP X pins σ Q r s') pl (by omega) (by omega) (by rw [List.size_toArray, ← hl]; exact h1) (by simpa using ew) ⟨rfl, fin⟩) hs
theorem ix_str : IxR X rIxS := by
  intro value slice pins s σ H x y v u Q I rx ry h hs
  obtain ⟨z, i, c, rfl, rfl, hz, he, q⟩ := h
  obtain ⟨t, rfl⟩ := rx
  obtain ⟨t', rfl⟩ := ry
  obtain ⟨j, h1, h2, h3, h4, h5⟩ := atI_get he
  have hl : z.cps.toList.length = z.length := by simp [Str.length]
  rw [hl] at h1 h4 h5
  have hn := line63
  exact tail_any (typeIs_str s z t) slot_str_getitem.lookup (getItem_str (c := c) (by
    have e1 : decide (i < -(2 ^ 63 : Int)) = false := decide_eq_false (by omega)
    have e2 : decide (i ≥ 2 ^ 63) = false := decide_eq_false (by omega)
    rw [e1, e2, Bool.or_false]) (by rw [h1]; simpa using h2) ⟨.str ⟨#[c]⟩, H, I.tok _, ⟨_, rfl⟩, q⟩) hs
/-! ### xs[i] = v, any sign -/
/-- the list's object behind a store -/
theorem mapSeq_set (its : List Value) (n j : Nat) (u : Value) : Obj.mapSeq (·.setIfInBounds j u) { cls := .type "list", data := .seq its.toArray n } = { cls := .type "list", data := .seq (its.set j u).toArray n } := by
  simp [Obj.mapSeq]
theorem Inv.lst {pins : List (Addr × Obj)} {σ : St} {H : Hp} {s : Shared} {p : Addr} {xs : List V} (I : Inv X pins σ H s) (h : H p = some (.lst xs)) :
    ∃ (its : List Value) (n : Nat), Vals xs its ∧ s.heap.get? p = some { cls := .type "list", data := .seq its.toArray n } ∧ xs.length ≤ sizeLine := by
  obtain ⟨z, its, n, r, e⟩ := I.hok p _ h
  exact ⟨its, n, r, e, z⟩
/-- the list at p is written by an update of its object -/
theorem Inv.lstUpd {pins : List (Addr × Obj)} {σ : St} {H : Hp} {s : Shared} {p : Addr} {xs ys : List V} {its its' : List Value} {n n' : Nat} {f : Obj → Obj} (I : Inv X pins σ H s) (h : H p = some (.lst xs))
    (ho : s.heap.get? p = some { cls := .type "list", data := .seq its.toArray n }) (hf : f { cls := .type "list", data := .seq its.toArray n } = { cls := .type "list", data := .seq its'.toArray n' }) (r : Vals ys its') (hz : ys.length ≤ sizeLine) (t : Nat) :
    Inv X pins σ (upd H p (.lst ys)) { s with heap := s.heap.update p f, toks := t } := by
  have e : (s.heap.update p f).get? p = some { cls := .type "list", data := .seq its'.toArray n' } := by
    rw [Heap.get?_update_self f ho (by rw [hf] <;> rfl), hf]
  refine I.write (x := p) (e := p) (by rw [h]; trivial) (.inl rfl) (fun b u hb q => (Heap.get?_update_other _ _ (Ne.symm hb)).trans q) ⟨_, e⟩ ?_
  exact ⟨hz, its', n', r, e⟩
def rSetL : V → V → V → Hp → (Hp → Prop) → Prop := fun o i v H Q => ∃ p xs k j, o = .ref p ∧ i = .int k ∧ H p = some (.lst xs) ∧ ixN xs.length k = some j ∧ Q (upd H p (.lst (xs.set j v)))
theorem set_list : PSet X rSetL := by
  intro pins s σ H o i v ov iv u Q I ro ri rv h
  obtain ⟨p, xs, k, j, rfl, rfl, hp, hj, q⟩ := h
  cases ro
  obtain ⟨t, rfl⟩ := ri
  obtain ⟨its, n, r, ho, hz⟩ := I.lst hp
  obtain ⟨h1, h2, h3, h4⟩ := ixN_seq hj
  have hl := r.length
  have hn := line63
  have I' : Inv X pins σ (upd H p (.lst (xs.set j v))) { s with heap := s.heap.update p (Obj.mapSeq (·.setIfInBounds j u)) } :=
    I.lstUpd hp ho (mapSeq_set its n j u) (r.set rv j) (by rw [List.length_set]; exact hz) s.toks
  by_cases h0 : 0 ≤ k
  · have hk : k.toNat = j := by
      rw [seqIndex_of h0 h4] at h1
      exact Option.some.inj h1
    exact PySem.W.ki_setAt ho h0 (by omega) (by rw [List.size_toArray, ← hl]; exact h4) (by rw [hk]; exact ⟨_, I', q⟩)
  · have hk : (k + (its.toArray.size : Int)).toNat = j := by
      rw [seqIndex_neg (by omega) h3] at h1
      rw [List.size_toArray, ← hl]
      exact Option.some.inj h1
    exact PySem.W.ki_setBack ho (by omega) (by rw [List.size_toArray, ← hl]; exact h3) (by omega) (by rw [hk]; exact ⟨_, I', q⟩)

/-! ### slices -/
/-! ### in, not in: flat items -/
def flatV : V → Bool
  | .non => true
  | .bl _ => true
  | .int _ => true
  | .str _ => true
  | _ => false
/-- == of flat values -/
def eqV : V → V → Bool
  | .non, .non => true
  | .bl a, .bl b => a == b
  | .bl a, .int b => (if a then 1 else 0) == b
  | .int a, .bl b => a == (if b then 1 else 0)
  | .int a, .int b => a == b
  | .str a, .str b => a == b
  | _, _ => false
theorem eqAt_V {A : Around} {s : Shared} {y x : V} {u v : Value} (ry : RelV y u) (rx : RelV x v) (fy : flatV y = true) (fx : flatV x = true) : SeqAt.EqAt A s u v (eqV y x) := by
  cases y with
  | non =>
    cases ry
    cases x with
    | non => cases rx; exact SeqAt.EqAt.same _
    | bl b => cases rx; exact SeqAt.EqAt.none_bool b
    | int b => obtain ⟨t, rfl⟩ := rx; exact SeqAt.EqAt.none_int b t
    | str b => obtain ⟨t, rfl⟩ := rx; exact SeqAt.EqAt.none_str b t
    | _ => exact absurd (show false = true from fx) Bool.false_ne_true
  | bl a =>
    cases ry
    cases x with
    | non => cases rx; exact SeqAt.EqAt.bool_none a
    | bl b => cases rx; exact SeqAt.EqAt.bool_bool a b
    | int b => obtain ⟨t, rfl⟩ := rx; exact SeqAt.EqAt.bool_int a b t
    | str b => obtain ⟨t, rfl⟩ := rx; exact SeqAt.EqAt.bool_str a b t
    | _ => exact absurd (show false = true from fx) Bool.false_ne_true
  | int a =>
    obtain ⟨t', rfl⟩ := ry
    cases x with
    | non => cases rx; exact SeqAt.EqAt.int_none a t'
    | bl b => cases rx; exact SeqAt.EqAt.int_bool a t' b
    | int b => obtain ⟨t, rfl⟩ := rx; exact SeqAt.EqAt.int_int a t' b t
    | str b => obtain ⟨t, rfl⟩ := rx; exact SeqAt.EqAt.int_str a t' b t
    | _ => exact absurd (show false = true from fx) Bool.false_ne_true
  | str a =>
    obtain ⟨t', rfl⟩ := ry
    cases x with
    | non => cases rx; exact SeqAt.EqAt.str_none a t'
    | bl b => cases rx; exact SeqAt.EqAt.str_bool a t' b
    | int b => obtain ⟨t, rfl⟩ := rx; exact SeqAt.EqAt.str_int a t' b t
    | str b => obtain ⟨t, rfl⟩ := rx; exact SeqAt.EqAt.str_str a t' b t
    | _ => exact absurd (show false = true from fx) Bool.false_ne_true
  | _ => exact absurd (show false = true from fy) Bool.false_ne_true
/-- the items' answers, read off the values (a value's own answer does not lean on its token) -/
def eqU (x : V) (u : Value) : Bool := match u with
  | .none => eqV .non x
  | .bool b => eqV (.bl b) x
  | .int i _ => eqV (.int i) x
  | .str z _ => eqV (.str z) x
  | _ => false
theorem eqU_of {x y : V} {u : Value} (r : RelV y u) (f : flatV y = true) : eqU x u = eqV y x := by
  cases y with
  | non => cases r; rfl
  | bl b => cases r; rfl
  | int i => obtain ⟨t, rfl⟩ := r; rfl
  | str z => obtain ⟨t, rfl⟩ := r; rfl
  | _ => exact absurd (show false = true from f) Bool.false_ne_true
theorem any_eqU {x : V} : ∀ {xs : List V} {us : List Value}, Vals xs us → xs.all flatV = true → us.any (eqU x) = xs.any fun y => eqV y x
  | _, _, .nil, _ => rfl
  | y :: xs, u :: us, .cons r t, f => by
    rw [List.all_cons, Bool.and_eq_true] at f
    rw [List.any_cons, List.any_cons, eqU_of r f.1, any_eqU t f.2]
theorem mem_eqAt {A : Around} {s : Shared} {x : V} {v : Value} (rx : RelV x v) (fx : flatV x = true) : ∀ {xs : List V} {us : List Value}, Vals xs us → xs.all flatV = true → ∀ u ∈ us, SeqAt.EqAt A s u v (eqU x u)
  | _, _, .nil, _ => fun u hu => by cases hu
  | y :: xs, u :: us, .cons r t, f => fun u' hu => by
    rw [List.all_cons, Bool.and_eq_true] at f
    rcases List.mem_cons.mp hu with rfl | hu
    · rw [eqU_of r f.1]; exact eqAt_V r rx f.1 fx
    · exact mem_eqAt rx fx t f.2 u' hu
def inV (x : V) (xs : List V) : Bool := xs.any fun y => eqV y x
/-- x in a list or tuple of flat items -/
def rIn (K : PySem.W.Frag) (neg : Bool) : R2 := fun x y H Q => ∃ p xs, y = .ref p ∧ (SqL K H p xs ∨ SqT K H p xs) ∧ flatV x = true ∧ xs.all flatV = true ∧ Q (.bl (if neg then !inV x xs else inV x xs)) H
theorem op_in_seq : OpR X (compareOp .In) (rIn X.K false) := by
  intro pins s σ H x y v u Q I rx ry h
  obtain ⟨p, xs, rfl, hq, fx, fs, q⟩ := h
  cases ry
  rcases hq with hq | hq
  · obtain ⟨its, r, pl, hz⟩ := I.list hq
    refine SeqAt.in_listAt (eqU x) pl.isList (fun w hw => mem_eqAt rx fx r fs w (by simpa using hw)) ⟨.bl _, H, I, rfl, ?_⟩
    rw [show its.toArray.any (eqU x) = its.any (eqU x) by simp, any_eqU r fs]
    exact q
  · obtain ⟨its, r, pl, hz⟩ := I.tuple hq
    refine SeqAt.in_tupleAt (eqU x) pl (fun w hw => mem_eqAt rx fx r fs w (by simpa using hw)) ⟨.bl _, H, I, rfl, ?_⟩
    rw [show its.toArray.any (eqU x) = its.any (eqU x) by simp, any_eqU r fs]
    exact q
/-! ### len, list(x), tuple(x) of any list or tuple that is read -/
theorem call_len_seq : CallR X (.builtin "len") (fun xs H Q => ∃ p ys, xs = [.ref p] ∧ (SqL X.K H p ys ∨ SqT X.K H p ys) ∧ Q (.int ys.length) H) := by
  intro pins s σ H xs us Q I r h
  obtain ⟨p, ys, rfl, hq, q⟩ := h
  obtain ⟨u, rfl, rx⟩ := vals1 r
  cases rx
  have hn := line63
  rcases hq with hq | hq
  · obtain ⟨its, r', pl, hz⟩ := I.list hq
    have hlen := r'.length
    exact Calls.call_len_list pl.isList (by simp only [List.size_toArray] <;> omega) ⟨.int ys.length, H, I.tok _, ⟨s.toks + 1, by rw [List.size_toArray, hlen]⟩, q⟩
  · obtain ⟨its, r', pl, hz⟩ := I.tuple hq
    have hlen := r'.length
    exact len_tuple pl (by simp only [List.size_toArray] <;> omega) ⟨.int ys.length, H, I.tok _, ⟨s.toks + 1, by rw [List.size_toArray, hlen]⟩, q⟩
theorem call_len_str : CallR X (.builtin "len") (fun xs H Q => ∃ z, xs = [.str z] ∧ z.length ≤ sizeLine ∧ Q (.int z.length) H) := by
  intro pins s σ H xs us Q I r h
  obtain ⟨z, rfl, hz, q⟩ := h
  obtain ⟨u, rfl, t, rfl⟩ := vals1 r
  have hn := line63
  exact len_str (by omega) ⟨.int z.length, H, I.tok _, ⟨_, rfl⟩, q⟩
theorem CallR.or {f : Value} {r r' : List V → Hp → VK → Prop} (h : CallR X f r) (h' : CallR X f r') : CallR X f (fun xs H Q => r xs H Q ∨ r' xs H Q) := by
  intro pins s σ H xs us Q I rs q
  rcases q with q | q
  · exact h pins s σ H xs us Q I rs q
  · exact h' pins s σ H xs us Q I rs q
theorem call_list_of : CallR X (.type "list") (fun xs H Q => ∃ p ys, xs = [.ref p] ∧ (SqL X.K H p ys ∨ SqT X.K H p ys) ∧ ∀ l, H l = none → Q (.ref l) (upd H l (.lst ys))) := by
  intro pins s σ H xs us Q I r h
  obtain ⟨p, ys, rfl, hq, q⟩ := h
  obtain ⟨u, rfl, rx⟩ := vals1 r
  cases rx
  have fin : ∀ (its : List Value), Vals ys its → ys.length ≤ sizeLine → ∀ (h' : Heap) (c' : Nat), (∀ b o', s.heap.get? b = some o' → h'.get? b = some o') →
      h'.get? s.heap.objs.size = some { cls := .type "list", dict := none, data := .seq its.toArray c', slots := #[] } → EP X pins σ Q (.ref s.heap.objs.size) { s with heap := h' } := fun its r' hz h' c' kp e =>
    ⟨.ref s.heap.objs.size, _, I.laid (t' := s.toks) kp (Nat.le_refl _) (show ObjOk X.prog X.w _ h' _ (.lst ys) from ⟨hz, its, c', r', e⟩), rfl, q _ (I.hok.fresh (Nat.le_refl _))⟩
  rcases hq with hq | hq
  · obtain ⟨its, r', pl, hz⟩ := I.list hq
    have hlen := r'.length
    obtain ⟨o, ho, hc, n, hd⟩ := pl.isList
    exact call_list_seq p (.inl rfl) ho hc hd (fun h' c' kp e => fin its r' hz h' c' kp e) (by simp only [List.size_toArray] <;> omega)
  · obtain ⟨its, r', pl, hz⟩ := I.tuple hq
    have hlen := r'.length
    obtain ⟨o, ho, hc, n, hd⟩ := pl
    exact call_list_seq p (.inr rfl) ho hc hd (fun h' c' kp e => fin its r' hz h' c' kp e) (by simp only [List.size_toArray] <;> omega)
theorem call_tuple_of : CallR X (.type "tuple") (fun xs H Q => ∃ p ys, xs = [.ref p] ∧ ((SqL X.K H p ys ∧ ∀ l, H l = none → Q (.ref l) (upd H l (.tup ys))) ∨ (SqT X.K H p ys ∧ Q (.ref p) H))) := by
  intro pins s σ H xs us Q I r h
  obtain ⟨p, ys, rfl, h⟩ := h
  obtain ⟨u, rfl, rx⟩ := vals1 r
  cases rx
  rcases h with ⟨hq, q⟩ | ⟨hq, q⟩
  · obtain ⟨its, r', pl, hz⟩ := I.list hq
    have hlen := r'.length
    refine call_tuple_list pl.isList (fun h' kp => ?_) (by simp only [List.size_toArray] <;> omega)
    have I1 : Inv X pins σ H { s with heap := h' } := I.kept (t' := s.toks) kp
    have I2 : Inv X pins σ (upd H h'.objs.size (.tup ys)) { s with heap := h'.push { cls := .type "tuple", data := .seq its.toArray } } :=
      I1.laid (t' := s.toks) (fun b o e => Heap.get?_push_of_some _ e) (Nat.le_refl _) (show ObjOk X.prog X.w _ _ _ (.tup ys) from ⟨hz, its, r', IsTup.new _ _⟩)
    exact ⟨.ref h'.objs.size, _, I2, rfl, q _ (I1.hok.fresh (Nat.le_refl _))⟩
  · obtain ⟨its, r', pl, hz⟩ := I.tuple hq
    exact call_tuple_same pl ⟨.ref p, H, I, rfl, q⟩

/-! ### the call of a builtin's method: o.m(..) -/
/-- the value is of that builtin type -/
def tyV (K : PySem.W.Frag) (T : String) (x : V) (H : Hp) : Prop := match x with
  | .str _ => T = "str"
  | .int _ => T = "int"
  | .ref p => (T = "list" ∧ ∃ xs, SqL K H p xs) ∨ (T = "tuple" ∧ ∃ o, K.lookup p = some o ∧ o.cls = .type "tuple" ∧ o.dict = none) ∨
      (T = "dict" ∧ ((∃ kvs, H p = some (.dK kvs)) ∨ ∃ kvs, H p = some (.dT kvs))) ∨ (T = "set" ∧ ∃ S n, H p = some (.set S n))
  | _ => False
theorem tyV_is {pins : List (Addr × Obj)} {σ : St} {H : Hp} {s : Shared} {T : String} {x : V} {v : Value} (I : Inv X pins σ H s) (r : RelV x v) (ty : tyV X.K T x H) :
    s.TypeIs v T ∧ ∀ a, v = .ref a → ∃ ob, s.heap.get? a = some ob ∧ ob.dict = none := by
  cases x with
  | str z =>
    obtain ⟨t, rfl⟩ := r
    cases (show T = "str" from ty)
    exact ⟨typeIs_str s z t, fun _ e => nomatch e⟩
  | int i =>
    obtain ⟨t, rfl⟩ := r
    cases (show T = "int" from ty)
    exact ⟨typeIs_int s i t, fun _ e => nomatch e⟩
  | ref p =>
    cases r
    rcases ty with ⟨rfl, xs, hq⟩ | ⟨rfl, o, hk, hc, hd⟩ | ⟨rfl, hk⟩ | ⟨rfl, S, n, hk⟩
    · obtain ⟨its, _, pl, _⟩ := I.list hq
      refine ⟨pl.isList.typeIs, fun a e => ?_⟩
      cases e
      obtain ⟨o, n, e, c, hd, _⟩ := pl
      exact ⟨o, e, hd⟩
    · refine ⟨⟨o, I.kIn p o hk, hc⟩, fun a e => ?_⟩
      cases e
      exact ⟨o, I.kIn _ o hk, hd⟩
    · have z : ∃ o, s.heap.get? p = some o ∧ o.ExactDict := by
        rcases hk with ⟨kvs, hk⟩ | ⟨kvs, hk⟩
        · obtain ⟨_, _, _, _, o, _, _, e, ex, _⟩ := I.hok p _ hk
          exact ⟨o, e, ex⟩
        · obtain ⟨_, _, _, _, o, _, _, e, ex, _⟩ := I.hok p _ hk
          exact ⟨o, e, ex⟩
      obtain ⟨o, e, ex⟩ := z
      refine ⟨⟨o, e, ex.1⟩, fun a e2 => ?_⟩
      cases e2
      exact ⟨o, e, ex.2.1⟩
    · obtain ⟨o, _, _, _, e, ex, _⟩ := I.hok p _ hk
      refine ⟨⟨o, e, ex.1⟩, fun a e2 => ?_⟩
      cases e2
      exact ⟨o, e, ex.2.1⟩
  | _ => exact False.elim ty
def tBM (K : PySem.W.Frag) (T : String) (r : V → List V → Hp → VK → Prop) (to : TE) (t : TA) : TE := fun σ H Q => to σ H fun x H1 => tyV K T x H1 ∧ t σ H1 fun xs H2 => r x xs H2 Q
variable {o e : Expr} {es : List Expr} {to : TE} {t : TA} {name : Str} {apos cpos : Pos} {T id : String} {r : V → List V → Hp → VK → Prop}
theorem pe_bm (pa : PlainAttrs T) (slot : Slot T name id) (hty : typeOf (.builtin id) = pure (.type "method_descriptor")) (hm : MtR X id r) (ho : PE X o to) (ha : PA X (e :: es) t)
    (hbase : attributeBase o name X.env (eval o X.env) = eval o X.env := by rfl)
    (hfew : ((backTo cpos (starEach (e :: es) X.env)).all (fun x => !x.1) && (backToKw cpos (keywordEach [] X.env)).all (fun x => x.1.isSome)
      && decide ((e :: es).length + ([] : List Keyword).length + (if ([] : List Keyword).isEmpty then 0 else 1) < 30)) = true := by rfl)
    (hline : (apos.endLine == cpos.line) = true := by rfl) (hs : starEach (e :: es) X.env = (false, eval e X.env) :: starEach es X.env := by rfl) (hplain : (backTo cpos (starEach es X.env)).any (·.1) = false := by rfl) :
    PE X (.Call (.Attribute o name apos) (e :: es) [] cpos) (tBM X.K T r to t) := by
  intro pins s σ H Q I h
  refine wpAny_Call_method_late hbase hfew hline rfl (thn (ho pins s σ H _ I h) fun v s1 ⟨x, H1, I1, r1, ty, q1⟩ => ?_)
  obtain ⟨h1, h2⟩ := tyV_is I1 r1 ty
  refine ⟨T, id, pa, slot, hty, h1, h2, ?_⟩
  have hA := ha cpos pins s1 σ H1 _ I1 q1
  rw [hs] at hA ⊢
  refine Calls.callWith_builtin (by show (false || (backTo cpos (starEach es X.env)).any (·.1)) = false; rw [hplain] <;> rfl) (Calls.evalArgs_plain ?_)
  exact thn hA fun us s2 ⟨vs, H2, I2, r2, q2⟩ => hm pins s2 σ H2 x vs v us Q I2 r1 r2 q2
/- xs.append(e), list.index on a module's tuple .. are MtR facts of 06m -/
end
end L2

namespace L2
open PySem PySem.Spec PyProof.Rows

def MtM (X : Cx) (id : String) (r : V → List V → Hp → VK → Prop) : Prop :=
  ∀ (pins : List (Addr × Obj)) (s : Shared) (σ : St) (H : Hp) (x : V) (xs : List V) (v : Value) (us : List Value) (Q : VK), Inv X pins σ H s → RelV x v → Vals xs us → r x xs H Q →
    wpAny (model X.prog X.w) X.A (call (.builtin id) (v :: us)) (EP X pins σ Q) X.xe s

/-! ### lists of values -/
theorem Vals.one : ∀ {x : V} {us : List Value}, Vals [x] us → ∃ u, us = [u] ∧ RelV x u
  | _, _, .cons r .nil => ⟨_, rfl, r⟩
theorem Vals.two : ∀ {x y : V} {us : List Value}, Vals [x, y] us → ∃ u v, us = [u, v] ∧ RelV x u ∧ RelV y v
  | _, _, _, .cons r (.cons q .nil) => ⟨_, _, rfl, r, q⟩
theorem Vals.zero : ∀ {us : List Value}, Vals [] us → us = []
  | _, .nil => rfl
theorem Vals.rep {xs : List V} {us : List Value} (h : Vals xs us) : ∀ k : Nat, Vals (List.replicate k xs).flatten (List.replicate k us).flatten
  | 0 => .nil
  | k + 1 => by
    rw [List.replicate_succ, List.replicate_succ, List.flatten_cons, List.flatten_cons]
    exact Vals.append h (Vals.rep h k)
theorem foldl_rep (its : List Value) : ∀ (k : Nat) (acc : List Value),
    List.foldl (fun x1 x2 => x1 ++ x2) acc.toArray (List.replicate k its.toArray) = (acc ++ (List.replicate k its).flatten).toArray
  | 0, acc => by simp
  | k + 1, acc => by
    have e : acc.toArray ++ its.toArray = (acc ++ its).toArray := by simp
    have e2 : (acc ++ its) ++ (List.replicate k its).flatten = acc ++ (List.replicate (k + 1) its).flatten := by
      rw [List.replicate_succ, List.flatten_cons, List.append_assoc]
    rw [← e2, ← foldl_rep its k (acc ++ its), ← e, List.replicate_succ, List.foldl_cons]

section
variable {X : Cx} {pins : List (Addr × Obj)} {σ : St} {H : Hp} {s : Shared} {l b : Addr} {xs ys zs : List V}

/-! ### the two steps: a tracked list is rewritten, a new list is laid -/
theorem Inv.lset {its its' : List Value} {n : Nat} {f : Array Value → Array Value} {t' : Nat} (I : Inv X pins σ H s) (hH : H l = some (.lst xs))
    (e : s.heap.get? l = some { cls := .type "list", data := .seq its.toArray n }) (hf : f its.toArray = its'.toArray) (hv : Vals ys its') (hz : ys.length ≤ sizeLine) :
    Inv X pins σ (upd H l (.lst ys)) { s with heap := s.heap.update l (Obj.mapSeq f), toks := t' } := by
  have q := PySem.IsL.update e f
  rw [hf] at q
  refine I.write (x := l) (e := l) (by rw [hH]; exact trivial) (.inl rfl) (fun b' u hb hu => (Heap.get?_update_other s.heap (Obj.mapSeq f) (Ne.symm hb)).trans hu) ⟨_, q⟩ ?_
  exact ⟨hz, its', _, hv, q⟩
theorem Inv.lnew {its : List Value} {t' : Nat} (I : Inv X pins σ H s) (hv : Vals ys its) (hz : ys.length ≤ sizeLine) :
    Inv X pins σ (upd H s.heap.objs.size (.lst ys)) { s with heap := s.heap.push { cls := .type "list", data := .seq its.toArray }, toks := t' } :=
  I.laid (fun _ _ q => Heap.get?_push_of_some _ q) (Nat.le_refl _) ⟨hz, its, 0, hv, Heap.get?_push_size _ rfl⟩
theorem Inv.fresh (I : Inv X pins σ H s) : H s.heap.objs.size = none := I.hok.fresh (Nat.le_refl _)
theorem Inv.lstM (I : Inv X pins σ H s) (hH : H l = some (.lst xs)) : xs.length ≤ sizeLine ∧ ∃ (its : List Value) (n : Nat), Vals xs its ∧ xs.length = its.length ∧ s.heap.get? l = some { cls := .type "list", data := .seq its.toArray n } := by
  obtain ⟨z, its, n, r, e⟩ := I.hok l _ hH
  exact ⟨z, its, n, r, r.length, e⟩

end

section
variable {X : Cx}

/-! ### methods -/
def rAppend : V → List V → Hp → VK → Prop := fun x vs H Q => ∃ l xs y, x = .ref l ∧ vs = [y] ∧ H l = some (.lst xs) ∧ xs.length < sizeLine ∧ Q .non (upd H l (.lst (xs ++ [y])))
theorem mt_append : MtM X "list.append" rAppend := by
  intro pins s σ H x vs v us Q I rx rv h
  obtain ⟨l, xs, y, rfl, rfl, hH, hz, q⟩ := h
  cases rx
  obtain ⟨u, rfl, ru⟩ := rv.one
  obtain ⟨z, its, n, r, hl, e⟩ := I.lstM hH
  refine call_meets F.slot_list_append ⟨_, e, rfl⟩ F.entry_list_append (F.args_list_append_2 _ _) (PySem.list_append l its.toArray n u (by rw [List.size_toArray]; omega)) ⟨e, ?_⟩
  refine ⟨.non, _, I.lset (its' := its ++ [u]) hH e (by simp) (r.append (.cons ru .nil)) ?_, rfl, q⟩
  rw [List.length_append, List.length_singleton]
  omega

/-! ### list + list, list += list, list * int -/
def rCat : R2 := fun x y H Q => ∃ l b xs zs, x = .ref l ∧ y = .ref b ∧ H l = some (.lst xs) ∧ H b = some (.lst zs) ∧ xs.length + zs.length ≤ sizeLine ∧ ∀ p, H p = none → Q (.ref p) (upd H p (.lst (xs ++ zs)))
theorem op_cat : OpR X (binaryOp .Add) rCat := by
  intro pins s σ H x y v u Q I rx ry h
  obtain ⟨l, b, xs, zs, rfl, rfl, hH, hB, hz, q⟩ := h
  cases rx
  cases ry
  obtain ⟨z, its, n, r, hl, e⟩ := I.lstM hH
  obtain ⟨z2, its2, n2, r2, hl2, e2⟩ := I.lstM hB
  refine PySem.P.add_list e e2 ?_ (by rw [List.size_toArray, List.size_toArray]; omega)
  have ea : its.toArray ++ its2.toArray = (its ++ its2).toArray := by simp
  rw [ea]
  exact ⟨.ref _, _, I.lnew (t' := s.toks) (r.append r2) (by rw [List.length_append]; omega), rfl, q _ I.fresh⟩
theorem len_rep {α : Type} (xs : List α) (k : Nat) : (List.replicate k xs).flatten.length = k * xs.length := by
  induction k with
  | zero => simp
  | succ k ih => rw [List.replicate_succ, List.flatten_cons, List.length_append, ih, Nat.succ_mul, Nat.add_comm]
/-! ### del xs[i] -/
end

/-! ### xs[a:b] = ys -/
section
variable {prog : Program} {w : World} {A : Around} {E : Value → Shared → Prop} {s : Shared}
set_option maxRecDepth 100000 in
end

section
variable {X : Cx}
end
end L2

namespace Att
open PySem PySem.W PySem.Calls PyProof.Rows

/-! ### the script -/
theorem ints_of_wellAll {P : Params} {h : Heap} : ∀ (ns : List Int) (vs : List Value), WellAll P h vs (ns.map WData.int) → IntsAre vs ns := by
  intro ns
  induction ns with
  | nil =>
    intro vs w
    rw [List.map_nil] at w
    cases w
    exact .nil
  | cons n ns ih =>
    intro vs w
    rw [List.map_cons] at w
    cases w with
    | cons a b =>
      cases a
      exact .cons _ _ (ih _ b)

theorem script_of {l : OpenLaw} {n : Nat} (hn : l.most = some n) {P : Params} {h : Heap} {args : List WData} {vals : List Value}
    (hpre : l.row.toRowW.claim.pre args = true) (hwl : WellAll P h vals args) :
    ∃ a vs ns, vals = [Value.ref a] ∧ args = [WData.list (ns.map WData.int)] ∧ h.get? a = some { cls := .type "list", data := .seq vs.toArray } ∧ IntsAre vs ns ∧ ns.length ≤ n := by
  have hsh : WShape.hasAll [] args [.list .int] = true := (pre_splitW hpre).1
  have hc : l.pre.holds [] { args := args } = true := (pre_splitW hpre).2
  obtain ⟨d, r, rfl, h1, h2⟩ := hasAllW_cons hsh
  obtain rfl := hasAllW_nil h2
  obtain ⟨xs, rfl, h3⟩ := hasW_list h1
  obtain ⟨ns, rfl⟩ := items_int h3
  have hlen : ns.length ≤ n := by
    unfold OpenLaw.pre at hc
    have h4 : (WTm.not (.lt (.lit (.int (n : Int))) (.len (.arg 0)))).holds [] { args := [.list (ns.map .int)] } = true := by
      have h4 := (holds_andW hc).1
      rw [hn] at h4
      exact h4
    have h5 := condW_of h4 (w_not (w_lt w_lit (w_len_list (w_arg rfl))))
    rw [List.length_map] at h5
    refine Nat.le_of_not_lt fun q => ?_
    have q' : (n : Int) < ((ns.length : Nat) : Int) := by omega
    first
      | (rw [decide_eq_true q'] at h5; exact absurd h5 (by decide))
      | (simp at h5; omega)
  cases hwl with
  | cons w1 w2 =>
    cases w2
    cases w1 with
    | list ho hall => exact ⟨_, _, ns, rfl, rfl, ho, ints_of_wellAll ns _ hall, hlen⟩

theorem post_true (l : OpenLaw) (args : List WData) : l.row.toRowW.claim.post args (.bool true) args = true :=
  postW_of (r := l.row.toRowW) (X := (true == true))
    (show WShape.has [] (.bool true) .bool = true by first | rfl | decide | simp [WShape.has, WShape.arms, WShape.armsAll])
    (show (WTm.eq .res (.lit (.bool true))).value [] { args := args, res := some (.bool true), after := args } = some (.bool (true == true)) from w_eq_bool (w_res rfl) w_lit) rfl

/-! ### the attachment: holds_open's last premise (the goal 'hc' behind k_head) from a wpAny of the law's body -/
/-- the same from a codeAny of the CALL (for a layer whose function contracts speak of calls) -/
theorem attach_call {l : OpenLaw} {n : Nat} {q : Program} {loose : List Str} {XP : (Str → Option Value) → Heap → Prop} {YP : World → Heap → Prop} {d : DefRec}
    (hn : l.most = some n) (hdf : d.params.defaults = [])
    (call : ∀ (w : World) (s₀ s₁ : Shared) (mg mb : Str → Option Value) (fa : Addr) (o : Obj) (pm cd doc : Value) (a : Addr) (vs : List Value) (ns : List Int),
      Ground q loose [] XP w s₀ mg mb s₁.heap → YP w s₁.heap →
      s₁.heap.get? fa = some o → o.data = .func (docDef d.name d.params d.body d.scope pm cd doc) → s₁.heap.CodeRec cd d.name → mg d.name = some (.ref fa) →
      s₁.heap.get? a = some { cls := .type "list", data := .seq vs.toArray } → IntsAre vs ns → ns.length ≤ n → s₁.gens = #[] →
      codeAny (model l.prog w) callerA (.call (.ref fa) ⟨[.ref a], []⟩) (fun r s' => r = .ok (.ret (.bool true)) ∧ OldK s₁.heap s'.heap ∧ s'.os = s₁.os ∧ AllBare s'.gens) s₁) :
    WalkO q loose XP YP l.row.toRowW d [] (fun f vs => PySem.call f vs) := by
  intro w s₀ s₁ mg mb G Y fa o pm cd doc dV kV ho hd hcd hD hmg hg args vals as hpre hlay hrd hwl hlo
  obtain rfl : dV = .none := Dflts.none hD hdf
  obtain rfl : kV = .none := Dflts.noKw hD
  obtain ⟨a, vs, ns, rfl, rfl, hobj, hints, hlen⟩ := script_of hn hpre hwl
  refine enter_call (codeAny_mono (call w s₀ s₁ mg mb fa o pm cd doc a vs ns G Y ho (fd_plain hd) hcd hmg hobj hints hlen hg) fun r s' hq => ?_)
  obtain ⟨rfl, h2, h3, h4⟩ := hq
  exact ⟨.inl ⟨.bool true, .bool true, [], rfl, fun _ => rfl, .bool true, post_true l _, fun _ => ⟨List.Pairwise.nil, fun _ hm => (nomatch hm)⟩⟩, h2, h3, h4⟩

/-! ### rules over ANY heap (no ledger) from facts about the written part K: the library's own take a ledger (News) for what they write -/
section
variable {prog : Program} {w : World} {A : Around} {E : Value → Shared → Prop} {s : Shared} {K : Frag}

/-! the whole heap as the ledger: makes every rule that writes through a ledger a rule over any heap -/
end
end Att

namespace L2
open PySem PySem.Spec PyProof.Rows

theorem vals_ints : ∀ {vs : List Value} {ns : List Int}, IntsAre vs ns → Vals (ns.map V.int) vs
  | _, _, .nil => .nil
  | _, _, .cons n t h => .cons ⟨t, rfl⟩ (vals_ints h)

/-- nothing is tracked but the script, known to the object (or it is an object of the module) -/
def Only (H : Hp) : Prop := ∀ b, H b = none ∨ ∃ o xs, H b = some (.frz o (.lst xs))

/-- THE HEAD: the law's promise, at the heap behind the top. F, the promise of the law's def, may use that base is part of the heap (so K.In base, base.Ns mainGlobals mg stand in Mod) -/
theorem law_call {P : Program} {w : World} {K : PySem.W.Frag} {mg mb : Str → Option Value} {CX : CXT} {k : Nat} {fa a : Addr} {fd : FuncData} {x : Str} {sp : Sp} {s₁ : Shared} {vs : List Value} {ns : List Int}
    (KX : K.In s₁.heap) (hns : s₁.heap.Ns mainGlobals mg) (hb : s₁.heap.Ns builtinsNs mb) (hbb : ∀ x : Str, x ≠ "__name__" → mb x = bootBuiltins x) (hlim : s₁.heap.NoLimit) (hg : s₁.gens = #[])
    (ha : s₁.heap.get? a = some { cls := .type "list", data := .seq vs.toArray }) (hi : IntsAre vs ns) (hl : ns.length ≤ sizeLine) (hr : Room k callerA)
    (F : ∀ base : Heap, K.In base → base.Ns mainGlobals mg → FnOk P w K mg base CX k fa fd [x] sp) (hbind : ∀ (s : Shared) (u : Value), BindsTo s fd ⟨[u], []⟩ [(x, u)])
    (hsp : ∀ H : Hp, Only H → SqL K H a (ns.map V.int) → sp [.ref a] H (fun v _ => v = .bl true) fun _ _ _ => False)
    (hCX : ∀ H e s', CX [] H s₁ (fun _ _ _ => False) e s' → False) :
    codeAny (model P w) callerA (.call (.ref fa) ⟨[.ref a], []⟩) (fun r s' => r = .ok (.ret (.bool true)) ∧ OldK s₁.heap s'.heap ∧ s'.os = s₁.os ∧ AllBare s'.gens) s₁ := by
  have rv := vals_ints hi
  have lenV := hi.length
  -- from an abstract heap in which nothing but the script may be tracked
  have core : ∀ H : Hp, Only H → SqL K H a (ns.map V.int) → HOk P w H s₁.heap → (∀ b, H b ≠ none → b = a) → (H a ≠ none → K.lookup a = none) →
      codeAny (model P w) callerA (.call (.ref fa) ⟨[.ref a], []⟩) (fun r s' => r = .ok (.ret (.bool true)) ∧ OldK s₁.heap s'.heap ∧ s'.os = s₁.os ∧ AllBare s'.gens) s₁ := by
    intro H hO hS hok hA hK
    have base_of : ∀ {b : Addr} {o : Obj}, s₁.heap.get? b = some o → H b = none → (hidT s₁.heap H).get? b = some o := fun e n => hidT_get e n
    have noA : ∀ {b : Addr} {o : Obj} {es : Array DictEntry} {ep : Nat}, s₁.heap.get? b = some o → o.data = .dict es ep → H b = none := fun {b o es ep} e d => by
      cases q : H b with
      | none => rfl
      | some u =>
        have e' : b = a := hA b (by rw [q]; simp)
        subst e'
        rw [ha] at e; cases e
        have d' : Data.seq vs.toArray _ = Data.dict es ep := d
        cases d'
    have nsK : ∀ {b : Addr} {m : Str → Option Value}, s₁.heap.Ns b m → (hidT s₁.heap H).Ns b m := fun {b m} ⟨o, es, ep, e, d, r⟩ => ⟨o, es, ep, base_of e (noA e d), d, r⟩
    have hKb : K.In (hidT s₁.heap H) := fun b o e => base_of (KX b o e) (by
      cases q : H b with
      | none => rfl
      | some u =>
        have e' : b = a := hA b (by rw [q]; simp)
        subst e'
        rw [hK (by rw [q]; simp)] at e; cases e)
    have hM : Mod K mg (hidT s₁.heap H) := ⟨hKb, nsK hns, ⟨mb, nsK hb, hbb⟩, let ⟨mc, h1, h2⟩ := hlim; ⟨mc, nsK h1, h2⟩⟩
    have e0 : Env0 P w K mg (hidT s₁.heap H) callerA [] s₁ H := ⟨rfl, hM, fun b o e => of_hidT e, Nat.le_of_eq (hidT_size _ _), trivial, fun b hb => absurd (show b ∈ ([] : List Addr) from hb) (by simp), hok, .of_eq hg⟩
    refine codeAny_mono ((F _ hKb (nsK hns)).run callerA [] s₁ H ⟨[.ref a], []⟩ [.ref a] [.ref a] _ _ hr e0 (hbind s₁ (.ref a)) (.cons rfl .nil) (hsp H hO hS)) fun r s' h => ?_
    cases r with
    | error e => exact (hCX H e s' h).elim
    | ok fl =>
      cases fl with
      | next => exact False.elim h
      | brk => exact False.elim h
      | cont => exact False.elim h
      | ret u =>
        obtain ⟨v, H', os, bare, un, hok', r', q⟩ := h
        have q' : v = .bl true := q
        subst q'
        obtain rfl : u = Value.bool true := r'
        refine ⟨rfl, OldK.of_keep fun b o e => ?_, os, bare⟩
        cases q : H b with
        | none => exact un.keep b o e q (by intro z; exact absurd (show b ∈ ([] : List Addr) from z) (by simp)) (by simp)
        | some u =>
          rcases hO b with z | ⟨ob, xs, z⟩
          · rw [q] at z; cases z
          · have z2 := un.frzs b ob _ z
            obtain ⟨e1, _⟩ := hok b _ z
            obtain ⟨e2, _⟩ := hok' b _ z2
            rw [e] at e1; cases e1
            exact e2
  cases hk : K.lookup a with
  | some o =>
    -- the script is one of the module's own objects
    have e := KX a o hk
    rw [ha] at e
    cases e
    refine core (fun _ => none) (fun _ => .inl rfl) (.inr ⟨_, vs.toArray, _, hk, rfl, rfl, rfl, by rw [List.size_toArray, lenV]; exact hl, by simpa using rv⟩) (fun b u z => by have z' : (none : Option HO) = some u := z; cases z') (fun b z => absurd rfl z) fun z => absurd rfl z
  | none =>
    refine core (fun b => if b = a then some (.frz { cls := .type "list", data := .seq vs.toArray } (.lst (ns.map V.int))) else none) (fun b => ?_) (.inl (.inr ⟨{ cls := .type "list", data := .seq vs.toArray }, if_pos rfl⟩)) (fun b u z => ?_) (fun b z => ?_) fun _ => hk
    · by_cases hb : b = a
      · exact .inr ⟨_, _, if_pos hb⟩
      · exact .inl (if_neg hb)
    · by_cases hb : b = a
      · have z' := (if_pos hb).symm.trans z
        cases z'
        subst hb
        exact ⟨ha, by rw [List.length_map]; exact hl, vs, _, rv, ha⟩
      · have z' := (if_neg hb).symm.trans z
        cases z'
    · by_cases hb : b = a
      · exact hb
      · exact absurd (if_neg hb) z
end L2

namespace L2
open PySem PySem.Spec PyProof.Rows

abbrev KOf {K : PySem.W.Frag} {h : Heap} (_ : K.In h) : PySem.W.Frag := K

/-- the goal that k_head leaves (case hc), from the law's promise. F gives the function object fd (K's own) once, then the promise over every base -/
theorem walk_of {l : PySem.W.OpenLaw} {n k : Nat} {q : Program} {loose : List Str} {XP : (Str → Option Value) → Heap → Prop} {YP : World → Heap → Prop} {d : DefRec} {K : Params → PySem.W.Frag} {CX : World → CXT} {sp : World → Sp} {x : Str}
    (hn : l.most = some n) (hn2 : n ≤ sizeLine) (hdf : d.params.defaults = []) (hr : Room k callerA)
    (hY : ∀ (w : World) (h : Heap), YP w h → (K w.params).In h)
    (F : ∀ (w : World) (mg : Str → Option Value) (fa : Addr) (h : Heap), (K w.params).In h → h.Ns mainGlobals mg → mg d.name = some (.ref fa) →
      ∃ fd : FuncData, (∀ (s : Shared) (u : Value), BindsTo s fd ⟨[u], []⟩ [(x, u)]) ∧
        ∀ base : Heap, (K w.params).In base → base.Ns mainGlobals mg → FnOk l.prog w (K w.params) mg base (CX w) k fa fd [x] (sp w))
    (hsp : ∀ (w : World) (H : Hp) (a : Addr) (ns : List Int), ns.length ≤ n → Only H → SqL (K w.params) H a (ns.map V.int) → sp w [.ref a] H (fun v _ => v = .bl true) fun _ _ _ => False)
    (hCX : ∀ (w : World) (H : Hp) (s : Shared) (e : Value) (s' : Shared), CX w [] H s (fun _ _ _ => False) e s' → False) :
    PySem.W.WalkO q loose XP YP l.row.toRowW d [] (fun f vs => PySem.call f vs) := by
  refine Att.attach_call hn hdf fun w s₀ s₁ mg mb fa o pm cd doc a vs ns G Y ho hd hcd hmg hobj hints hlen hg => ?_
  have KX := hY w _ Y
  obtain ⟨fd, hb, hF⟩ := F w mg fa _ KX G.T.g hmg
  exact law_call KX G.T.g G.T.b G.T.builtins G.T.nolimit hg hobj hints (Nat.le_trans hlen hn2) hr hF hb (fun H hO hS => hsp w H a ns hlen hO hS) fun H e s' => hCX w H s₁ e s'
end L2

/- THE LAST THEOREM (shape; LID, My.* are yours):
   My.Adr: a structure of the addresses that your layer names (classes, functions); My.Txt K t: a structure (Prop) of the equations over K;
   My.txt_mk : {K} {implicit addresses ..} (e1 : nsIn K mainGlobals "law" = some (some (.ref f))) (e2 : K.lookup f = some ⟨oc, od, .func (fnOf "law" "law" params body scope dV kV doc pm an cdv ct), sl⟩) (e3 : codeIn K cdv "law" = true) .. : ∃ t, My.Txt K t

set_option maxRecDepth 100000 in set_option maxHeartbeats 0 in theorem PySem.Challenge.cw_LID_holds : PySem.Challenge.rw_LID.Holds := by
  w_on; o_law; k_head; (case hw => w_witness2)
  k_fill
  refine L2.walk_of (l := PySem.Challenge.rw_LID) (n := 63) (k := 40) (x := "script") (CX := fun w => ..) (sp := fun _ => My.sp_law) rfl (by decide) rfl ⟨rfl, by decide, by decide⟩ (fun w h Y => PySem.W.kIn_of Y) ?F ?S ?C
  case F =>
    intro w mg fa h KX G hmg
    have T : ∃ t, My.Txt (L2.KOf KX) t := by
      dsimp only [L2.KOf]                          -- K must stand as «<heap const> w.params» for k_is
      refine' My.txt_mk ?e1 ?e2 ?e3 ..
      (case e1 => PySem.W.k_is)                    -- in the order: a name -> its address -> its object -> its parts
      (case e2 => PySem.W.k_is)
      ..
    obtain ⟨t, T⟩ := T
    have e0 := hmg.symm.trans (PySem.W.mg_of KX G T.law)
    cases e0                                       -- fa is the law's own address
    exact ⟨_, fun s u => .of_eq rfl, fun base kb nb => My.law_fn T kb nb⟩     -- if «.of_eq rfl» comes too early: refine' ⟨_, ?b, fun base kb nb => My.law_fn T kb nb⟩; exact fun s u => .of_eq rfl
  case S => exact fun w H a ns hl hO hS => ..
  case C => exact ..
(the tactic k_is has no namespace: write k_is) -/

/-! SHORT WORDS over the layer: a def of the text, its body, what a loop and a test want. -/
namespace L2
open PySem PySem.Spec PyProof.Rows

/-! ### the text by places -/
/-- the j-th statement of a class's body -/
def inClass (s : Stmt) (j : Nat) : Stmt := match s with
  | .ClassDef _ _ _ body _ _ _ _ _ _ _ => body.getD j (.Pass ⟨0, 0, 0, 0⟩)
  | _ => .Pass ⟨0, 0, 0, 0⟩
def defArgs (s : Stmt) : Arguments := match s with
  | .FunctionDef _ a _ _ _ _ _ _ _ _ => a
  | _ => { posonlyargs := [], args := [], vararg := none, kwonlyargs := [], kw_defaults := [], kwarg := none, defaults := [] }
def defBody (s : Stmt) : List Stmt := match s with
  | .FunctionDef _ _ b _ _ _ _ _ _ _ => b
  | _ => []
def defScope (s : Stmt) : Scope := match s with
  | .FunctionDef _ _ _ _ _ _ sc _ _ _ => sc
  | _ => { kind := .function, names := [], isGenerator := false, isCoroutine := false }

/-! ### no exception leaves a def -/
abbrev CX0 : CXT := fun _ _ _ _ _ _ => False
abbrev E0 : XK := fun _ _ _ => False
theorem pass0 {X : Cx} : Passes CX0 X E0 := fun _ _ _ _ _ _ _ h => h.elim

/-! ### a def (or method) of the text as it stands behind the top -/
structure Fun (K : PySem.W.Frag) (x qual : Str) (st : Stmt) (f : Addr) (fd : FuncData) : Prop where
  ex : ∃ (oc : Value) (od : Option Addr) (kV doc pm : Value) (an : Option Addr) (cdv ct : Value) (osl : Array (Option Value)),
    fd = PySem.W.fnOf x qual (defArgs st) (defBody st) (defScope st) .none kV doc pm an cdv ct ∧ K.lookup f = some ⟨oc, od, .func fd, osl⟩ ∧ PySem.W.codeIn K cdv qual = true
  kp : PySem.W.keepIn K (.ref f) = true
section
variable {P : Program} {w : World} {K : PySem.W.Frag} {mg : Str → Option Value} {base : Heap}
/-- THE RULE for a def: its body as a term of rules, and the reading of that term -/
theorem Fun.ok {x qual : Str} {st : Stmt} {f : Addr} {fd : FuncData} {N ps : List Str} {k : Nat} {sp : Sp} (F : Fun K x qual st f fd) (S : FnScope N ps (defScope st)) (len : ∀ vs H Q E, sp vs H Q E → vs.length = ps.length)
    (hbody : ∀ (cdv : Value) (A : Around) (outer : List Env) (s : Shared) (H : Hp) (vs : List V) (Q : VK) (E : XK), Room k (A.deeper (envOfC qual (defScope st) s.heap.objs.size f cdv)) → sp vs H Q E →
      ∃ t, PSs (cxOf CX0 P w K mg base N qual (defScope st) f cdv A outer s H E).nox (defBody st) t ∧ t { nx := fun _ H' => Q .non H', rt := Q } (start N vs) H) : FnOk P w K mg base CX0 (k + 1) f fd ps sp := by
  obtain ⟨oc, od, kV, doc, pm, an, cdv, ct, osl, rfl, lk, hcd⟩ := F.ex
  refine fn_of lk hcd S len fun A outer s H vs Q E hr hsp => ?_
  obtain ⟨t, h, q⟩ := hbody cdv A outer s H vs Q E hr hsp
  exact ⟨t, h.nox, q⟩
/-- how its arguments bind (no defaults): h is «fun _ _ _ _ _ _ us hl => match us, hl with | [_, _], _ => rfl», one _ a parameter -/
theorem Fun.binds {x qual : Str} {st : Stmt} {f : Addr} {fd : FuncData} {ps : List Str} (F : Fun K x qual st f fd)
    (h : ∀ (kV doc pm : Value) (an : Option Addr) (cdv ct : Value) (us : List Value), us.length = ps.length → bindArgs (PySem.W.fnOf x qual (defArgs st) (defBody st) (defScope st) .none kV doc pm an cdv ct) ⟨us, []⟩ = pure (ps.zip us)) : Binds K fd ps [] := by
  obtain ⟨oc, od, kV, doc, pm, an, cdv, ct, osl, rfl, lk, hcd⟩ := F.ex
  exact .all (h kV doc pm an cdv ct)
theorem fun_mk {x qual : Str} {st : Stmt} {f : Addr} {oc : Value} {od an : Option Addr} {osl : Array (Option Value)} {kV doc pm cdv ct : Value} (l : K.lookup f = some ⟨oc, od, .func (PySem.W.fnOf x qual (defArgs st) (defBody st) (defScope st) .none kV doc pm an cdv ct), osl⟩)
    (c : PySem.W.codeIn K cdv qual = true) (k : PySem.W.keepIn K (.ref f) = true) : Fun K x qual st f (PySem.W.fnOf x qual (defArgs st) (defBody st) (defScope st) .none kV doc pm an cdv ct) := ⟨⟨oc, od, kV, doc, pm, an, cdv, ct, osl, rfl, l, c⟩, k⟩
end
theorem hu_of {A : Around} {k : Nat} (hr : Room k A) : A.units + 1 < cLine := Nat.lt_of_le_of_lt (Nat.add_le_add_left (by decide : 1 ≤ 64) _) hr.units
/-! ### expressions in short: the name that stands in the i-th slot -/
section
variable {X : Cx}
theorem pv (i : Nat) {x : Str} {pos : Pos} (hN : X.N[i]? = some x := by rfl) (hv : Vis X.env.scope x := by first | exact Or.inl rfl | exact Or.inr (Or.inl rfl) | exact Or.inr (Or.inr rfl)) (hd : (x == ("__debug__" : Str)) = false := by decide)
    (hcd : (x == ("__classdict__" : Str)) = false := by decide) : PE X (.Name x pos) (tVar i) := pe_var hN hv hd hcd
end

/-! ### tests -/
theorem iteF {A B : Prop} (h : B) : if false = true then A else B := by
  rw [if_neg Bool.false_ne_true]
  exact h
theorem ite2 {c A B : Prop} [Decidable c] (h1 : c → A) (h2 : ¬ c → B) : if c then A else B := by
  by_cases h : c
  · rw [if_pos h]
    exact h1 h
  · rw [if_neg h]
    exact h2 h
/-! ### heaps -/
/-- all that was tracked is as it was -/
def Same (H H' : Hp) : Prop := ∀ b o, H b = some o → H' b = some o
theorem Same.refl (H : Hp) : Same H H := fun _ _ h => h
theorem Same.trans {H H1 H2 : Hp} (a : Same H H1) (b : Same H1 H2) : Same H H2 := fun c o h => b c o (a c o h)
theorem Same.free {H H' : Hp} (e : Same H H') {l : Addr} (h : H' l = Option.none) : H l = Option.none := by
  cases q : H l with
  | none => rfl
  | some o =>
    rw [e l o q] at h
    cases h
theorem Same.seq {K : PySem.W.Frag} {H H' : Hp} {a : Addr} {xs : List V} (e : Same H H') (h : SqL K H a xs) : SqL K H' a xs := by
  rcases h with (h | ⟨o, h⟩) | h
  · exact .inl (.inl (e _ _ h))
  · exact .inl (.inr ⟨o, e _ _ h⟩)
  · exact .inr h

end L2

set_option Elab.async false
set_option linter.all false
set_option maxRecDepth 100000
set_option Elab.async false
set_option linter.all false
set_option maxRecDepth 100000
namespace L2
open PySem PySem.Spec PyProof.Rows

end L2

namespace L2
open PySem PySem.Spec PyProof.Rows

section
variable (P : Program) (w : World)
end

section
variable {P : Program} {w : World} {H H' : Hp} {h h' : Heap} {a : Addr} {o : HO}
end

section
variable {P : Program} {w : World} {H : Hp} {h h' : Heap} {x e : Addr} {o' : HO}
end

section
variable {fs fs' ex ex' : List Addr} {H H1 H2 : Hp} {h h1 h2 h' : Heap} {a x e : Addr} {o : HO}
end

end L2

namespace L2
open PySem PySem.Spec PyProof.Rows

section
variable {X : Cx} {pins : List (Addr × Obj)} {σ : List (Option V)} {H H' : Hp} {s : Shared} {h' : Heap}

end

end L2

namespace L2
open PySem PySem.Spec PyProof.Rows
section
variable {X : Cx}

variable {a b : Expr} {ta tb : TE} {pos : Pos}
variable {tA tB' : TT} {rest : List Expr}
end
end L2

namespace L2
open PySem PySem.Spec PyProof.Rows

section
variable {X : Cx} {pins : List (Addr × Obj)} {σ : St} {H : Hp} {s : Shared} {a : Addr} {xs ys : List V}
end

section
variable {X : Cx} {pins : List (Addr × Obj)} {σ : St} {H : Hp} {s : Shared} {E : Value → Shared → Prop}
end

section
variable {X : Cx} {st : Stmt} {rest : List Stmt} {t u : TS} {e : Expr} {te : TE} {pos : Pos}
end

section
variable {X : Cx} {pos : Pos}
end

section
variable {X : Cx} {pos : Pos}
end

end L2

namespace L2
open PySem PySem.Spec PyProof.Rows
section
variable {X : Cx} {tg : Expr}
end

end L2

namespace L2
open PySem PySem.Spec PyProof.Rows

section
variable {X : Cx} {a b c : Expr} {ta tb tc : TE} {pos : Pos}

end

section
variable {X : Cx} {a b c : Expr} {ta tb tc : TE} {pos : Pos}
end
end L2

namespace L2
open PySem PySem.Spec PyProof.Rows

section
variable {prog : Program} {w : World} {A : Around} {E : Value → Shared → Prop} {s : Shared} {K : PySem.W.Frag} {x dx C f : Addr} {mA : Str → Option Value} {name : Str} {v : Value}

end

section
variable {P : Program} {w : World} {H H' : Hp} {h h' : Heap} {a C dx : Addr} {fs fs' : List (Str × V)}
end

section
variable {X : Cx} {pins : List (Addr × Obj)} {σ : St} {H : Hp} {s : Shared} {a C dx : Addr} {fs : List (Str × V)} {f : Str} {v : V} {A : Around} {E : Value → Shared → Prop}

end

section
variable {X : Cx} {o e value : Expr} {f : Str} {pos pos' tpos : Pos} {ta tv : TE}
end

section
variable {X : Cx} {pins : List (Addr × Obj)} {σ : St} {H : Hp} {s : Shared} {A : Around} {E : Value → Shared → Prop} {Q : Value → Shared → Prop} {c : Value} {b : Bool}
end
end L2

namespace L2
open PySem PySem.Spec PyProof.Rows

section
variable {X : Cx} {e : Expr} {es : List Expr} {te : TE} {t : TA} {pos : Pos}
end

section
variable {X : Cx} {pins : List (Addr × Obj)} {σ : St} {H : Hp} {s s' : Shared}
end

section
variable {X : Cx} {CX : CXT} {k : Nat} {f C : Addr} {fd : FuncData} {ps : List Str} {sp : Sp} {dvs : List V} {ds : List Value} {E : XK} {x m : Str} {p pos apos : Pos} {e o : Expr} {es : List Expr} {ta : TE} {t : TA}

end

section
variable {X : Cx} {CX : CXT} {k : Nat} {f C : Addr} {fd : FuncData} {ps ks : List Str} {sp : Sp} {E : XK} {x m : Str} {p pos apos kpos : Pos} {e o : Expr} {es : List Expr} {kws : List Keyword} {te ta : TE} {t tk : TA} {nm : Option Str}
variable {g : List Value → List Value → List Value} {gV : List V → List V → List V}
end

end L2

namespace L2
open PySem PySem.Spec PyProof.Rows
section
variable {X : Cx} {x : Str} {p pos : Pos} {e : Expr} {es : List Expr} {t : TA} {id T : String} {r : List V → Hp → VK → Prop}

end
end L2

namespace L2
open PySem PySem.Spec PyProof.Rows

section
variable {κ : Type} [DecidableEq κ]
def valV (kvs : List (κ × V)) (k : κ) : Option V := (kvs.find? fun kv => decide (kv.1 = k)).map (·.2)
def putK (kvs : List (κ × V)) (k : κ) (v : V) : List (κ × V) :=
  if (kvs.any fun kv => decide (kv.1 = k)) = true then kvs.map (fun kv => if kv.1 = k then (kv.1, v) else kv) else kvs ++ [(k, v)]
def dropK (kvs : List (κ × V)) (k : κ) : List (κ × V) := kvs.filter fun kv => decide (kv.1 ≠ k)

theorem valV_pos {p : κ × V} {r : List (κ × V)} {k : κ} (e : p.1 = k) : valV (p :: r) k = some p.2 := by simp [valV, List.find?_cons, e]
theorem valV_neg {p : κ × V} {r : List (κ × V)} {k : κ} (e : ¬ p.1 = k) : valV (p :: r) k = valV r k := by simp [valV, List.find?_cons, e]
theorem valV_any (k : κ) : ∀ kvs : List (κ × V), (kvs.any fun kv => decide (kv.1 = k)) = (valV kvs k).isSome
  | [] => rfl
  | p :: r => by
    rw [List.any_cons]
    by_cases e : p.1 = k
    · simp only [valV_pos e, decide_eq_true e, Bool.true_or, Option.isSome_some]
    · rw [valV_neg e, decide_eq_false e, Bool.false_or]; exact valV_any k r
theorem valV_map (k j : κ) (y : V) : ∀ kvs : List (κ × V), valV (kvs.map fun kv => if kv.1 = k then (kv.1, y) else kv) j = (valV kvs j).map fun x => if j = k then y else x
  | [] => rfl
  | p :: r => by
    have ih := valV_map k j y r
    rw [List.map_cons]
    by_cases h : p.1 = k
    · rw [if_pos h]
      by_cases e : p.1 = j
      · rw [valV_pos (p := (p.1, y)) e, valV_pos e, Option.map_some, if_pos (e.symm.trans h)]
      · rw [valV_neg (p := (p.1, y)) e, valV_neg e, ih]
    · rw [if_neg h]
      by_cases e : p.1 = j
      · rw [valV_pos (p := p) e, valV_pos e, Option.map_some, if_neg (fun z => h (e.trans z))]
      · rw [valV_neg (p := p) e, valV_neg e, ih]
theorem valV_snoc (k j : κ) (y : V) : ∀ kvs : List (κ × V), valV kvs k = none → valV (kvs ++ [(k, y)]) j = if j = k then some y else valV kvs j
  | [], _ => by
    by_cases e : k = j
    · rw [if_pos e.symm]; exact valV_pos (p := (k, y)) e
    · rw [if_neg (fun z => e z.symm)]; exact valV_neg (p := (k, y)) e
  | p :: r, hn => by
    rw [List.cons_append]
    have hk : ¬ p.1 = k := fun z => by rw [valV_pos z] at hn; cases hn
    rw [valV_neg hk] at hn
    have ih := valV_snoc k j y r hn
    by_cases e : p.1 = j
    · rw [valV_pos e, valV_pos e, if_neg (fun z => hk (e.trans z))]
    · rw [valV_neg e, valV_neg e, ih]
theorem valV_put (kvs : List (κ × V)) (k j : κ) (y : V) : valV (putK kvs k y) j = if j = k then some y else valV kvs j := by
  unfold putK
  by_cases a : (kvs.any fun kv => decide (kv.1 = k)) = true
  · rw [if_pos a, valV_map]
    rw [valV_any] at a
    by_cases e : j = k
    · obtain ⟨x, hx⟩ := Option.isSome_iff_exists.mp a
      rw [if_pos e, e, hx, Option.map_some, if_pos rfl]
    · rw [if_neg e]
      cases valV kvs j with
      | none => rfl
      | some x => rw [Option.map_some, if_neg e]
  · rw [if_neg a]
    refine valV_snoc k j y kvs ?_
    rw [valV_any] at a
    cases q : valV kvs k with
    | none => rfl
    | some x => rw [q] at a; exact (a rfl).elim
theorem length_putK (kvs : List (κ × V)) (k : κ) (v : V) : (putK kvs k v).length ≤ kvs.length + 1 := by
  unfold putK
  split
  · rw [List.length_map]; omega
  · rw [List.length_append, List.length_cons, List.length_nil]; omega
theorem RelO.isSome_eq {o : Option V} {u : Option Value} (r : RelO o u) : o.isSome = u.isSome := by
  cases o with
  | none => cases u with
    | none => rfl
    | some _ => exact (show False from r).elim
  | some _ => cases u with
    | none => exact (show False from r).elim
    | some _ => rfl
theorem RelO.getD {o : Option V} {u : Option Value} {d : V} {d' : Value} (r : RelO o u) (rd : RelV d d') : RelV (o.getD d) (u.getD d') := by
  cases o with
  | none => cases u with
    | none => exact rd
    | some _ => exact (show False from r).elim
  | some _ => cases u with
    | none => exact (show False from r).elim
    | some _ => exact r

theorem KV.val {kvs : List (κ × V)} {vs : List (κ × Value)} (r : KV kvs vs) (k : κ) : RelO (valV kvs k) (valueAt vs k) := by
  unfold KV at r
  induction r with
  | nil => exact True.intro
  | @cons p q ps qs h t ih =>
    obtain ⟨h1, h2⟩ := h
    by_cases e : p.1 = k
    · have e' : q.1 = k := h1.symm.trans e
      have b : valueAt (q :: qs) k = some q.2 := by simp [valueAt, List.find?_cons, e']
      rw [valV_pos e, b]; exact h2
    · have e' : ¬ q.1 = k := fun z => e (h1.trans z)
      have b : valueAt (q :: qs) k = valueAt qs k := by simp [valueAt, List.find?_cons, e']
      rw [valV_neg e, b]; exact ih
theorem KV.any {kvs : List (κ × V)} {vs : List (κ × Value)} (r : KV kvs vs) (k : κ) : (kvs.any fun kv => decide (kv.1 = k)) = vs.any fun kv => decide (kv.1 = k) := by
  unfold KV at r
  induction r with
  | nil => rfl
  | cons h t ih => rw [List.any_cons, List.any_cons, ih, h.1]
theorem KV.repl {kvs : List (κ × V)} {vs : List (κ × Value)} (r : KV kvs vs) (k : κ) {y : V} {u : Value} (ry : RelV y u) :
    KV (kvs.map fun kv => if kv.1 = k then (kv.1, y) else kv) (vs.map fun kv => if kv.1 = k then (kv.1, u) else kv) := by
  unfold KV at r ⊢
  induction r with
  | nil => exact .nil
  | @cons p q ps qs h t ih =>
    rw [List.map_cons, List.map_cons]
    refine .cons ?_ ih
    obtain ⟨h1, h2⟩ := h
    by_cases e : p.1 = k
    · rw [if_pos e, if_pos (h1.symm.trans e)]; exact ⟨h1, ry⟩
    · rw [if_neg e, if_neg (fun z => e (h1.trans z))]; exact ⟨h1, h2⟩
theorem KV.put {kvs : List (κ × V)} {vs : List (κ × Value)} (r : KV kvs vs) (k : κ) {y : V} {u : Value} (ry : RelV y u) : KV (putK kvs k y) (stored vs k u) := by
  unfold putK stored
  rw [r.any k]
  by_cases e : (vs.any fun kv => decide (kv.1 = k)) = true
  · rw [if_pos e, if_pos e]; exact r.repl k ry
  · rw [if_neg e, if_neg e]; exact Paired.snoc r ⟨rfl, ry⟩
theorem KV.drop {kvs : List (κ × V)} {vs : List (κ × Value)} (r : KV kvs vs) (k : κ) : KV (dropK kvs k) (without vs k) := by
  unfold KV at r ⊢
  unfold dropK without
  induction r with
  | nil => exact .nil
  | @cons p q ps qs h t ih =>
    obtain ⟨h1, h2⟩ := h
    rw [List.filter_cons, List.filter_cons]
    by_cases e : p.1 = k
    · have a : ¬ decide (p.1 ≠ k) = true := by simp [e]
      have b : ¬ decide (q.1 ≠ k) = true := by simp [h1.symm.trans e]
      rw [if_neg a, if_neg b]; exact ih
    · have e' : ¬ q.1 = k := fun z => e (h1.trans z)
      have a : decide (p.1 ≠ k) = true := by simp [e]
      have b : decide (q.1 ≠ k) = true := by simp [e']
      rw [if_pos a, if_pos b]; exact .cons ⟨h1, h2⟩ ih
theorem KV.keys {kvs : List (κ × V)} {vs : List (κ × Value)} (r : KV kvs vs) : kvs.map (·.1) = vs.map (·.1) := by
  unfold KV at r
  induction r with
  | nil => rfl
  | cons h t ih => rw [List.map_cons, List.map_cons, ih, h.1]
theorem KV.length {kvs : List (κ × V)} {vs : List (κ × Value)} (r : KV kvs vs) : kvs.length = vs.length := Paired.length r
end


theorem kV_is {P : Program} {w : World} {k : Key} {u : Value} (r : RelV (kV k) u) : (mixKind P w).is k u = true := by
  cases k with
  | inl i => obtain ⟨t, e⟩ := (show ∃ t, u = Value.int i t from r); subst e; exact mixKind_int P w i t
  | inr x => obtain ⟨t, e⟩ := (show ∃ t, u = Value.str x t from r); subst e; exact mixKind_str P w x t
theorem items_are {P : Program} {w : World} : ∀ {ks : List Key} {us : List Value}, Vals (ks.map kV) us → ItemsAre (mixKind P w) ks us
  | [], _, r => by rw [List.map_nil] at r; cases r; exact .nil
  | k :: ks, _, r => by
    rw [List.map_cons] at r
    cases r with
    | cons h t => exact .cons (kV_is h) (items_are t)

abbrev KT (H : Hp) : List (List Key × V) → List (List Key × Addr × Value) → Prop := Paired fun p q => p.1 = q.1 ∧ H q.2.1 = some (.tup (p.1.map kV)) ∧ RelV p.2 q.2.2
theorem KT.val {H : Hp} {kvs : List (List Key × V)} {xs : List (List Key × Addr × Value)} (r : KT H kvs xs) (k : List Key) : RelO (valV kvs k) ((atKey xs k).map (·.2)) := by
  induction r with
  | nil => exact True.intro
  | @cons p q ps qs h t ih =>
    obtain ⟨h1, _, h2⟩ := h
    by_cases e : p.1 = k
    · have e' : q.1 = k := h1.symm.trans e
      have b : atKey (q :: qs) k = some q.2 := by simp [atKey, List.find?_cons, e']
      rw [valV_pos e, b]; exact h2
    · have e' : ¬ q.1 = k := fun z => e (h1.trans z)
      have b : atKey (q :: qs) k = atKey qs k := by simp [atKey, List.find?_cons, e']
      rw [valV_neg e, b]; exact ih
theorem KT.repl {H : Hp} {kvs : List (List Key × V)} {xs : List (List Key × Addr × Value)} (r : KT H kvs xs) (k : List Key) {y : V} {u : Value} (ry : RelV y u) :
    KT H (kvs.map fun kv => if kv.1 = k then (kv.1, y) else kv) (xs.map (putAt k u)) := by
  induction r with
  | nil => exact .nil
  | @cons p q ps qs h t ih =>
    rw [List.map_cons, List.map_cons]
    refine .cons ?_ ih
    obtain ⟨h1, h2, h3⟩ := h
    unfold putAt
    by_cases e : p.1 = k
    · rw [if_pos e, if_pos (h1.symm.trans e)]; exact ⟨h1, h2, ry⟩
    · rw [if_neg e, if_neg (fun z => e (h1.trans z))]; exact ⟨h1, h2, h3⟩
theorem KT.put {H : Hp} {kvs : List (List Key × V)} {xs : List (List Key × Addr × Value)} (r : KT H kvs xs) (k : List Key) {b : Addr} {y : V} {u : Value} (hb : H b = some (.tup (k.map kV))) (ry : RelV y u) :
    KT H (putK kvs k y) (storedH xs k b u) := by
  have e : (kvs.any fun kv => decide (kv.1 = k)) = (atKey xs k).isSome := by
    rw [valV_any, (r.val k).isSome_eq, Option.isSome_map]
  unfold putK storedH
  rw [e]
  by_cases q : (atKey xs k).isSome = true
  · rw [if_pos q, if_pos q]; exact r.repl k ry
  · rw [if_neg q, if_neg q]; exact Paired.snoc r ⟨rfl, hb, ry⟩
theorem KT.keeps {H H' : Hp} {kvs : List (List Key × V)} {xs : List (List Key × Addr × Value)} (r : KT H kvs xs) (ht : ∀ b ys, H b = some (.tup ys) → H' b = some (.tup ys)) : KT H' kvs xs :=
  Paired.mapP r fun _ _ z => ⟨z.1, ht _ _ z.2.1, z.2.2⟩

section
variable {P : Program} {w : World} {H : Hp} {h : Heap} {a : Addr}
theorem rd_of {u : HO} (ok : HOk P w H h) (e : Rd H a u) : ObjOk P w H h a u := e.ok ok
theorem dk_rd {kvs : List (Key × V)} (ok : HOk P w H h) (e : Rd H a (.dK kvs)) : kvs.length ≤ sizeLine ∧ (a == sysModules) = false ∧ ∃ vs, KV kvs vs ∧ h.DictOf (mixKind P w) a vs :=
  show ObjOk P w H h a (.dK kvs) from rd_of ok e
theorem dk_of {kvs : List (Key × V)} (ok : HOk P w H h) (e : H a = some (.dK kvs)) : kvs.length ≤ sizeLine ∧ (a == sysModules) = false ∧ ∃ vs, KV kvs vs ∧ h.DictOf (mixKind P w) a vs := dk_rd ok (.inl e)
theorem key_ofD {ks : List Key} (ok : HOk P w H h) (e : H a = some (.tup (ks.map kV))) : (tupleKind (mixKind P w)).is h ks a := by
  obtain ⟨_, its, r, o, h1, h2, n, h3⟩ := (show ObjOk P w H h a (.tup (ks.map kV)) from ok a _ e)
  exact ⟨o, its.toArray, n, h1, h2, h3, by simpa using items_are r⟩
theorem dt_rd {kvs : List (List Key × V)} (ok : HOk P w H h) (e : Rd H a (.dT kvs)) : kvs.length ≤ sizeLine ∧ (a == sysModules) = false ∧
    ∃ xs, KT H kvs xs ∧ h.DictOfH (tupleKind (mixKind P w)) a xs := by
  obtain ⟨z, y, xs, r, o, es, ep, h1, h2, h3, h4, h5⟩ := (show ObjOk P w H h a (.dT kvs) from rd_of ok e)
  refine ⟨z, y, xs, r, o, es, ep, h1, h2, h3, h4, fun x hx => ?_, h5⟩
  have all : ∀ {l : List (List Key × V)} {m : List (List Key × Addr × Value)}, KT H l m → ∀ x ∈ m, (tupleKind (mixKind P w)).is h x.1 x.2.1 := by
    intro l m q
    induction q with
    | nil => intro x hx; exact nomatch hx
    | @cons p q ps qs hq t ih =>
      intro x hx
      rcases List.mem_cons.mp hx with e | hx
      · subst e
        exact key_ofD ok (by rw [← hq.1]; exact hq.2.1)
      · exact ih x hx
  exact all r x hx
theorem dt_of {kvs : List (List Key × V)} (ok : HOk P w H h) (e : H a = some (.dT kvs)) : kvs.length ≤ sizeLine ∧ (a == sysModules) = false ∧
    ∃ xs, KT H kvs xs ∧ h.DictOfH (tupleKind (mixKind P w)) a xs := dt_rd ok (.inl e)
end

def DGet (H : Hp) (a : Addr) (y : V) (r : Option V) : Prop :=
  (∃ kvs k, Rd H a (.dK kvs) ∧ y = kV k ∧ r = valV kvs k) ∨ ∃ kvs k b, Rd H a (.dT kvs) ∧ y = .ref b ∧ H b = some (.tup (k.map kV)) ∧ r = valV kvs k
def DPut (H : Hp) (a : Addr) (y v : V) (H' : Hp) : Prop :=
  (∃ kvs k, H a = some (.dK kvs) ∧ y = kV k ∧ kvs.length < sizeLine ∧ H' = upd H a (.dK (putK kvs k v))) ∨
  ∃ kvs k b, H a = some (.dT kvs) ∧ y = .ref b ∧ H b = some (.tup (k.map kV)) ∧ kvs.length < sizeLine ∧ H' = upd H a (.dT (putK kvs k v))
theorem DGet.k {H : Hp} {a : Addr} {kvs : List (Key × V)} {k : Key} (e : H a = some (.dK kvs)) : DGet H a (kV k) (valV kvs k) := .inl ⟨kvs, k, .inl e, rfl, rfl⟩
theorem DGet.t {H : Hp} {a b : Addr} {kvs : List (List Key × V)} {k : List Key} (e : H a = some (.dT kvs)) (eb : H b = some (.tup (k.map kV))) : DGet H a (.ref b) (valV kvs k) := .inr ⟨kvs, k, b, .inl e, rfl, eb, rfl⟩
theorem DPut.k {H : Hp} {a : Addr} {kvs : List (Key × V)} {k : Key} {v : V} (e : H a = some (.dK kvs)) (hl : kvs.length < sizeLine) : DPut H a (kV k) v (upd H a (.dK (putK kvs k v))) := .inl ⟨kvs, k, e, rfl, hl, rfl⟩
theorem DPut.t {H : Hp} {a b : Addr} {kvs : List (List Key × V)} {k : List Key} {v : V} (e : H a = some (.dT kvs)) (eb : H b = some (.tup (k.map kV))) (hl : kvs.length < sizeLine) :
    DPut H a (.ref b) v (upd H a (.dT (putK kvs k v))) := .inr ⟨kvs, k, b, e, rfl, eb, hl, rfl⟩


section
variable {X : Cx} {pins : List (Addr × Obj)} {σ : St} {H : Hp} {s : Shared} {a : Addr} {y v : V} {u r : Value} {o : Option V} {A : Around} {E : Value → Shared → Prop}

theorem Inv.big (I : Inv X pins σ H s) : sysModules < s.heap.objs.size := by
  have h : mainGlobals < s.heap.objs.size := (I.mod.glob.keeps I.bk).lt
  exact Nat.lt_trans (by decide) h

theorem d_getItem {Q : Value → Shared → Prop} (hu : A.units + 1 < cLine) (I : Inv X pins σ H s) (g : DGet H a y (some v)) (ry : RelV y u) (h : ∀ w' s', Inv X pins σ H s' → RelV v w' → Q w' s') :
    wpAny (model X.prog X.w) A (getItem (.ref a) u) Q E s := by
  rcases g with ⟨kvs, k, e, ey, l⟩ | ⟨kvs, k, b, e, ey, eb, l⟩
  · subst ey
    obtain ⟨z, hd, vs, rel, dd⟩ := dk_rd I.hok e
    obtain ⟨w', hw, rw'⟩ := RelO.some_of (v := v) (o := valueAt vs k) (by rw [l]; exact rel.val k)
    exact wpAny_getItem_of (kV_is ry) dd.mapOf hw (h w' _ (I.tok _) rw')
  · subst ey
    cases (show u = Value.ref b from ry)
    obtain ⟨z, hd, xs, rel, dd⟩ := dt_rd I.hok e
    obtain ⟨w', hw, rw'⟩ := RelO.some_of (v := v) (o := (atKey xs k).map (·.2)) (by rw [l]; exact rel.val k)
    obtain ⟨p, hp, hp2⟩ := Option.map_eq_some_iff.mp hw
    refine wpAny_getItem_heap (tupleKind_room_in1 hu) (key_ofD I.hok eb) dd hp ?_
    rw [hp2]
    exact h w' _ (I.tok _) rw'
theorem d_in {Q : Value → Shared → Prop} (hu : A.units + 1 < cLine) (I : Inv X pins σ H s) (g : DGet H a y o) (ry : RelV y u) (h : ∀ s', Inv X pins σ H s' → Q (.bool o.isSome) s') :
    wpAny (model X.prog X.w) A (compareOp .In u (.ref a)) Q E s := by
  rcases g with ⟨kvs, k, e, ey, l⟩ | ⟨kvs, k, b, e, ey, eb, l⟩
  · subst ey
    obtain ⟨z, hd, vs, rel, dd⟩ := dk_rd I.hok e
    refine wpAny_in_of (kV_is ry) hd dd.mapOf ?_
    rw [← (rel.val k).isSome_eq, ← l]
    exact h _ (I.tok _)
  · subst ey
    cases (show u = Value.ref b from ry)
    obtain ⟨z, hd, xs, rel, dd⟩ := dt_rd I.hok e
    refine wpAny_in_heap (tupleKind_room_in1 hu) (key_ofD I.hok eb) hd dd ?_
    have q := (rel.val k).isSome_eq
    rw [Option.isSome_map] at q
    rw [← q, ← l]
    exact h _ (I.tok _)
theorem d_write {h' : Heap} {t' : Nat} {ob : HO} (I : Inv X pins σ H s) (mu : Mut (H a)) (hs : Heap.SameBut a s.heap h') (he : ∃ q, h'.get? a = some q) (new : ObjOk X.prog X.w (upd H a ob) h' a ob) :
    Inv X pins σ (upd H a ob) { s with heap := h', toks := t' } :=
  I.write (x := a) (e := a) mu (.inl rfl) (fun b q hb z => (hs.2 b hb).trans z) he new
theorem dk_new {P : Program} {w : World} {H' : Hp} {h' : Heap} {kvs : List (Key × V)} {vs : List (Key × Value)} (z : kvs.length ≤ sizeLine) (hd : (a == sysModules) = false) (rel : KV kvs vs) (dd : h'.DictOf (mixKind P w) a vs) :
    ObjOk P w H' h' a (.dK kvs) := ⟨z, hd, vs, rel, dd⟩
theorem d_setItem {H' : Hp} {Q : Unit → Shared → Prop} (hu : A.units + 1 < cLine) (I : Inv X pins σ H s) (g : DPut H a y v H') (ry : RelV y u) (rv : RelV v r) (h : ∀ s', Inv X pins σ H' s' → Q () s') :
    wpAny (model X.prog X.w) A (setItem (.ref a) u r) Q E s := by
  rcases g with ⟨kvs, k, e, ey, l, eH⟩ | ⟨kvs, k, b, e, ey, eb, l, eH⟩
  · subst ey eH
    obtain ⟨z, hd, vs, rel, dd⟩ := dk_of I.hok e
    have hz : vs.length ≤ sizeLine := by rw [← rel.length]; exact z
    have hl : (putK kvs k v).length ≤ sizeLine := by have := length_putK kvs k v; omega
    refine wpAny_setItem_pairs (hsz := hz) (kV_is ry) dd fun h' dd' hs => h _ ?_
    have he : ∃ q, h'.get? a = some q := let ⟨q, _, _, hq, _⟩ := dd'; ⟨q, hq⟩
    exact d_write I (by rw [e]; exact True.intro) hs he (dk_new hl hd (rel.put k rv) dd')
  · subst ey eH
    cases (show u = Value.ref b from ry)
    obtain ⟨z, hd, xs, rel, dd⟩ := dt_of I.hok e
    have hz : xs.length ≤ sizeLine := by rw [← Paired.length rel]; exact z
    have hl : (putK kvs k v).length ≤ sizeLine := by have := length_putK kvs k v; omega
    refine wpAny_setItem_heap (hsz := hz) (tupleKind_room_in1 hu) (key_ofD I.hok eb) dd fun h' dd' hs => h _ ?_
    obtain ⟨q, es, ep, hq, h2, h3, h4, _, h5⟩ := dd'
    refine d_write I (by rw [e]; exact True.intro) hs ⟨q, hq⟩ ⟨hl, hd, _, (rel.put k eb rv).keeps fun c ys ec => ?_, q, es, ep, hq, h2, h3, h4, h5⟩
    rw [upd_ne (ne_of ec e (fun z => nomatch z))]
    exact ec
end

section
variable {X : Cx} {pins : List (Addr × Obj)} {σ : St} {H : Hp} {s : Shared} {a : Addr} {kvs : List (Key × V)} {k : Key} {u : Value} {A : Around} {E : Value → Shared → Prop}
end


def NoSl (i : Expr) : Prop := ∀ ov iv, subscripted i false ov iv = operate [ov, iv] (getItem ov iv)
theorem subD_of {prog : Program} {w : World} {A : Around} {E : Value → Shared → Prop} {s : Shared} {env : Env} {value slice : Expr} {pos : Pos} {T id : String} {Q : Value → Shared → Prop}
    (hl : typeLookup (.type T) "__getitem__" = pure (some (.builtin id))) (hs : NoSl slice)
    (h : wpAny (model prog w) A (eval value env) (fun o s₁ => wpAny (model prog w) A (eval slice env) (fun i s₂ => s₂.TypeIs o T ∧ wpAny (model prog w) A (getItem o i) Q E s₂) E s₁) E s) :
    wpAny (model prog w) A (eval (.Subscript value slice pos) env) Q E s := by
  refine Subscript_ (wpAny_mono h (fun o s₁ h₁ => wpAny_mono h₁ (fun i s₂ h₂ => ?_) fun _ _ x => x) fun _ _ x => x)
  obtain ⟨hT, h₂⟩ := h₂
  unfold subscriptTail
  refine wpAny_bind ?_
  rw [getitemInPython_of_ne hT.not_modules]
  refine wpAny_bind (wpAny_specialOf hT hl ?_)
  have fin : wpAny (model prog w) A (subscripted slice false o i) (fun r s₃ => wpAny (model prog w) A (letTemporaryGo value o r >>= fun _ => pure r) Q E s₃) E s₂ := by
    rw [hs o i]
    exact wpAny_operating (wpAny_mono h₂ (fun r s₃ h₃ => wpAny_bind (wpAny_letTemporaryGo (wpAny_pure h₃))) fun _ _ x => x)
  first
    | exact wpAny_pure (wpAny_bind fin)
    | exact wpAny_bind (wpAny_pure (wpAny_bind fin))
    | exact wpAny_bind fin

theorem dict_typeIs {X : Cx} {pins : List (Addr × Obj)} {σ : St} {H : Hp} {s : Shared} {a : Addr} {y : V} {o : Option V} (I : Inv X pins σ H s) (g : DGet H a y o) : s.TypeIs (.ref a) "dict" := by
  rcases g with ⟨kvs, k, e, _, _⟩ | ⟨kvs, k, b, e, _, _, _⟩
  · obtain ⟨_, _, vs, _, dd⟩ := dk_rd I.hok e
    exact dd.typeIs
  · obtain ⟨_, _, xs, _, dd⟩ := dt_rd I.hok e
    exact dd.typeIs
def tDGet (td ty : TE) : TE := fun σ H Q => td σ H fun x H1 => ty σ H1 fun y H2 => ∃ a v, x = .ref a ∧ DGet H2 a y (some v) ∧ Q v H2
def tDIn (ty td : TE) : TE := fun σ H Q => ty σ H fun y H1 => td σ H1 fun x H2 => ∃ a o, x = .ref a ∧ DGet H2 a y o ∧ Q (.bl o.isSome) H2
def sDPut (td ty tv : TE) : TS := fun D σ H => tv σ H fun v H1 => td σ H1 fun x H2 => ty σ H2 fun y H3 => ∃ a H4, x = .ref a ∧ DPut H3 a y v H4 ∧ D.nx σ H4
section
variable {X : Cx} {o i e value : Expr} {pos pos' tpos : Pos} {td ty tv : TE}
theorem pe_dget (hu : X.A.units + 1 < cLine) (ho : PE X o td) (hi : PE X i ty) (hs : NoSl i) : PE X (.Subscript o i pos) (tDGet td ty) := by
  intro pins s σ H Q I h
  refine subD_of PySem.F.slot_dict_getitem.lookup hs (thn (ho pins s σ H _ I h) fun u s1 ⟨x, H1, I1, rx, q1⟩ => thn (hi pins s1 σ H1 _ I1 q1) fun iv s2 ⟨y, H2, I2, ry, a, v, ex, g, q2⟩ => ?_)
  subst ex
  obtain rfl : u = Value.ref a := rx
  exact ⟨dict_typeIs I2 g, d_getItem hu I2 g ry fun w' s3 I3 rw' => ⟨v, H2, I3, rw', q2⟩⟩
theorem pc_din (hu : X.A.units + 1 < cLine) (hi : PE X i ty) (ho : PE X o td) : PC X .In i o (tDIn ty td) := by
  intro pins s σ H Q I h
  refine thn (hi pins s σ H _ I h) fun iv s1 ⟨y, H1, I1, ry, q1⟩ => thn (ho pins s1 σ H1 _ I1 q1) fun u s2 ⟨x, H2, I2, rx, a, ov, ex, g, q2⟩ => ?_
  subst ex
  obtain rfl : u = Value.ref a := rx
  exact d_in hu I2 g ry fun s3 I3 => ⟨.bl ov.isSome, H2, I3, rfl, q2⟩
theorem ps_dput (hu : X.A.units + 1 < cLine) (ho : PE X o td) (hi : PE X i ty) (hv : PE X value tv) (hs : swapsWith value (some (.Subscript o i pos')) pos.line X.env = pure false) :
    PS X (.Assign [.Subscript o i pos'] value pos) (sDPut td ty tv) := by
  intro pins s σ H D I h
  refine wpAny_Assign_Subscript (thn (hv pins s σ H _ I h) fun r s1 ⟨v, H1, I1, rv, q1⟩ => thn (ho pins s1 σ H1 _ I1 q1) fun u s2 ⟨x, H2, I2, rx, q2⟩ => thn (hi pins s2 σ H2 _ I2 q2) fun iv s3 ⟨y, H3, I3, ry, a, H4, ex, g, q3⟩ => ?_) hs
  subst ex
  obtain rfl : u = Value.ref a := rx
  exact d_setItem hu I3 g ry rv fun s4 I4 => ⟨σ, H4, I4, q3⟩
end


theorem dk_empty {P : Program} {w : World} {H : Hp} (h : Heap) (hb : sysModules < h.objs.size) : ObjOk P w H (h.push { cls := .type "dict", data := .dict #[] }) h.objs.size (.dK []) :=
  ⟨Nat.zero_le _, beq_eq_false_iff_ne.mpr (Ne.symm (Nat.ne_of_lt hb)), [], .nil, Heap.DictOf.new h⟩
section
variable {X : Cx} {pos : Pos}
end

def tPairs : List (TE × TE) → St → Hp → (List (V × V) → Hp → Prop) → Prop
  | [], _, H, Q => Q [] H
  | (tk, tv) :: r, σ, H, Q => tk σ H fun x H1 => tv σ H1 fun y H2 => tPairs r σ H2 fun ps H3 => Q ((x, y) :: ps) H3
abbrev VV : List (V × V) → List (Value × Value) → Prop := Paired fun p q => RelV p.1 q.1 ∧ RelV p.2 q.2
def PPs (X : Cx) (pos : Pos) (keys : List (Option Expr)) (values : List Expr) (trs : List (TE × TE)) : Prop :=
  ∀ (pins : List (Addr × Obj)) (s : Shared) (σ : St) (H : Hp) (Q : List (V × V) → Hp → Prop), Inv X pins σ H s → tPairs trs σ H Q →
    wpAny (model X.prog X.w) X.A (evalPairs (pairTrees keys values X.env pos)) (fun vs s' => ∃ ps H', Inv X pins σ H' s' ∧ VV ps vs ∧ Q ps H') X.xe s
theorem pps_nil {X : Cx} {pos : Pos} : PPs X pos [] [] [] := fun pins s σ H Q I h => pairTrees_nil_walk ⟨[], H, I, .nil, h⟩
theorem pps_cons {X : Cx} {pos : Pos} {k v : Expr} {ks : List (Option Expr)} {vs : List Expr} {tk tv : TE} {trs : List (TE × TE)} (hk : PE X k tk) (hv : PE X v tv) (hr : PPs X pos ks vs trs) :
    PPs X pos (some k :: ks) (v :: vs) ((tk, tv) :: trs) := fun pins s σ H Q I h =>
  pairTrees_cons_walk (thn (hk pins s σ H _ I h) fun u s1 ⟨x, H1, I1, rx, q1⟩ => thn (hv pins s1 σ H1 _ I1 q1) fun w2 s2 ⟨y, H2, I2, ry, q2⟩ =>
    thn (hr pins s2 σ H2 _ I2 q2) fun ws s3 ⟨ps, H3, I3, rel, q3⟩ => ⟨(x, y) :: ps, H3, I3, .cons ⟨rx, ry⟩ rel, q3⟩)

def mergeK (kvs more : List (Key × V)) : List (Key × V) := more.foldl (fun acc kv => putK acc kv.1 kv.2) kvs
theorem KV.merge : ∀ {more : List (Key × V)} {rs : List (Key × Value)} {kvs : List (Key × V)} {vs : List (Key × Value)}, KV more rs → KV kvs vs → KV (mergeK kvs more) (merged vs rs) := by
  intro more rs kvs vs r
  unfold KV at r
  induction r generalizing kvs vs with
  | nil => intro q; exact q
  | @cons p q ps qs h t ih =>
    intro r0
    have e : KV (putK kvs p.1 p.2) (stored vs q.1 q.2) := by
      have := r0.put p.1 h.2
      rw [← h.1]; exact this
    exact ih e
theorem length_mergeK : ∀ (more kvs : List (Key × V)), (mergeK kvs more).length ≤ kvs.length + more.length
  | [], kvs => by show kvs.length ≤ kvs.length + 0; omega
  | p :: r, kvs => by
    have h1 := length_mergeK r (putK kvs p.1 p.2)
    have h2 := length_putK kvs p.1 p.2
    show (mergeK (putK kvs p.1 p.2) r).length ≤ _
    rw [List.length_cons]; omega
theorem carries_of {P : Program} {w : World} : ∀ {kvs : List (Key × V)} {ws : List (Value × Value)}, VV (kvs.map fun kv => (kV kv.1, kv.2)) ws → ∃ rs, Carries (mixKind P w) ws rs ∧ KV kvs rs
  | [], _, r => by rw [List.map_nil] at r; cases r; exact ⟨[], True.intro, .nil⟩
  | p :: kvs, _, r => by
    rw [List.map_cons] at r
    cases r with
    | @cons a b as bs h t =>
      obtain ⟨rs, c, q⟩ := carries_of (P := P) (w := w) t
      obtain ⟨b1, b2⟩ := b
      exact ⟨(p.1, b2) :: rs, ⟨kV_is h.1, rfl, c⟩, .cons ⟨rfl, h.2⟩ q⟩
def tDisp (trs : List (TE × TE)) : TE := fun σ H Q => ∀ p, H p = none → tPairs trs σ (upd H p (.dK [])) fun ps H2 => H2 p = some (.dK []) ∧ ∃ kvs : List (Key × V), ps = kvs.map (fun kv => (kV kv.1, kv.2)) ∧ kvs.length ≤ 15 ∧ Q (.ref p) (upd H2 p (.dK (mergeK [] kvs)))
theorem pe_disp {X : Cx} {pos : Pos} {keys : List (Option Expr)} {values : List Expr} {trs : List (TE × TE)} (h : PPs X pos keys values trs) (hall : keys.all (·.isSome) = true) (hl : keys.length = values.length) (h0 : keys ≠ [])
    (h15 : keys.length ≤ 15) : PE X (.Dict keys values pos) (tDisp trs) := by
  intro pins s σ H Q I q
  have hn := I.hok.fresh (Nat.le_refl s.heap.objs.size)
  have I1 := I.laid (a := s.heap.objs.size) (o := .dK []) (h' := s.heap.push { cls := .type "dict", data := .dict #[] }) (t' := s.toks) (fun _ _ q => Heap.get?_push_of_some _ q) (Nat.le_refl _) (dk_empty s.heap I.big)
  refine wpAny_Dict_walk (knd := mixKind X.prog X.w) hall hl h0 h15 (thn (h pins _ σ _ _ I1 (q _ hn)) fun ws s2 ⟨ps, H2, I2, rel, e, kvs, ep, lk, q2⟩ => ?_)
  subst ep
  obtain ⟨rs, c, rk⟩ := carries_of (P := X.prog) (w := X.w) rel
  obtain ⟨z, hd, vs0, r0, dd⟩ := dk_of I2.hok e
  cases r0
  refine ⟨rs, c, dd, fun h' dd' hs => ⟨.ref s.heap.objs.size, _, ?_, rfl, q2⟩⟩
  have hz : (mergeK [] kvs).length ≤ sizeLine := by
    have h1 := length_mergeK kvs []
    rw [List.length_nil] at h1
    rw [sizeLine_eq]; omega
  have he : ∃ q, h'.get? s.heap.objs.size = some q := let ⟨q, _, _, hq, _⟩ := dd'; ⟨q, hq⟩
  exact d_write I2 (by rw [e]; exact True.intro) hs he (dk_new hz hd (rk.merge .nil) dd')


structure M1 (X : Cx) (o : Expr) (m : Str) (apos : Pos) (e : Expr) (cpos : Pos) : Prop where
  base : attributeBase o m X.env (eval o X.env) = eval o X.env
  few : ((backTo cpos (starEach [e] X.env)).all (fun x => !x.1) && (backToKw cpos (keywordEach [] X.env)).all (fun x => x.1.isSome)
    && decide (([e] : List Expr).length + ([] : List Keyword).length + (if ([] : List Keyword).isEmpty then 0 else 1) < 30)) = true
  line : (apos.endLine == cpos.line) = true
  trees : backTo cpos (starEach [e] X.env) = [(false, eval e X.env)]
structure M2 (X : Cx) (o : Expr) (m : Str) (apos : Pos) (e f : Expr) (cpos : Pos) : Prop where
  base : attributeBase o m X.env (eval o X.env) = eval o X.env
  few : ((backTo cpos (starEach [e, f] X.env)).all (fun x => !x.1) && (backToKw cpos (keywordEach [] X.env)).all (fun x => x.1.isSome)
    && decide (([e, f] : List Expr).length + ([] : List Keyword).length + (if ([] : List Keyword).isEmpty then 0 else 1) < 30)) = true
  line : (apos.endLine == cpos.line) = true
  trees : backTo cpos (starEach [e, f] X.env) = [(false, eval e X.env), (false, eval f X.env)]

section
variable {X : Cx} {pins : List (Addr × Obj)} {σ : St} {H : Hp} {s : Shared} {a : Addr} {y d : V} {u r : Value} {o : Option V} {A : Around} {E : Value → Shared → Prop}
end

section
variable {X : Cx} {o e f : Expr} {apos cpos : Pos} {td ty tx : TE}
end

section
variable {X : Cx} {pins : List (Addr × Obj)} {σ : St} {H : Hp} {s : Shared} {a : Addr} {kvs : List (Key × V)} {A : Around} {E : Value → Shared → Prop}
end


section
variable {X : Cx} {pins : List (Addr × Obj)} {σ : St} {H : Hp} {s : Shared} {a : Addr} {y : V} {u : Value} {A : Around} {E : Value → Shared → Prop}
end
end L2

namespace Att
open PySem PySem.W PySem.Calls PyProof.Rows

section
variable {prog : Program} {w : World} {A : Around} {E : Value → Shared → Prop} {s : Shared} {K : Frag}

end
end Att

namespace L2
open PySem PySem.Spec PyProof.Rows

end L2

namespace L2
open PySem PySem.Spec PyProof.Rows

end L2

namespace L2
open PySem PySem.Spec PyProof.Rows

section
variable {P : Program} {w : World} {K : PySem.W.Frag} {mg : Str → Option Value} {base : Heap}
end
section
variable {X : Cx}
end

section
variable {κ : Type} [DecidableEq κ]
end
end L2


set_option Elab.async false
set_option linter.all false
set_option maxRecDepth 100000
set_option maxHeartbeats 1000000
/-! A comprehension over the hand layer: its block's context, its rule. -/
namespace L2
open PySem PySem.Spec PyProof.Rows

/-- the cells that a comprehension's block takes over -/
def clOf (cells : List (Str × Addr)) (names : List (Str × NameKind)) (acc : List (Str × Addr)) : List (Str × Addr) :=
  match names with
  | [] => acc
  | (n, k) :: r => clOf cells r (if k == .free then (n, (cells.lookup n).getD 0) :: acc else acc)

theorem clOf_sub {cells : List (Str × Addr)} : ∀ {names : List (Str × NameKind)} {acc : List (Str × Addr)}, (∀ y ∈ names, y.2 = .free → ∃ c, cells.lookup y.1 = some c) → (∀ x c, acc.lookup x = some c → cells.lookup x = some c) →
    ∀ x c, (clOf cells names acc).lookup x = some c → cells.lookup x = some c
  | [], acc, _, h, x, c, e => h x c e
  | (n, k) :: r, acc, hf, h, x, c, e => by
    unfold clOf at e
    refine clOf_sub (fun y hy => hf y (List.mem_cons_of_mem _ hy)) ?_ x c e
    intro x' c' e'
    by_cases hk : k = .free
    · subst hk
      obtain ⟨d, hd⟩ := hf (n, .free) List.mem_cons_self rfl
      have hd' : cells.lookup n = some d := hd
      simp only [beq_self_eq_true, if_true, List.lookup_cons] at e'
      cases hx : x' == n with
      | true =>
        rw [hx] at e'
        have e2 : x' = n := by simpa using hx
        subst e2
        simp only [hd', Option.getD_some] at e'
        rw [hd']; exact e'
      | false =>
        rw [hx] at e'
        exact h x' c' e'
    · have hb : (k == NameKind.free) = false := by simpa using hk
      simp only [hb, Bool.false_eq_true, if_false] at e'
      exact h x' c' e'

theorem clOf_has {cells : List (Str × Addr)} : ∀ {names : List (Str × NameKind)} {acc : List (Str × Addr)} {x : Str}, ((∃ c, acc.lookup x = some c) ∨ (x, NameKind.free) ∈ names) → ∃ c, (clOf cells names acc).lookup x = some c
  | [], acc, x, h => by
    rcases h with h | h
    · exact h
    · cases h
  | (n, k) :: r, acc, x, h => by
    unfold clOf
    refine clOf_has ?_
    by_cases hk : k = .free
    · subst hk
      simp only [beq_self_eq_true, if_true, List.lookup_cons]
      cases hx : x == n with
      | true => exact .inl ⟨_, rfl⟩
      | false =>
        rcases h with h | h
        · exact .inl h
        · rcases List.mem_cons.mp h with h | h
          · cases h
            simp at hx
          · exact .inr h
    · have hb : (k == NameKind.free) = false := by simpa using hk
      simp only [hb, Bool.false_eq_true, if_false]
      rcases h with h | h
      · exact .inl h
      · rcases List.mem_cons.mp h with h | h
        · cases h
          exact absurd rfl hk
        · exact .inr h

theorem closure_forIn {env : Env} : ∀ {names : List (Str × NameKind)} {acc : List (Str × Addr)}, (∀ y ∈ names, y.2 = .free → ∃ c, env.cells.lookup y.1 = some c) →
    (forIn names acc fun (x : Str × NameKind) (r : List (Str × Addr)) => (if x.2 == .free then (do let a ← cellOf env x.1; pure (ForInStep.yield ((x.1, a) :: r))) else pure (ForInStep.yield r) : Sem (ForInStep (List (Str × Addr))))) = (pure (clOf env.cells names acc) : Sem (List (Str × Addr)))
  | [], acc, _ => rfl
  | (n, k) :: r, acc, hf => by
    rw [List.forIn_cons]
    have ih := fun acc' => closure_forIn (env := env) (names := r) (acc := acc') fun y hy => hf y (List.mem_cons_of_mem _ hy)
    by_cases hk : k = .free
    · subst hk
      obtain ⟨c, hc⟩ := hf (n, .free) List.mem_cons_self rfl
      have hc' : env.cells.lookup n = some c := hc
      simp only [beq_self_eq_true, if_true, cellOf, hc', pure_bind, clOf, Option.getD_some]
      exact ih _
    · have hb : (k == NameKind.free) = false := by simpa using hk
      simp only [hb, Bool.false_eq_true, if_false, pure_bind, clOf]
      exact ih _

theorem closure_of {scope : Scope} {env : Env} (h : ∀ y ∈ scope.names, y.2 = .free → ∃ c, env.cells.lookup y.1 = some c) : closureFor scope env = pure (clOf env.cells scope.names []) := by
  have q := closure_forIn (env := env) (acc := []) h
  unfold closureFor
  exact (congrArg (fun m : Sem (List (Str × Addr)) => m >>= fun cs => pure cs) q).trans (by simp)
end L2

set_option Elab.async false
set_option linter.all false
set_option maxRecDepth 100000
set_option maxHeartbeats 4000000
namespace L2
open PySem PySem.Spec PyProof.Rows

/-- the context of a comprehension's block: entered at s₀, H₀ behind the list's making; fp: the iterator's records -/
def cxComp (X : Cx) (N' : List Str) (scope : Scope) (fp : List Addr) (s₀ : Shared) (H₀ : Hp) : Cx :=
  { X with N := N', s₀ := s₀, H₀ := H₀, env := compEnvC scope (clOf X.env.cells scope.names []) s₀.heap.objs.size X.env, outer := X.stack, ex := fp, fn := fun _ => false, pn := [], xe := fun _ _ => False }

/-- the written facts of a comprehension's scope -/
structure CompScope (X : Cx) (N' : List Str) (scope : Scope) : Prop where
  kind : scope.kind = .function
  nd : N'.Nodup
  nocell : ∀ y ∈ scope.names, y.2 ≠ .cell
  loc : ∀ y ∈ scope.names, y.2 = .local → scope.names.lookup y.1 = some .local
  fre : ∀ y ∈ scope.names, y.2 = .free → X.env.kindOf y.1 = some .cell
  own : ∀ x, (x, NameKind.free) ∈ scope.names → (relabel scope X.env).names.lookup x ≠ some .local

theorem relabel_back {scope : Scope} {env : Env} {x : Str} (hc : ∀ y ∈ scope.names, y.2 ≠ .cell) (h : (relabel scope env).names.lookup x = some .cell ∨ (relabel scope env).names.lookup x = some .free) : (x, NameKind.free) ∈ scope.names := by
  have key : ∀ (l : List (Str × NameKind)), (∀ y ∈ l, y.2 ≠ .cell) → ∀ k, (k = .cell ∨ k = .free) →
      (l.map fun (n, k) => if (k == NameKind.free && env.scope.kind == .function && env.kindOf n == some .cell) then (n, NameKind.cell) else (n, k)).lookup x = some k → (x, NameKind.free) ∈ l := by
    intro l
    induction l with
    | nil => intro _ k _ e; cases e
    | cons y r ih =>
      obtain ⟨n, kk⟩ := y
      intro hc k hk e
      have hr : ∀ y ∈ r, y.2 ≠ .cell := fun y hy => hc y (List.mem_cons_of_mem _ hy)
      have hkk : kk ≠ .cell := hc (n, kk) List.mem_cons_self
      rw [List.map_cons] at e
      by_cases hq : (kk == NameKind.free && env.scope.kind == .function && env.kindOf n == some .cell) = true
      · simp only [hq, if_true, List.lookup_cons] at e
        have hf : kk = .free := by
          have := (Bool.and_eq_true _ _ ▸ (Bool.and_eq_true _ _ ▸ hq).1).1
          simpa using this
        cases hx : x == n with
        | true =>
          have : x = n := by simpa using hx
          subst this; subst hf
          exact List.mem_cons_self
        | false =>
          rw [hx] at e
          exact List.mem_cons_of_mem _ (ih hr k hk e)
      · have hq' : (kk == NameKind.free && env.scope.kind == .function && env.kindOf n == some .cell) = false := by simpa using hq
        simp only [hq', Bool.false_eq_true, if_false] at e
        rw [List.lookup_cons] at e
        cases hx : x == n with
        | true =>
          have hx' : x = n := by simpa using hx
          subst hx'
          rw [hx] at e
          have e' : kk = k := by simpa using e
          rcases hk with hk | hk
          · exact absurd (e'.trans hk) hkk
          · rw [e', hk]; exact List.mem_cons_self
        | false =>
          have e2 : (r.map fun (n, k) => if (k == NameKind.free && env.scope.kind == .function && env.kindOf n == some .cell) then (n, NameKind.cell) else (n, k)).lookup x = some k := by
            rw [hx] at e
            exact e
          exact List.mem_cons_of_mem _ (ih hr k hk e2)
  rcases h with h | h
  · exact key _ hc _ (.inl rfl) h
  · exact key _ hc _ (.inr rfl) h

section
variable {X : Cx} {pins : List (Addr × Obj)} {σ : St} {H : Hp} {s : Shared} {N' : List Str} {scope : Scope} {fp : List Addr}

/-- what is to hold of the slots at the entry: each one that has a value is a captured name of the def around, with its value there -/
def Caught (X : Cx) (N' : List Str) (scope : Scope) (σ σ' : St) : Prop :=
  σ'.length = N'.length ∧ ∀ (i : Nat) (x : Str) (v : V), N'[i]? = some x → σ'[i]? = some (some v) → (x, NameKind.free) ∈ scope.names ∧ ∃ (j : Nat), X.N[j]? = some x ∧ σ[j]? = some (some v)

theorem comp_ok (S : CompScope X N' scope) (I : Inv X pins σ H s) (hf : ∀ b ∈ fp, FpOk X pins H b) (hlt : ∀ b ∈ fp, b < s.heap.objs.size) : (cxComp X N' scope fp s H).Ok := by
  have hfree : ∀ y ∈ scope.names, y.2 = .free → ∃ c, X.env.cells.lookup y.1 = some c := fun y hy hk => I.ok.has y.1 (.inl (S.fre y hy hk))
  have sub := clOf_sub (cells := X.env.cells) (names := scope.names) (acc := []) hfree (fun x c e => by cases e)
  refine ⟨I.ok.mod, S.kind, I.ok.glob, I.ok.blt, Nat.le_refl _, fun x y c e1 e2 => I.ok.inj x y c (sub x c e1) (sub y c e2), fun x hx => ?_, fun x c hz => ?_, I.ok.hd, I.ok.frames, .inl rfl, fun b hb => ?_, I.bs, Nat.le_trans I.ok.bsz I.sz, fun b o e hb => ?_, fun b hb hs => ?_, I.stack, I.stkFree⟩
  · exact clOf_has (.inr (relabel_back S.nocell hx))
  · exact absurd (show false = true from hz) Bool.false_ne_true
  · obtain ⟨_, hL, _, _, hc, _⟩ := hf b hb
    refine ⟨fun e => ?_, fun x c e => hc x c (sub x c e)⟩
    have e' : b = s.heap.objs.size := e
    exact absurd (hlt b hb) (by rw [e']; exact Nat.lt_irrefl _)
  · obtain ⟨_, _, _, h2, _⟩ := hf b hb
    rcases h2 with h2 | h2
    · exact I.ok.noex b o e h2
    · exact absurd (Nat.lt_of_lt_of_le (Heap.lt_size e) (Nat.le_trans I.ok.bsz h2)) (Nat.lt_irrefl _)
  · obtain ⟨_, hL, hfs, _⟩ := hf b hb
    rcases List.mem_cons.mp (I.stkSub b hs) with z | z
    · exact hL z
    · exact hfs z
/-- the block is entered: its names are new, the captured ones stand in their cells -/
theorem comp_inv (S : CompScope X N' scope) (I : Inv X pins σ H s) (hf : ∀ b ∈ fp, FpOk X pins H b) (hlt : ∀ b ∈ fp, b < s.heap.objs.size) {σ' : St} (hc : Caught X N' scope σ σ') {h1 : Heap} {tk : Nat}
    (hn : h1.Ns s.heap.objs.size (fun _ => none)) (hk : ∀ b o, s.heap.get? b = some o → h1.get? b = some o) : Inv (cxComp X N' scope fp s H) [] σ' H { s with heap := h1, toks := tk } := by
  have hfree : ∀ y ∈ scope.names, y.2 = .free → ∃ c, X.env.cells.lookup y.1 = some c := fun y hy hk => I.ok.has y.1 (.inl (S.fre y hy hk))
  have sub := clOf_sub (cells := X.env.cells) (names := scope.names) (acc := []) hfree (fun x c e => by cases e)
  refine ⟨comp_ok S I hf hlt, rfl, I.bare, Un.kept hk, ⟨_, hn, fun i x v e1 e2 e3 => ?_⟩, fun x c e => ?_, I.fresh, fun x c e => I.freeC x c (sub x c e), fun p hp => absurd (show p ∈ ([] : List (Addr × Obj)) from hp) (by simp), I.hok.kept hk, hc.1⟩
  · obtain ⟨hx, j, j1, j2⟩ := hc.2 i x v e1 e2
    obtain ⟨m, _, hl⟩ := I.loc
    have hkc : X.env.kindOf x = some .cell := S.fre (x, .free) hx rfl
    obtain ⟨u, r, l⟩ := hl j x v j1 j2 (.inr (.inl hkc))
    refine ⟨u, r, .inr ?_⟩
    rcases l with ⟨k, _⟩ | ⟨_, c, ec, z⟩
    · rw [hkc] at k; cases k
    · obtain ⟨c', ec'⟩ := clOf_has (cells := X.env.cells) (names := scope.names) (acc := []) (x := x) (.inr hx)
      have ec2 := sub x c' ec'
      rw [ec] at ec2
      cases ec2
      refine ⟨?_, c, ec', z.keeps hk⟩
      have e3' : Vis (relabel scope X.env) x := e3
      rcases e3' with q | q | q
      · exfalso
        exact S.own x hx q
      · exact .inl q
      · exact .inr q
  · obtain ⟨v, z⟩ := I.cell x c (sub x c e)
    exact ⟨v, z.keeps hk⟩
end
end L2

set_option Elab.async false
set_option linter.all false
set_option maxRecDepth 100000
set_option maxHeartbeats 4000000
namespace L2
open PySem PySem.Spec PyProof.Rows

/-- the tests of a comprehension -/
def PIfs (X : Cx) (ifs : List Expr) (t : TT) : Prop :=
  ∀ (pins : List (Addr × Obj)) (s : Shared) (σ : St) (H : Hp) (Q : Bool → Hp → Prop), Inv X pins σ H s → t σ H Q →
    wpAny (model X.prog X.w) X.A (forIn ifs true fun c r => if r = true then (do let ok ← isTrue c X.env (eval c X.env); pure (ForInStep.yield ok)) else pure (ForInStep.yield r)) (TP X pins σ Q) X.xe s
theorem pifs_nil {X : Cx} : PIfs X [] (fun _ H Q => Q true H) := by
  intro pins s σ H Q I h
  rw [List.forIn_nil]
  exact wpAny_pure ⟨H, I, h⟩
theorem pifs_one {X : Cx} {c : Expr} {t : TT} (h : PT X c t) : PIfs X [c] t := by
  intro pins s σ H Q I hq
  rw [List.forIn_cons]
  refine wpAny_bind ?_
  rw [if_pos rfl]
  refine wpAny_bind (thn (h pins s σ H Q I hq) fun b s1 q => wpAny_pure ?_)
  dsimp only
  rw [List.forIn_nil]
  exact wpAny_pure q

/-- a comprehension: W is what holds between two turns (the turn's number, a measure, the block's names, the list so far, the heap) -/
def tComp (wi : TI) (g : TG) (tc : TT) (te : TE) (σc : St → St) : TE := fun σ H Q => wi σ H fun J H1 => ∀ acc, H1 acc = none →
  ∃ W : Nat → Nat → St → List V → Hp → Prop, (∃ m, W 0 m (σc σ) [] (upd H1 acc (.lst []))) ∧ ∀ i m σ2 ys H2, W i m σ2 ys H2 → H2 acc = some (.lst ys) ∧
    ((J.stop i H2 ∧ Q (.ref acc) H2) ∨ (J.go i H2 ∧ ys.length < sizeLine ∧ ∀ x H3, J.yld i H2 x H3 → g x σ2 H3 fun σ4 H4 => tc σ4 H4 fun b H5 =>
      if b = true then te σ4 H5 fun y H6 => H6 acc = some (.lst ys) ∧ ∃ m', m' < m ∧ W (i + 1) m' σ4 (ys ++ [y]) (upd H6 acc (.lst (ys ++ [y]))) else ∃ m', m' < m ∧ W (i + 1) m' σ4 ys H5))

theorem turn_of_list {prog : Program} {w : World} {A : Around} {R : Result → Shared → Prop} {s : Shared} {elt target iter : Expr} {ifs : List Expr} {scope : Scope} {pos : Pos} {it acc : Value} {env : Env} (I : Nat → Shared → Prop)
    (turn : ∀ n s, I n s → wpAny (model prog w) A (pyNext it) (fun r s₁ => (r = none ∧ R (.ok .next) s₁) ∨ ∃ v, r = some v ∧
        wpAny (model prog w) A (letOwnedTupleGo target it v) (fun _ s₂ => wpAny (model prog w) A (assign target env v) (fun _ s₃ =>
          wpAny (model prog w) A (forIn ifs true fun c r => if r = true then (do let ok ← isTrue c env (eval c env); pure (ForInStep.yield ok)) else pure (ForInStep.yield r)) (fun ok s₄ =>
            if ok = true then wpAny (model prog w) A (eval elt env) (fun x s₅ => wpAny (model prog w) A (call (.builtin "list.append") [acc, x]) (fun _ s₆ => ∃ m, m < n ∧ I m s₆) (fun _ _ => False) s₅) (fun _ _ => False) s₄
            else ∃ m, m < n ∧ I m s₄) (fun _ _ => False) s₃) (fun _ _ => False) s₂) (fun _ _ => False) s₁) (fun _ _ => False) s)
    (n : Nat) (h : I n s) : codeAny (model prog w) A (.compLoop (.ListComp elt [⟨target, iter, ifs, 0⟩] scope pos) 0 it acc env) R s := by
  have no : ∀ {α : Type} {t : Sem α} {Q : α → Shared → Prop} {E : Value → Shared → Prop} {s : Shared}, wpAny (model prog w) A t Q (fun _ _ => False) s → wpAny (model prog w) A t Q E s := fun h => wpAny_mono h (fun _ _ q => q) fun _ _ f => f.elim
  refine codeAny_loop rfl I (fun n s hI => ?_) n h
  show wpAny _ A ((compTurn (.ListComp elt [⟨target, iter, ifs, 0⟩] scope pos) 0 it acc env).onRaise (fun x => do noteFrame x env; theTreesLotGoes x)) _ _ s
  refine wpAny_noted ?_
  rw [compTurn_list]
  refine wpAny_bind (wpAny_standAt (wpAny_bind (no (thn (turn n s hI) fun r s₁ h₁ => ?_))))
  rcases h₁ with ⟨rfl, h₁⟩ | ⟨v, rfl, h₁⟩
  · exact wpAny_pure h₁
  · refine wpAny_bind (no (thn h₁ fun _ s₂ h₂ => wpAny_bind (no (thn h₂ fun _ s₃ h₃ => wpAny_bind (no (thn h₃ fun ok s₄ h₄ => ?_))))))
    cases ok with
    | false => exact wpAny_pure ⟨rfl, h₄⟩
    | true => exact wpAny_bind (wpAny_bind (no (thn h₄ fun x s₅ h₅ => wpAny_bind (no (thn h₅ fun _ s₆ h₆ => wpAny_pure (wpAny_pure ⟨rfl, h₆⟩))))))

theorem hok_but {P : Program} {w : World} {H : Hp} {h h' : Heap} {C : Addr} (ok : HOk P w H h) (hC : H C = none) (hs : Heap.SameBut C h h') : HOk P w H h' := fun b o e =>
  (ok b o e).stay (fun c u hc q => (hs.2 c (by
    rintro rfl
    rcases hc with rfl | hc
    · rw [hC] at e; cases e
    · rw [hC] at hc; cases hc)).trans q) (fun _ q => q) fun _ _ q => q

theorem pe_comp {X : Cx} {tg iter elt : Expr} {ifs : List Expr} {scope : Scope} {pos : Pos} {N' : List Str} {wi : TI} {g : TG} {tc : TT} {te : TE} {σc : St → St}
    (S : CompScope X N' scope) (hcalm : X.calm = true) (hσ : ∀ σ : St, σ.length = X.N.length → Caught X N' scope σ (σc σ)) (hi : PI X tg iter wi)
    (hg : ∀ fp s₀ H₀, PG (cxComp X N' scope fp s₀ H₀) tg g) (hc : ∀ fp s₀ H₀, PIfs (cxComp X N' scope fp s₀ H₀) ifs tc) (he : ∀ fp s₀ H₀, PE (cxComp X N' scope fp s₀ H₀) elt te)
    (hs : ∀ x, foldedSetIterable iter X.env x = pure x := by intro _; rfl) : PE X (.ListComp elt [⟨tg, iter, ifs, 0⟩] scope pos) (tComp wi g tc te σc) := by
  intro pins s σ H Q I h
  have hfree : ∀ y ∈ scope.names, y.2 = .free → ∃ c, X.env.cells.lookup y.1 = some c := fun y hy hk => I.ok.has y.1 (.inl (S.fre y hy hk))
  have sub := clOf_sub (cells := X.env.cells) (names := scope.names) (acc := []) hfree (fun x c e => by cases e)
  rw [eval_ListComp]
  refine wpAny_comprehension_free (use := none) rfl hs (closure_of hfree) S.kind S.loc (thn (hi pins s σ H _ I h) fun v s1 h1 => thn h1 fun itv s2 h2 => ?_)
  obtain ⟨it, fp, tn, J, H2, rfl, I2, T, st2, f2, h2⟩ := h2
  obtain ⟨W, ⟨m0, w0⟩, turn⟩ := h2 s2.heap.objs.size I2.fresh
  have lt2 : ∀ b ∈ fp, b < s2.heap.objs.size := fun b hb => by
    obtain ⟨o, ho, _⟩ := T.obj _ _ st2 b hb
    exact Heap.lt_size ho
  refine wpAny_newObj_type (wpAny_newFunctionEnv S.nocell (by intro y hy; simp at hy) (fun h₁ hns₁ hsb₁ => ?_) S.kind)
  dsimp only at hns₁ hsb₁ ⊢
  -- the state behind the list's making: the block's entry
  have I3 : Inv X pins σ (upd H2 s2.heap.objs.size (.lst [])) { s2 with heap := s2.heap.push { cls := .type "list", data := .seq ([] : List Value).toArray } } := I2.lnew (t' := s2.toks) (ys := []) .nil (Nat.zero_le _)
  generalize hs3 : ({ s2 with heap := s2.heap.push { cls := .type "list", data := .seq ([] : List Value).toArray } } : Shared) = s3 at I3
  have e3 : s2.heap.push { cls := .type "list", data := .seq ([] : List Value).toArray } = s3.heap := by rw [← hs3]
  have sz3 : s3.heap.objs.size = s2.heap.objs.size + 1 := by rw [← e3, Heap.size_push]
  have up23 : ∀ b o, s2.heap.get? b = some o → s3.heap.get? b = some o := fun b o e => by rw [← e3]; exact Heap.get?_push_of_some _ e
  have f3 : ∀ b ∈ fp, FpOk X pins (upd H2 s2.heap.objs.size (.lst [])) b := fun b hb => by
    obtain ⟨q1, q2⟩ := f2 b hb
    exact ⟨by rw [upd_ne (Nat.ne_of_lt (lt2 b hb))]; exact q1, q2⟩
  have lt3 : ∀ b ∈ fp, b < s3.heap.objs.size := fun b hb => by rw [sz3]; exact Nat.lt_succ_of_lt (lt2 b hb)
  rw [e3] at hns₁ hsb₁ ⊢
  have up1 : ∀ b o, s3.heap.get? b = some o → h₁.get? b = some o := fun b o e => hsb₁.extBut b o (Nat.ne_of_lt (Heap.lt_size e)) (Heap.get?_push_of_some _ e)
  have hns0 : h₁.Ns s3.heap.objs.size (fun _ => none) := by
    have q := hns₁
    simpa using q
  have I4 : Inv (cxComp X N' scope fp s3 (upd H2 s2.heap.objs.size (.lst []))) [] (σc σ) (upd H2 s2.heap.objs.size (.lst [])) { s3 with heap := h₁, toks := s2.toks } := comp_inv S I3 f3 lt3 (hσ σ I.len) hns0 up1
  have st4 : tn 0 h₁ := T.keep _ _ _ st2 fun b hb o e => up1 b o (up23 b o e)
  generalize hX : cxComp X N' scope fp s3 (upd H2 s2.heap.objs.size (.lst [])) = X' at I4
  have xP : X'.prog = X.prog := by rw [← hX]; rfl
  have xw : X'.w = X.w := by rw [← hX]; rfl
  have xK : X'.K = X.K := by rw [← hX]; rfl
  have xA : X'.A = X.A := by rw [← hX]; rfl
  have xc : X'.calm = true := by rw [← hX]; exact hcalm
  have xx : X'.xe = fun _ _ => False := by rw [← hX]; rfl
  have xe : X'.env = compEnvC scope (clOf X.env.cells scope.names []) s3.heap.objs.size X.env := by rw [← hX]; rfl
  have hg' : PG X' tg g := by rw [← hX]; exact hg _ _ _
  have hc' : PIfs X' ifs tc := by rw [← hX]; exact hc _ _ _
  have he' : PE X' elt te := by rw [← hX]; exact he _ _ _
  have ex0 : X'.ex = fp := by rw [← hX]; rfl
  have fs0 : X'.fs = frs X.stack := by rw [← hX]; rfl
  have pn0 : X'.pn = [] := by rw [← hX]; rfl
  have s00 : X'.s₀ = s3 := by rw [← hX]; rfl
  have H00 : X'.H₀ = upd H2 s2.heap.objs.size (.lst []) := by rw [← hX]; rfl
  have ok4 := I4.ok
  have stat : ∀ {H' : Hp}, (∀ b ∈ fp, H' b = none) → ∀ b ∈ fp, FpOk X' [] H' b := fun {H'} hn b hb => by
    obtain ⟨_, q1, q2, q3, q4, q5⟩ := f3 b hb
    refine ⟨hn b hb, (ok4.exf b (by rw [ex0]; exact hb)).1, ok4.exfs b (by rw [ex0]; exact hb), .inl (by rw [ex0]; exact hb), (ok4.exf b (by rw [ex0]; exact hb)).2, fun p hp => ?_⟩
    rw [pn0] at hp
    exact absurd (show p ∈ ([] : List (Addr × Obj)) from hp) (by simp)
  -- behind the block
  have fin : ∀ (s' : Shared) (σ' : St) (H' : Hp), Inv X' [] σ' H' s' → Q (.ref s2.heap.objs.size) H' → compPost (model X.prog X.w) X.A X.xe none (EP X pins σ Q) (.ref s2.heap.objs.size) s3.heap.objs.size (.ok .next) s' := fun s' σ' H' I' q => by
    have hC : X'.env.locals = s3.heap.objs.size := by rw [xe]; rfl
    obtain ⟨m, hm, _⟩ := id I'.loc
    rw [hC] at hm
    refine ⟨m, hm, fun h' hs' => ⟨.ref s2.heap.objs.size, H', ?_, rfl, q⟩⟩
    have un := I'.base
    rw [fs0, ex0, s00, H00] at un
    have neC : ∀ b o, s3.heap.get? b = some o → b ≠ s3.heap.objs.size := fun b o e => Nat.ne_of_lt (Heap.lt_size e)
    have un' : Un (frs X.stack) fp (upd H2 s2.heap.objs.size (.lst [])) H' s3.heap h' :=
      ⟨fun b o e n hb hx => (hs'.2 b (neC b o e)).trans (un.keep b o e n hb hx), fun b o e n hb hx => let ⟨sl, z⟩ := un.slot b o e n hb hx; ⟨sl, (hs'.2 b (neC b o e)).trans z⟩, un.free,
        fun b o e hx => let ⟨o', z⟩ := un.there b o e hx; ⟨o', (hs'.2 b (neC b o e)).trans z⟩, un.tups, un.frzs, un.tbls⟩
    have hfr : H' s3.heap.objs.size = none := by rw [← hC]; exact I'.free
    have hok' : HOk X.prog X.w H' s'.heap := by rw [← xP, ← xw]; exact I'.hok
    refine I3.call' (s' := { s' with heap := h' }) (ch := fp) ?_ un' (hok_but hok' hfr hs') I'.bare fun b hb => ?_
    · have z := I'.os
      rw [s00] at z
      exact z
    · obtain ⟨_, q1, q2, q3, q4, q5⟩ := f3 b hb
      exact ⟨q3, q1, q4, q5⟩
  have loop : codeAny (model X.prog X.w) X.A (.compLoop (.ListComp elt [⟨tg, iter, ifs, 0⟩] scope pos) 0 (.ref it) (.ref s2.heap.objs.size) (compEnvC scope (clOf X.env.cells scope.names []) s3.heap.objs.size X.env))
      (compPost (model X.prog X.w) X.A X.xe none (EP X pins σ Q) (.ref s2.heap.objs.size) s3.heap.objs.size) { s3 with heap := h₁, toks := s2.toks } := by
    refine turn_of_list (fun n s' => ∃ i σ' ys H', Inv X' [] σ' H' s' ∧ tn i s'.heap ∧ (∀ b ∈ fp, H' b = none) ∧ W i n σ' ys H') ?_ m0 ⟨0, _, [], _, I4, st4, fun b hb => (f3 b hb).1, w0⟩
    rintro n s5 ⟨i, σ5, ys, H5, I5, st5, fr5, w5⟩
    obtain ⟨hacc, hh⟩ := turn i n σ5 ys H5 w5
    rcases hh with ⟨stop, q⟩ | ⟨go, hsz, step⟩
    · have d := T.done X' xP xw xK xc i [] s5 σ5 H5 (fun _ _ => False) I5 (stat fr5) st5 stop
      rw [xA] at d
      exact thn d fun r s6 ⟨hr, I6⟩ => .inl ⟨hr, fin s6 σ5 H5 I6 q⟩
    · have d := T.item X' xP xw xK xc i [] s5 σ5 H5 (fun _ _ => False) I5 (stat fr5) st5 go
      rw [xA] at d
      refine thn d fun r s6 ⟨u, hr, h6⟩ => .inr ⟨u, hr, thn h6 fun _ s7 ⟨x, H7, I7, r7, y7, st7, fr7⟩ => ?_⟩
      have I7' := I7.pinned (stat fr7) (T.obj _ _ st7)
      have a1 := hg' _ s7 σ5 H7 x u _ I7' r7 (step x H7 y7)
      rw [xP, xw, xA, xe, xx] at a1
      refine thn a1 fun _ s8 ⟨σ8, H8, I8, q8⟩ => ?_
      have a2 := hc' _ s8 σ8 H8 _ I8 q8
      rw [xP, xw, xA, xe, xx] at a2
      refine thn a2 fun ok s9 ⟨H9, I9, q9⟩ => ?_
      have back : ∀ {σz : St} {Hz : Hp} {sz : Shared}, Inv X' ([] ++ pinsAt fp s7.heap) σz Hz sz → tn (i + 1) sz.heap ∧ ∀ b ∈ fp, Hz b = none := fun {σz Hz sz} Iz => by
        refine ⟨T.keep _ _ _ st7 fun b hb o e => (Iz.pin (b, o) (List.mem_append_right _ (List.mem_append_right _ (mem_pinsAt hb e)))).1, fun b hb => ?_⟩
        obtain ⟨o, e, _⟩ := T.obj _ _ st7 b hb
        exact (Iz.pin (b, o) (List.mem_append_right _ (List.mem_append_right _ (mem_pinsAt hb e)))).2.1
      cases ok with
      | false =>
        obtain ⟨m', hm, w'⟩ := q9
        rw [if_neg Bool.false_ne_true]
        exact ⟨m', hm, i + 1, σ8, ys, H9, I9.unpinned, (back I9).1, (back I9).2, w'⟩
      | true =>
        rw [if_pos rfl] at q9 ⊢
        have a3 := he' _ s9 σ8 H9 _ I9 q9
        rw [xP, xw, xA, xe, xx] at a3
        refine thn a3 fun y sa ⟨yv, Ha, Ia, ra, hacc', m', hm, w'⟩ => ?_
        have a4 := mt_append (X := X') _ sa σ8 Ha (.ref s2.heap.objs.size) [yv] (.ref s2.heap.objs.size) [y] (fun v H' => H' = upd Ha s2.heap.objs.size (.lst (ys ++ [yv]))) Ia rfl (.cons ra .nil) ⟨_, ys, yv, rfl, rfl, hacc', hsz, rfl⟩
        rw [xP, xw, xA, xx] at a4
        refine thn a4 fun _ sb ⟨_, Hb, Ib, _, eb⟩ => ?_
        subst eb
        exact ⟨m', hm, i + 1, σ8, ys ++ [yv], _, Ib.unpinned, (back Ib).1, (back Ib).2, w'⟩
  have es : ({ s2 with heap := h₁, toks := s2.toks + ([] : List (Str × Value)).length } : Shared) = { s3 with heap := h₁, toks := s2.toks } := by rw [← hs3]; rfl
  refine codeAny_compStart_list ?_ ?_
  · exact es ▸ loop
  · exact T.self _ 0 _ _ _ st4 (es ▸ loop)
end L2

set_option Elab.async false
set_option linter.all false
set_option maxRecDepth 100000
set_option maxHeartbeats 4000000
/-! zip of two tuples over the hand layer. -/
namespace L2
open PySem PySem.Spec PyProof.Rows

section
variable {P : Program} {w : World} {A : Around} {E : Value → Shared → Prop} {s : Shared}

/-- one draw from a tuple's iterator -/
theorem draw_tup {d t : Addr} {k : Nat} {its : Array Value} {u : Value} {Q : Value → Shared → Prop} (hd : s.heap.IsTupleIter d t k) (ht : s.heap.IsTuple t its) (hu : its[k]? = some u)
    (hQ : ∀ hp, hp.IsTupleIter d t (k + 1) → Heap.SameBut d s.heap hp → Q u { s with heap := hp }) : wpAny (model P w) A (Builtin.SmallTypes.nextOf (.ref d)) Q E s := by
  obtain ⟨od, hod, hoc, hof⟩ := id hd
  obtain ⟨ot, hot, _, nt, hots⟩ := ht
  unfold Builtin.SmallTypes.nextOf
  refine wpAny_bind (wpAny_callSpecial?_slot (name := Str.ofString "__next__") hd.typeIs F.slot_tuple_iterator_next (wpAny_call_entry F.slot_tuple_iterator_next hd.typeIs F.entry_tuple_iterator_next ?_ (F.args_tuple_iterator_next_1 _)))
  show wpAny _ _ (field (.ref d) 0 >>= _) _ _ s
  refine wpAny_bind (wpAny_field hod hof (x := .ref t) rfl ?_)
  show wpAny _ _ (if (Value.ref t == Value.none) = true then _ else _) _ _ s
  rw [if_neg (by intro z; exact Bool.false_ne_true z)]
  show wpAny _ _ (field (.ref d) 1 >>= _) _ _ s
  refine wpAny_bind (wpAny_field hod hof (x := .int k 0) rfl ?_)
  show wpAny _ _ (seqItems? (.ref t) >>= _) _ _ s
  refine wpAny_bind (wpAny_seqItems hot hots ?_)
  simp only [Int.toNat_natCast, hu]
  refine wpAny_bind (wpAny_setField hod hof (by simp) (wpAny_pure ⟨u, rfl, wpAny_pure (hQ _ ⟨_, Heap.get?_update_self _ hod (Obj.isFreed_of_fields (Obj.data_mapFields hof _)), (Obj.cls_mapFields ..).trans hoc, ?_⟩ (Heap.SameBut.update ..))⟩))
  rw [Obj.data_mapFields hof]
  simp [rawInt]

theorem draw_tup_end {d t : Addr} {k : Nat} {its : Array Value} {Q : Value → Shared → Prop} (hh : A.handled = none) (hd : s.heap.IsTupleIter d t k) (ht : s.heap.IsTuple t its) (hu : its[k]? = none)
    (hE : ∀ hp e, Heap.ExtBut d s.heap hp → (∃ o, hp.get? e = some o ∧ o.cls = .type "StopIteration") → E (.ref e) { s with heap := hp }) : wpAny (model P w) A (Builtin.SmallTypes.nextOf (.ref d)) Q E s := by
  obtain ⟨od, hod, hoc, hof⟩ := id hd
  obtain ⟨ot, hot, _, nt, hots⟩ := ht
  unfold Builtin.SmallTypes.nextOf
  refine wpAny_bind (wpAny_callSpecial?_slot (name := Str.ofString "__next__") hd.typeIs F.slot_tuple_iterator_next (wpAny_call_entry F.slot_tuple_iterator_next hd.typeIs F.entry_tuple_iterator_next ?_ (F.args_tuple_iterator_next_1 _)))
  show wpAny _ _ (field (.ref d) 0 >>= _) _ _ s
  refine wpAny_bind (wpAny_field hod hof (x := .ref t) rfl ?_)
  show wpAny _ _ (if (Value.ref t == Value.none) = true then _ else _) _ _ s
  rw [if_neg (by intro z; exact Bool.false_ne_true z)]
  show wpAny _ _ (field (.ref d) 1 >>= _) _ _ s
  refine wpAny_bind (wpAny_field hod hof (x := .int k 0) rfl ?_)
  show wpAny _ _ (seqItems? (.ref t) >>= _) _ _ s
  refine wpAny_bind (wpAny_seqItems hot hots ?_)
  simp only [Int.toNat_natCast, hu]
  refine wpAny_bind (wpAny_rule (wpAny_bind (wpAny_setField hod hof (by simp) ?_)))
  show wpAny _ _ (newExc (.type "StopIteration") [] >>= _) _ _ _
  refine wpAny_bind ?_
  simp only [newExc, newTuple]
  refine wpAny_bind (wpAny_newObj_type ?_ (by size_fits))
  refine wpAny_bind (m := firstArgMember _ _) (wpAny_of_eq (a := Value.none) (by first | rfl | (simp only [firstArgMember]; rfl)) ?_)
  refine wpAny_newObj_type ?_ (by size_fits)
  simp only [raiseNew]
  refine wpAny_bind (wpAny_handled ?_)
  first | rw [show A.in1.handled = none from hh] | rw [hh]
  refine wpAny_bind (wpAny_pure (wpAny_throw ?_))
  exact hE _ _ (((Heap.SameBut.update ..).extBut.push _).push _) ⟨_, Heap.get?_push_size _ rfl, rfl⟩

/-- the zip's own records -/
structure ZAp (z a b c d : Addr) : Prop where
  az : a ≠ z
  bz : b ≠ z
  cz : c ≠ z
  dz : d ≠ z
  ab : a ≠ b
  ac : a ≠ c
  ad : a ≠ d
  bc : b ≠ c
  bd : b ≠ d
  cd : c ≠ d

/-- z: the zip; a: its two iterators c, d (of the tuples t1, t2); b: the tuple that it keeps -/
structure ZAt (h : Heap) (z a b c d t1 t2 : Addr) (k : Nat) (f0 : Value) : Prop where
  zip : IsZip h z a b f0
  its : IsPair h a (.ref c) (.ref d)
  own : ∃ x y, IsPair h b x y
  i1 : h.IsTupleIter c t1 k
  i2 : h.IsTupleIter d t2 k

theorem zip_item {z a b c d t1 t2 : Addr} {k : Nat} {xs ys : Array Value} {x y : Value} {Q : Value → Shared → Prop} (D : ZAp z a b c d) (Z : ZAt s.heap z a b c d t1 t2 k .none)
    (o1 : t1 ≠ z ∧ t1 ≠ b ∧ t1 ≠ c ∧ t1 ≠ d) (o2 : t2 ≠ z ∧ t2 ≠ b ∧ t2 ≠ c ∧ t2 ≠ d) (ht1 : s.heap.IsTuple t1 xs) (ht2 : s.heap.IsTuple t2 ys) (hx : xs[k]? = some x) (hy : ys[k]? = some y)
    (hQ : ∀ hp, ZAt hp z a b c d t1 t2 (k + 1) (rawInt s.heap.objs.size) → IsPair hp s.heap.objs.size x y → (∀ e o, e ≠ z → e ≠ b → e ≠ c → e ≠ d → s.heap.get? e = some o → hp.get? e = some o) → Q (.ref s.heap.objs.size) { s with heap := hp }) :
    wpAny (model P w) A (Builtin.«zip.__next__» ⟨[.ref z], []⟩) (fun fin s' => ∃ v, fin = .done (.ret v) ∧ Q v s') E s := by
  obtain ⟨zz, zi, ⟨p, q, zo⟩, z1, z2⟩ := Z
  show wpAny _ _ (field (.ref z) 2 >>= _) _ _ _
  refine wpAny_bind (wpAny_field zz rfl (x := .bool false) rfl ?_)
  show wpAny _ _ (field (.ref z) 3 >>= _) _ _ _
  refine wpAny_bind (wpAny_field zz rfl (x := .ref a) rfl ?_)
  refine wpAny_bind (wpAny_seqItems zi rfl ?_)
  show wpAny _ _ (Builtin.SmallTypes.ownedTupleIsFree (.ref z) >>= _) _ _ _
  refine wpAny_bind ?_
  unfold Builtin.SmallTypes.ownedTupleIsFree
  refine wpAny_bind (wpAny_field zz rfl (x := .none) rfl (wpAny_pure ?_))
  simp only [if_true]
  refine wpAny_bind (wpAny_rule ?_)
  refine wpAny_bind (wpAny_field zz rfl (x := .ref b) rfl ?_)
  refine wpAny_bind (wpAny_setField_rec zz (by simp) fun k1 y1 s1 => ?_)
  replace y1 : IsZip k1 z a b .ellipsis := y1
  refine wpAny_bind ?_
  simp only [List.zipIdx_cons, List.zipIdx_nil, List.forIn_cons, List.forIn_nil]
  refine wpAny_bind (wpAny_bind (wpAny_onRaise ?_))
  show wpAny _ _ (Builtin.SmallTypes.nextOf (.ref c) >>= _) _ _ _
  refine wpAny_bind (draw_tup (z1.extBut s1.extBut D.cz) (ht1.extBut s1.extBut o1.1) hx fun k2 y2 s2 => wpAny_pure ?_)
  have w2 : IsPair k2 b p q := s2.extBut _ _ D.bc (s1.extBut _ _ D.bz zo)
  refine wpAny_bind (wpAny_seqItems w2 rfl ?_)
  refine wpAny_bind (wpAny_updateSeq_pair w2 fun k3 y3 s3 => ?_)
  replace y3 : IsPair k3 b x q := y3
  refine wpAny_bind (wpAny_letGo (wpAny_pure ?_))
  refine wpAny_bind (wpAny_bind (wpAny_onRaise ?_))
  show wpAny _ _ (Builtin.SmallTypes.nextOf (.ref d) >>= _) _ _ _
  refine wpAny_bind (draw_tup (((z2.extBut s1.extBut D.dz).extBut s2.extBut D.cd.symm).extBut s3.extBut D.bd.symm) (((ht2.extBut s1.extBut o2.1).extBut s2.extBut o2.2.2.1).extBut s3.extBut o2.2.1) hy fun k4 y4 s4 => wpAny_pure ?_)
  have w4 : IsPair k4 b x q := s4.extBut _ _ D.bd y3
  refine wpAny_bind (wpAny_seqItems w4 rfl ?_)
  refine wpAny_bind (wpAny_updateSeq_pair w4 fun k5 y5 s5 => ?_)
  replace y5 : IsPair k5 b x y := y5
  refine wpAny_bind (wpAny_letGo (wpAny_pure (wpAny_pure ?_)))
  refine wpAny_bind (wpAny_seqItems y5 rfl ?_)
  refine wpAny_bind (wpAny_newTuple ?_)
  have sz : k5.objs.size = s.heap.objs.size := by rw [s5.1, s4.1, s3.1, s2.1, s1.1]
  have zz5 : IsZip k5 z a b .ellipsis := s5.extBut _ _ D.bz.symm (s4.extBut _ _ D.dz.symm (s3.extBut _ _ D.bz.symm (s2.extBut _ _ D.cz.symm y1)))
  have up5 : ∀ e o, e ≠ z → e ≠ b → e ≠ c → e ≠ d → s.heap.get? e = some o → k5.get? e = some o := fun e o e1 e2 e3 e4 g => s5.extBut _ _ e2 (s4.extBut _ _ e4 (s3.extBut _ _ e2 (s2.extBut _ _ e3 (s1.extBut _ _ e1 g))))
  have c5 : k5.IsTupleIter c t1 (k + 1) := ((y2.extBut s3.extBut D.bc.symm).extBut s4.extBut D.cd).extBut s5.extBut D.bc.symm
  have d5 : k5.IsTupleIter d t2 (k + 1) := y4.extBut s5.extBut D.bd.symm
  have zlt : z < k5.objs.size := Heap.lt_size zz5
  show wpAny _ _ (Builtin.SmallTypes.ownedTupleHandOut (.ref z) (.ref k5.objs.size) >>= _) _ _ _
  refine wpAny_bind ?_
  unfold Builtin.SmallTypes.ownedTupleHandOut
  have zz6 : IsZip (k5.push { cls := .type "tuple", data := .seq #[x, y] }) z a b .ellipsis := Heap.get?_push_of_some _ zz5
  refine wpAny_bind (wpAny_setField_rec zz6 (by simp) fun k7 y7 s7 => ?_)
  replace y7 : IsZip k7 z a b (rawInt k5.objs.size) := y7
  refine wpAny_setField_rec y7 (by simp) fun k8 y8 s8 => ?_
  replace y8 : IsZip k8 z a b (rawInt k5.objs.size) := y8
  have up : ∀ e o, e ≠ z → k5.get? e = some o → k8.get? e = some o := fun e o e1 g => s8.extBut _ _ e1 (s7.extBut _ _ e1 (Heap.get?_push_of_some _ g))
  have t8 : IsPair k8 k5.objs.size x y := s8.extBut _ _ (Nat.ne_of_gt zlt) (s7.extBut _ _ (Nat.ne_of_gt zlt) (Heap.get?_push_size _ rfl))
  rw [sz] at y8 t8
  refine wpAny_pure ⟨_, rfl, ?_⟩
  show Q (.ref k5.objs.size) _
  rw [sz]
  exact hQ k8 ⟨y8, up _ _ D.az (up5 _ _ D.az D.ab D.ac D.ad zi), ⟨x, y, up _ _ D.bz y5⟩, c5.at fun o g => up _ o D.cz g, d5.at fun o g => up _ o D.dz g⟩ t8 fun e o e1 e2 e3 e4 g => up e o e1 (up5 e o e1 e2 e3 e4 g)

theorem zip_fin {z a b c d t1 t2 : Addr} {k : Nat} {xs ys : Array Value} {Q : Fin → Shared → Prop} (hh : A.handled = none) (D : ZAp z a b c d) (Z : ZAt s.heap z a b c d t1 t2 k .none)
    (o1 : t1 ≠ z ∧ t1 ≠ b ∧ t1 ≠ c ∧ t1 ≠ d) (o2 : t2 ≠ z ∧ t2 ≠ b ∧ t2 ≠ c ∧ t2 ≠ d) (ht1 : s.heap.IsTuple t1 xs) (ht2 : s.heap.IsTuple t2 ys) (hend : xs[k]? = none ∨ ys[k]? = none)
    (hE : ∀ hp e, (∀ f o, f ≠ z → f ≠ b → f ≠ c → f ≠ d → s.heap.get? f = some o → hp.get? f = some o) → (∃ o, hp.get? e = some o ∧ o.cls = .type "StopIteration") → E (.ref e) { s with heap := hp }) :
    wpAny (model P w) A (Builtin.«zip.__next__» ⟨[.ref z], []⟩) Q E s := by
  obtain ⟨zz, zi, ⟨p, q, zo⟩, z1, z2⟩ := Z
  show wpAny _ _ (field (.ref z) 2 >>= _) _ _ _
  refine wpAny_bind (wpAny_field zz rfl (x := .bool false) rfl ?_)
  show wpAny _ _ (field (.ref z) 3 >>= _) _ _ _
  refine wpAny_bind (wpAny_field zz rfl (x := .ref a) rfl ?_)
  refine wpAny_bind (wpAny_seqItems zi rfl ?_)
  show wpAny _ _ (Builtin.SmallTypes.ownedTupleIsFree (.ref z) >>= _) _ _ _
  refine wpAny_bind ?_
  unfold Builtin.SmallTypes.ownedTupleIsFree
  refine wpAny_bind (wpAny_field zz rfl (x := .none) rfl (wpAny_pure ?_))
  simp only [if_true]
  refine wpAny_bind (wpAny_rule ?_)
  refine wpAny_bind (wpAny_field zz rfl (x := .ref b) rfl ?_)
  refine wpAny_bind (wpAny_setField_rec zz (by simp) fun k1 y1 s1 => ?_)
  replace y1 : IsZip k1 z a b .ellipsis := y1
  refine wpAny_bind ?_
  simp only [List.zipIdx_cons, List.zipIdx_nil, List.forIn_cons, List.forIn_nil]
  refine wpAny_bind (wpAny_bind (wpAny_onRaise ?_))
  show wpAny _ _ (Builtin.SmallTypes.nextOf (.ref c) >>= _) _ _ _
  cases hx : xs[k]? with
  | none =>
    refine wpAny_bind (draw_tup_end hh (z1.extBut s1.extBut D.cz) (ht1.extBut s1.extBut o1.1) hx fun k2 e s2 he => ?_)
    obtain ⟨oe, hoe, hce⟩ := he
    have zz2 : IsZip k2 z a b .ellipsis := s2 _ _ D.cz.symm y1
    have ez : e ≠ z := fun g => by subst g; rw [zz2] at hoe; cases hoe; simp at hce
    refine wpAny_setField_rec zz2 (by simp) fun k3 _ s3 => hE k3 e (fun f o f1 _ f3 _ g => s3.extBut _ _ f1 (s2 _ _ f3 (s1.extBut _ _ f1 g))) ⟨oe, s3.extBut _ _ ez hoe, hce⟩
  | some x =>
    have hy : ys[k]? = none := by
      rcases hend with h | h
      · rw [hx] at h; cases h
      · exact h
    refine wpAny_bind (draw_tup (z1.extBut s1.extBut D.cz) (ht1.extBut s1.extBut o1.1) hx fun k2 y2 s2 => wpAny_pure ?_)
    have w2 : IsPair k2 b p q := s2.extBut _ _ D.bc (s1.extBut _ _ D.bz zo)
    refine wpAny_bind (wpAny_seqItems w2 rfl ?_)
    refine wpAny_bind (wpAny_updateSeq_pair w2 fun k3 y3 s3 => ?_)
    refine wpAny_bind (wpAny_letGo (wpAny_pure ?_))
    refine wpAny_bind (wpAny_bind (wpAny_onRaise ?_))
    show wpAny _ _ (Builtin.SmallTypes.nextOf (.ref d) >>= _) _ _ _
    refine wpAny_bind (draw_tup_end hh (((z2.extBut s1.extBut D.dz).extBut s2.extBut D.cd.symm).extBut s3.extBut D.bd.symm) (((ht2.extBut s1.extBut o2.1).extBut s2.extBut o2.2.2.1).extBut s3.extBut o2.2.1) hy fun k4 e s4 he => ?_)
    obtain ⟨oe, hoe, hce⟩ := he
    have zz4 : IsZip k4 z a b .ellipsis := s4 _ _ D.dz.symm (s3.extBut _ _ D.bz.symm (s2.extBut _ _ D.cz.symm y1))
    have ez : e ≠ z := fun g => by subst g; rw [zz4] at hoe; cases hoe; simp at hce
    refine wpAny_setField_rec zz4 (by simp) fun k5 _ s5 => hE k5 e (fun f o f1 f2 f3 f4 g => s5.extBut _ _ f1 (s4 _ _ f4 (s3.extBut _ _ f2 (s2.extBut _ _ f3 (s1.extBut _ _ f1 g))))) ⟨oe, s5.extBut _ _ ez hoe, hce⟩

theorem zip_next {z a b c d t1 t2 : Addr} {k : Nat} {xs ys : Array Value} {x y : Value} {Q : Option Value → Shared → Prop} (D : ZAp z a b c d) (Z : ZAt s.heap z a b c d t1 t2 k .none)
    (o1 : t1 ≠ z ∧ t1 ≠ b ∧ t1 ≠ c ∧ t1 ≠ d) (o2 : t2 ≠ z ∧ t2 ≠ b ∧ t2 ≠ c ∧ t2 ≠ d) (ht1 : s.heap.IsTuple t1 xs) (ht2 : s.heap.IsTuple t2 ys) (hx : xs[k]? = some x) (hy : ys[k]? = some y)
    (hQ : ∀ hp, ZAt hp z a b c d t1 t2 (k + 1) (rawInt s.heap.objs.size) → IsPair hp s.heap.objs.size x y → (∀ e o, e ≠ z → e ≠ b → e ≠ c → e ≠ d → s.heap.get? e = some o → hp.get? e = some o) → Q (some (.ref s.heap.objs.size)) { s with heap := hp }) :
    wpAny (model P w) A (pyNext (.ref z)) Q E s := by
  have hT : s.TypeIs (.ref z) "zip" := ⟨_, Z.zip, rfl⟩
  unfold pyNext
  exact wpAny_bind (wpAny_attempt (wpAny_callSpecial?_slot (name := Str.ofString "__next__") hT F.slot_zip_next (wpAny_call_entry F.slot_zip_next hT F.entry_zip_next
    (zip_item D Z o1 o2 ht1 ht2 hx hy fun hp q1 q2 q3 => wpAny_pure (hQ hp q1 q2 q3)) (F.args_zip_next_1 _))))

theorem zip_stop {z a b c d t1 t2 : Addr} {k : Nat} {xs ys : Array Value} {Q : Option Value → Shared → Prop} (hh : A.handled = none) (D : ZAp z a b c d) (Z : ZAt s.heap z a b c d t1 t2 k .none)
    (o1 : t1 ≠ z ∧ t1 ≠ b ∧ t1 ≠ c ∧ t1 ≠ d) (o2 : t2 ≠ z ∧ t2 ≠ b ∧ t2 ≠ c ∧ t2 ≠ d) (ht1 : s.heap.IsTuple t1 xs) (ht2 : s.heap.IsTuple t2 ys) (hend : xs[k]? = none ∨ ys[k]? = none)
    (hQ : ∀ hp, (∀ f o, f ≠ z → f ≠ b → f ≠ c → f ≠ d → s.heap.get? f = some o → hp.get? f = some o) → Q none { s with heap := hp }) : wpAny (model P w) A (pyNext (.ref z)) Q E s := by
  have hT : s.TypeIs (.ref z) "zip" := ⟨_, Z.zip, rfl⟩
  unfold pyNext
  refine wpAny_bind (wpAny_attempt (wpAny_callSpecial?_slot (name := Str.ofString "__next__") hT F.slot_zip_next
    (wpAny_call_entry F.slot_zip_next hT F.entry_zip_next (zip_fin hh D Z o1 o2 ht1 ht2 hend fun hp e hk he => ?_) (F.args_zip_next_1 _))))
  obtain ⟨o, ho, hc⟩ := he
  refine wpAny_bind (wpAny_isInstance (T := "StopIteration") (b := true) ⟨o, ho, hc⟩ isSubtype_stop ?_)
  exact wpAny_pure (hQ _ hk)
end
end L2

set_option Elab.async false
set_option linter.all false
set_option maxRecDepth 100000
set_option maxHeartbeats 4000000
namespace L2
open PySem PySem.Spec PyProof.Rows

theorem zap_new (n : Nat) : ZAp (n + 4) (n + 2) (n + 3) n (n + 1) := by
  have h : ∀ i j : Nat, i ≠ j → n + i ≠ n + j := fun i j h e => h (Nat.add_left_cancel e)
  exact ⟨h 2 4 (by decide), h 3 4 (by decide), h 0 4 (by decide), h 1 4 (by decide), h 2 3 (by decide), h 2 0 (by decide), h 2 1 (by decide), h 3 0 (by decide), h 3 1 (by decide), h 0 1 (by decide)⟩
theorem zap_le (n : Nat) (e : Addr) (he : e ∈ [n + 4, n + 2, n + 3, n, n + 1]) : n ≤ e := by
  simp only [List.mem_cons, List.not_mem_nil, or_false] at he
  rcases he with rfl | rfl | rfl | rfl | rfl
  · exact Nat.le_add_right _ _
  · exact Nat.le_add_right _ _
  · exact Nat.le_add_right _ _
  · exact Nat.le_refl _
  · exact Nat.le_add_right _ _
/-- at turn i: a new pair of the i-th things -/
def Itz (K : PySem.W.Frag) (t1 t2 : Addr) : It :=
  ⟨fun i H => ∃ xs ys x y, SqT K H t1 xs ∧ SqT K H t2 ys ∧ xs[i]? = some x ∧ ys[i]? = some y,
   fun i H v H' => ∃ T, H T = none ∧ v = .ref T ∧ ∀ xs ys x y, SqT K H t1 xs → SqT K H t2 ys → xs[i]? = some x → ys[i]? = some y → H' = upd H T (.tup [x, y]),
   fun i H => ∃ xs ys, SqT K H t1 xs ∧ SqT K H t2 ys ∧ (xs.length ≤ i ∨ ys.length ≤ i)⟩

/-- a tuple that is read is none of the iterator's records -/
theorem sqt_apart {X : Cx} {pins : List (Addr × Obj)} {σ : St} {H : Hp} {s : Shared} {t b : Addr} {xs : List V} (I : Inv X pins σ H s) (h : SqT X.K H t xs) (f : FpOk X pins H b) : t ≠ b := by
  rintro rfl
  obtain ⟨f0, f1, f2, f3, f4, f5⟩ := f
  rcases h with (h | ⟨o, h⟩) | ⟨o, its, n, hk, _⟩
  · rw [f0] at h; cases h
  · rw [f0] at h; cases h
  · have e := I.ok.mod.kin t o hk
    rcases f3 with q | q
    · exact I.ok.noex t o e q
    · exact absurd (Nat.lt_of_lt_of_le (Heap.lt_size e) (Nat.le_trans I.ok.bsz q)) (Nat.lt_irrefl _)

theorem turn_zip {P : Program} {w : World} {K : PySem.W.Frag} {es : List Expr} {k : Nat} {pos : Pos} {z a b c d t1 t2 : Addr} (D : ZAp z a b c d) :
    Turn P w K (.Tuple es k pos) (Itz K t1 t2) [z, a, b, c, d] z (fun i h => ZAt h z a b c d t1 t2 i .none) where
  mem := by simp
  obj := fun i h st e he => by
    obtain ⟨zz, zi, ⟨p, q, zo⟩, ⟨o1, e1, c1, d1⟩, ⟨o2, e2, c2, d2⟩⟩ := st
    simp at he
    rcases he with rfl | rfl | rfl | rfl | rfl
    · exact ⟨_, zz, fun v g => by cases g⟩
    · exact ⟨_, zi, fun v g => by cases g⟩
    · exact ⟨_, zo, fun v g => by cases g⟩
    · exact ⟨_, e1, fun v g => by rw [d1] at g; cases g⟩
    · exact ⟨_, e2, fun v g => by rw [d2] at g; cases g⟩
  keep := fun i h h' st kp => by
    obtain ⟨zz, zi, ⟨p, q, zo⟩, z1, z2⟩ := st
    exact ⟨kp z (by simp) _ zz, kp a (by simp) _ zi, ⟨p, q, kp b (by simp) _ zo⟩, z1.at fun o e => kp c (by simp) o e, z2.at fun o e => kp d (by simp) o e⟩
  item := by
    intro X hP hw hK hc i pins s σ H E I hf st hg
    subst hP hw hK
    obtain ⟨xs, ys, x, y, h1, h2, hx, hy⟩ := hg
    obtain ⟨its1, r1, p1, l1⟩ := I.tuple h1
    obtain ⟨its2, r2, p2, l2⟩ := I.tuple h2
    obtain ⟨u1, hu1, ru1⟩ := r1.get hx
    obtain ⟨u2, hu2, ru2⟩ := r2.get hy
    have ap1 := fun (e : Addr) (he : e ∈ [z, a, b, c, d]) => sqt_apart I h1 (hf e he)
    have ap2 := fun (e : Addr) (he : e ∈ [z, a, b, c, d]) => sqt_apart I h2 (hf e he)
    refine zip_next D st ⟨ap1 z (by simp), ap1 b (by simp), ap1 c (by simp), ap1 d (by simp)⟩ ⟨ap2 z (by simp), ap2 b (by simp), ap2 c (by simp), ap2 d (by simp)⟩
      (show s.heap.IsTuple t1 its1.toArray from p1) (show s.heap.IsTuple t2 its2.toArray from p2) (x := u1) (y := u2) (by simpa using hu1) (by simpa using hu2) fun hp Z' pr kp => ?_
    refine ⟨_, rfl, wpAny_letOwnedTupleGo_zip Z'.zip fun hq zq sq => ?_⟩
    have nT : H s.heap.objs.size = none := I.fresh
    have keepAll : ∀ e o, e ∉ [z, b, c, d] → s.heap.get? e = some o → hq.get? e = some o := fun e o he g => by
      simp at he
      exact sq.extBut _ _ he.1 (kp e o he.1 he.2.1 he.2.2.1 he.2.2.2 g)
    have Tz : s.heap.objs.size ≠ z := Nat.ne_of_gt (Heap.lt_size st.zip)
    have prq : IsPair hq s.heap.objs.size u1 u2 := sq.extBut _ _ Tz pr
    have tracked : ∀ e u, H e = some u → e ∉ [z, b, c, d] := fun e u he hm => by
      have : H e = none := (hf e (by simp at hm ⊢; rcases hm with r | r | r | r <;> simp [r])).1
      rw [this] at he; cases he
    have hok' : HOk X.prog X.w (upd H s.heap.objs.size (.tup [x, y])) hq := fun e u he => by
      by_cases ee : e = s.heap.objs.size
      · subst ee
        rw [upd_same] at he
        cases he
        exact ⟨(by show 2 ≤ sizeLine; decide), [u1, u2], .cons ru1 (.cons ru2 .nil), ⟨_, prq, rfl, _, rfl⟩⟩
      · rw [upd_ne ee] at he
        refine (I.hok e u he).stay (fun f o hfo g => keepAll f o ?_ g) (fun f g => by rw [upd_ne (ne_of_none g nT)]; exact g) fun f zs g => by rw [upd_ne (ne_of_none g nT)]; exact g
        rcases hfo with rfl | hfo
        · exact tracked f u he
        · exact tracked f _ hfo
    have I1 : Inv X pins σ (upd H s.heap.objs.size (.tup [x, y])) { s with heap := hq } := by
      refine I.step (g' := s.gens) (d' := s.drawn) (t' := s.toks) (ch := [z, b, c, d]) (fun e he => ?_) (fun e o _ _ he g _ => keepAll e o he g) (fun e o _ _ he g _ => ⟨o.slots, keepAll e o he g⟩)
        (fun e o _ g n => by rw [upd_ne (Nat.ne_of_lt (Heap.lt_size g))]; exact n) (fun e o he g => ⟨o, keepAll e o he g⟩) (fun e zs g => by rw [upd_ne (ne_of_none g nT)]; exact g) (fun e o u g => by rw [upd_ne (ne_of_none g nT)]; exact g)
        (fun e ps g => ⟨#[], by rw [upd_ne (ne_of_none g nT), g]; simp⟩) (fun m hm => ?_) hok' I.bare
      · obtain ⟨f0, f1, f2, f3, f4, f5⟩ := hf e (by simp at he ⊢; rcases he with r | r | r | r <;> simp [r])
        exact ⟨f3, f1, f4, f5⟩
      · obtain ⟨o, es', ep, ho, r⟩ := hm
        refine ⟨o, es', ep, keepAll _ o (fun hmem => ?_) ho, r⟩
        exact (hf X.env.locals (by simp at hmem ⊢; rcases hmem with r | r | r | r <;> simp [r])).2.1 rfl
    refine ⟨.ref s.heap.objs.size, _, I1, rfl, ⟨_, nT, rfl, fun xs' ys' x' y' g1 g2 gx gy => ?_⟩, ?_, fun e he => ?_⟩
    · have e1 := I.tuple_inj g1 h1
      have e2 := I.tuple_inj g2 h2
      subst e1; subst e2
      rw [hx] at gx; rw [hy] at gy
      cases gx; cases gy
      rfl
    · obtain ⟨_, zi, ⟨p, q, zo⟩, z1, z2⟩ := Z'
      exact ⟨zq, sq.extBut _ _ D.az zi, ⟨p, q, sq.extBut _ _ D.bz zo⟩, z1.extBut sq.extBut D.cz, z2.extBut sq.extBut D.dz⟩
    · rw [upd_ne]
      · exact (hf e he).1
      · obtain ⟨o, ho, _⟩ : ∃ o, s.heap.get? e = some o ∧ True := by
          obtain ⟨zz, zi, ⟨p, q, zo⟩, ⟨o1, e1, c1, d1⟩, ⟨o2, e2, c2, d2⟩⟩ := st
          simp at he
          rcases he with rfl | rfl | rfl | rfl | rfl
          · exact ⟨_, zz, trivial⟩
          · exact ⟨_, zi, trivial⟩
          · exact ⟨_, zo, trivial⟩
          · exact ⟨_, e1, trivial⟩
          · exact ⟨_, e2, trivial⟩
        exact Nat.ne_of_lt (Heap.lt_size ho)
  done := by
    intro X hP hw hK hc i pins s σ H E I hf st hg
    subst hP hw hK
    obtain ⟨xs, ys, h1, h2, hx⟩ := hg
    obtain ⟨its1, r1, p1, l1⟩ := I.tuple h1
    obtain ⟨its2, r2, p2, l2⟩ := I.tuple h2
    have e1 := r1.length
    have e2 := r2.length
    have ap1 := fun (e : Addr) (he : e ∈ [z, a, b, c, d]) => sqt_apart I h1 (hf e he)
    have ap2 := fun (e : Addr) (he : e ∈ [z, a, b, c, d]) => sqt_apart I h2 (hf e he)
    refine zip_stop (I.ok.hd hc) D st ⟨ap1 z (by simp), ap1 b (by simp), ap1 c (by simp), ap1 d (by simp)⟩ ⟨ap2 z (by simp), ap2 b (by simp), ap2 c (by simp), ap2 d (by simp)⟩
      (show s.heap.IsTuple t1 its1.toArray from p1) (show s.heap.IsTuple t2 its2.toArray from p2) (by
        rcases hx with q | q
        · exact .inl (by simp; omega)
        · exact .inr (by simp; omega)) fun hq kp => ⟨rfl, ?_⟩
    have keepAll : ∀ e o, e ∉ [z, b, c, d] → s.heap.get? e = some o → hq.get? e = some o := fun e o he g => by
      simp at he
      exact kp e o he.1 he.2.1 he.2.2.1 he.2.2.2 g
    have tracked : ∀ e u, H e = some u → e ∉ [z, b, c, d] := fun e u he hm => by
      have : H e = none := (hf e (by simp at hm ⊢; rcases hm with r | r | r | r <;> simp [r])).1
      rw [this] at he; cases he
    refine I.step (g' := s.gens) (d' := s.drawn) (t' := s.toks) (ch := [z, b, c, d]) (fun e he => ?_) (fun e o _ _ he g _ => keepAll e o he g) (fun e o _ _ he g _ => ⟨o.slots, keepAll e o he g⟩)
      (fun e o _ g n => n) (fun e o he g => ⟨o, keepAll e o he g⟩) (fun e zs g => g) (fun e o u g => g) (fun e ps g => ⟨#[], by rw [g]; simp⟩) (fun m hm => ?_) (fun e u he => ?_) I.bare
    · obtain ⟨f0, f1, f2, f3, f4, f5⟩ := hf e (by simp at he ⊢; rcases he with r | r | r | r <;> simp [r])
      exact ⟨f3, f1, f4, f5⟩
    · obtain ⟨o, es', ep, ho, r⟩ := hm
      refine ⟨o, es', ep, keepAll _ o (fun hmem => ?_) ho, r⟩
      exact (hf X.env.locals (by simp at hmem ⊢; rcases hmem with r | r | r | r <;> simp [r])).2.1 rfl
    · refine (I.hok e u he).stay (fun f o hfo g => keepAll f o ?_ g) (fun f g => g) fun f zs g => g
      rcases hfo with rfl | hfo
      · exact tracked f u he
      · exact tracked f _ hfo
  self := fun _ _ _ _ _ st h => wpAny_pyIter_zip st.zip h

/-- the records of zip(t1, t2), made one by one -/
abbrev zh1 (h : Heap) (t1 : Addr) : Heap := h.push { cls := .type "tuple_iterator", data := .fields #[.ref t1, .int 0 0] }
abbrev zh2 (h : Heap) (t1 t2 : Addr) : Heap := (zh1 h t1).push { cls := .type "tuple_iterator", data := .fields #[.ref t2, .int 0 0] }
abbrev zh3 (h : Heap) (t1 t2 : Addr) : Heap := (zh2 h t1 t2).push { cls := .type "tuple", data := .seq #[.ref h.objs.size, .ref (zh1 h t1).objs.size] }
abbrev zh4 (h : Heap) (t1 t2 : Addr) : Heap := (zh3 h t1 t2).push { cls := .type "tuple", data := .seq #[.none, .none] }
abbrev zh5 (h : Heap) (t1 t2 : Addr) : Heap := (zh4 h t1 t2).push { cls := .type "zip", data := .fields #[.none, .bool false, .bool false, .ref (zh2 h t1 t2).objs.size, .ref (zh3 h t1 t2).objs.size] }

theorem zip_new_tup (t1 t2 : Addr) (xs ys : Array Value) :
    Meets (Builtin.«zip.__new__» ⟨[.type "zip", .ref t1, .ref t2], []⟩) (fun _ R s => s.heap.IsTuple t1 xs ∧ s.heap.IsTuple t2 ys ∧ R (.ok (.ret (.ref (zh4 s.heap t1 t2).objs.size))) { s with heap := zh5 s.heap t1 t2 }) :=
  .of_wp fun prog w A R s h => by
    obtain ⟨hp, g, d, tk, os⟩ := s; obtain ⟨ht1, ht2, h⟩ := h
    have hsub := sub_zip
    have hT1 : Heap.IsTuple (Shared.heap ⟨hp, g, d, tk, os⟩) t1 xs := ht1
    have hT2 : Heap.IsTuple (Shared.heap ⟨hp.push { cls := .type "tuple_iterator", data := .fields #[.ref t1, .int 0 0] }, g, d, tk, os⟩) t2 ys := Heap.IsTuple.push ht2 _
    wp_walk using wpAny_pyIter_tuple hT1, wpAny_pyIter_tuple hT2
    exact ⟨_, rfl, h⟩

def iZip (K : PySem.W.Frag) (ta : TA) : TI := fun σ H R => ta σ H fun vs H1 => ∃ t1 t2, vs = [.ref t1, .ref t2] ∧ (∃ xs, SqT K H1 t1 xs) ∧ (∃ ys, SqT K H1 t2 ys) ∧ R (Itz K t1 t2) H1

theorem pi_zip {X : Cx} {es : List Expr} {k : Nat} {tpos : Pos} {a b : Expr} {ta : TA} {p pos : Pos} (hg : Gl X "zip") (hm : X.mg "zip" = none) (ha : PA X [a, b] ta) (hs : starEach [a, b] X.env = [(false, eval a X.env), (false, eval b X.env)] := by rfl)
    (hs2 : starEach [b] X.env = [(false, eval b X.env)] := by rfl) : PI X (.Tuple es k tpos) (.Call (.Name "zip" p) [a, b] [] pos) (iZip X.K ta) := by
  intro pins s σ H R I h
  refine Call_ (ld_blt I hg hm (show bootBuiltins "zip" = some (.type "zip") from by decide +kernel) (PyProof.Rows.callWith_type1 (thn (ha pos pins s σ H _ I h) fun us s1 ⟨vs, H1, I1, r1, q1⟩ => ?_) (by rw [hs, hs2]) (by rw [hs2]; rfl)))
  obtain ⟨t1, t2, e, ⟨xs, g1⟩, ⟨ys, g2⟩, q⟩ := q1
  subst e
  obtain ⟨u1, u2, rfl, ru1, ru2⟩ := r1.two
  cases ru1
  cases ru2
  obtain ⟨its1, r1, p1, l1⟩ := I1.tuple g1
  obtain ⟨its2, r2, p2, l2⟩ := I1.tuple g2
  refine callType_new F.called_zip (by decide) (F.typeCall_zip_2 _ _) (F.newCall_zip_2 _ _) (fun obj => F.args_object_init_3 obj _ _) F.entry_zip_new
    (zip_new_tup t1 t2 its1.toArray its2.toArray) ⟨p1, p2, ?_⟩
  have z1 : (zh1 s1.heap t1).objs.size = s1.heap.objs.size + 1 := Heap.size_push ..
  have z2 : (zh2 s1.heap t1 t2).objs.size = s1.heap.objs.size + 2 := by rw [Heap.size_push, z1]
  have z3 : (zh3 s1.heap t1 t2).objs.size = s1.heap.objs.size + 3 := by rw [Heap.size_push, z2]
  have z4 : (zh4 s1.heap t1 t2).objs.size = s1.heap.objs.size + 4 := by rw [Heap.size_push, z3]
  have y5 : (zh5 s1.heap t1 t2).get? (zh4 s1.heap t1 t2).objs.size = some _ := Heap.get?_push_size _ rfl
  have y4 : (zh5 s1.heap t1 t2).get? (zh3 s1.heap t1 t2).objs.size = some _ := Heap.get?_push_of_some _ (Heap.get?_push_size _ rfl)
  have y3 : (zh5 s1.heap t1 t2).get? (zh2 s1.heap t1 t2).objs.size = some _ := Heap.get?_push_of_some _ (Heap.get?_push_of_some _ (Heap.get?_push_size _ rfl))
  have y2 : (zh5 s1.heap t1 t2).get? (zh1 s1.heap t1).objs.size = some _ := Heap.get?_push_of_some _ (Heap.get?_push_of_some _ (Heap.get?_push_of_some _ (Heap.get?_push_size _ rfl)))
  have y1 : (zh5 s1.heap t1 t2).get? s1.heap.objs.size = some _ := Heap.get?_push_of_some _ (Heap.get?_push_of_some _ (Heap.get?_push_of_some _ (Heap.get?_push_of_some _ (Heap.get?_push_size _ rfl))))
  have up : ∀ e o, s1.heap.get? e = some o → (zh5 s1.heap t1 t2).get? e = some o := fun e o g => Heap.get?_push_of_some _ (Heap.get?_push_of_some _ (Heap.get?_push_of_some _ (Heap.get?_push_of_some _ (Heap.get?_push_of_some _ g))))
  show _ ∧ _
  rw [z2, z3, z4] at y5
  rw [z1, z2] at y3
  rw [z3] at y4
  rw [z1] at y2
  rw [z4]
  refine ⟨⟨_, y5, rfl⟩, ?_⟩
  have I2 : Inv X pins σ H1 { s1 with heap := zh5 s1.heap t1 t2 } := I1.kept (t' := s1.toks) up
  have D : ZAp (s1.heap.objs.size + 4) (s1.heap.objs.size + 2) (s1.heap.objs.size + 3) s1.heap.objs.size (s1.heap.objs.size + 1) := zap_new s1.heap.objs.size
  have Z : ZAt (zh5 s1.heap t1 t2) (s1.heap.objs.size + 4) (s1.heap.objs.size + 2) (s1.heap.objs.size + 3) s1.heap.objs.size (s1.heap.objs.size + 1) t1 t2 0 .none := ⟨y5, y3, ⟨_, _, y4⟩, ⟨_, y1, rfl, rfl⟩, ⟨_, y2, rfl, rfl⟩⟩
  refine (turn_zip (P := X.prog) (w := X.w) (K := X.K) (es := es) (k := k) (pos := tpos) D).self X.A 0 _ _ _ Z ?_
  refine ⟨s1.heap.objs.size + 4, _, _, _, H1, rfl, I2, turn_zip D, Z, fun e he => ?_, q⟩
  have hle : s1.heap.objs.size ≤ e := zap_le s1.heap.objs.size e he
  exact I1.fpOk hle (I1.hok.fresh hle)
end L2

set_option Elab.async false
set_option linter.all false
set_option maxRecDepth 100000
set_option maxHeartbeats 4000000
/-! Rules of our own over the hand layer: texts' signs walked, isinstance, all, slices, sums of tuples, tables of the module. -/
namespace L2
open PySem PySem.Spec PyProof.Rows

/-! ### the signs of a text -/
def Its (x : Str) : It := ⟨fun i _ => i < x.cps.size, fun i H v H' => H' = H ∧ ∃ c, x.cps[i]? = some c ∧ v = .str ⟨#[c]⟩, fun i _ => i = x.cps.size⟩
theorem turn_signs {P : Program} {w : World} {K : PySem.W.Frag} {y : Str} {py : Pos} {it : Addr} {T : String} {x : Str} {t : Tok}
    (W : ∀ A' : Around, A'.handled = none → Walks P w A' it [it] [it] x.cps.size (SignAt x) (fun i h => h.IsStrIter it T x t i)) (hs : ∀ (A : Around) (i : Nat) (s : Shared) (Q : Value → Shared → Prop) (E : Value → Shared → Prop), s.heap.IsStrIter it T x t i → Q (.ref it) s → wpAny (model P w) A (pyIter (.ref it)) Q E s) :
    Turn P w K (.Name y py) (Its x) [it] it (fun i h => h.IsStrIter it T x t i) where
  mem := by simp
  obj := fun i h st b hb => by
    have e : b = it := by simpa using hb
    subst e
    obtain ⟨o, e, c, d⟩ := st
    exact ⟨o, e, fun v z => by rw [d] at z; cases z⟩
  keep := fun i h h' st k => by
    obtain ⟨o, e, r⟩ := st
    exact ⟨o, k it (by simp) o e, r⟩
  item := by
    intro X hP hw hK hc i pins s σ H E I hf st hg
    subst hP hw hK
    obtain ⟨f0, f1, f2, f3, f4, f5⟩ := hf it (by simp)
    refine (W X.A (I.ok.hd hc)).item i s _ E hg st fun v h' tk hv st' kp => ?_
    obtain ⟨c, u, hc', rfl⟩ := hv
    have I1 : Inv X pins σ H { s with heap := h', toks := tk } := I.turned (t' := tk) (fun b o hb e => kp b o (by simpa using hb) e) f0 f1 f3 f4 f5
    exact ⟨_, rfl, wpAny_pure ⟨.str ⟨#[c]⟩, H, I1, ⟨u, rfl⟩, ⟨rfl, c, hc', rfl⟩, st', fun b hb => (hf b hb).1⟩⟩
  done := by
    intro X hP hw hK hc i pins s σ H E I hf st hg
    subst hP hw hK
    obtain ⟨f0, f1, f2, f3, f4, f5⟩ := hf it (by simp)
    have e : i = x.cps.size := hg
    subst e
    exact (W X.A (I.ok.hd hc)).done s _ E st fun h' tk kp => ⟨rfl, I.turned (t' := tk) (fun b o hb e => kp b o (by simpa using hb) e) f0 f1 f3 f4 f5⟩
  self := hs
def iStr (tl : TE) : TI := fun σ H R => tl σ H fun x H1 => ∃ z, x = .str z ∧ R (Its z) H1
theorem pi_str {X : Cx} {y : Str} {py : Pos} {l : Expr} {tl : TE} (hl : PE X l tl) : PI X (.Name y py) l (iStr tl) := by
  intro pins s σ H R I h
  refine thn (hl pins s σ H _ I h) fun v s1 ⟨x, H1, I1, r1, q1⟩ => ?_
  obtain ⟨z, rfl, q⟩ := q1
  obtain ⟨t, rfl⟩ := r1
  have fp : ∀ b ∈ [s1.heap.objs.size], FpOk X pins H1 b := fun b hb => by
    have e : b = s1.heap.objs.size := by simpa using hb
    subst e
    exact I1.fpOk (Nat.le_refl _) I1.fresh
  cases ha : z.cps.all (· < 128)
  · refine wpAny_pyIter_wide ha ?_
    exact ⟨_, _, _, _, H1, rfl, I1.kept (t' := s1.toks) fun b o e => Heap.get?_push_of_some _ e, turn_signs (t := t) (fun A' hA => Walks.strWide hA _ z t) (fun A i s Q E st hq => wpAny_pyIter_striter_wide st hq), ⟨_, Heap.get?_push_size _ rfl, rfl, rfl⟩, fp, q⟩
  · refine wpAny_pyIter_ascii ha ?_
    exact ⟨_, _, _, _, H1, rfl, I1.kept (t' := s1.toks) fun b o e => Heap.get?_push_of_some _ e, turn_signs (t := t) (fun A' hA => Walks.strAscii hA _ z t) (fun A i s Q E st hq => wpAny_pyIter_striter_ascii st hq), ⟨_, Heap.get?_push_size _ rfl, rfl, rfl⟩, fp, q⟩

/-! ### isinstance -/
/-- the kind of a value, by its name -/
def tyN (H : Hp) : V → Option String
  | .non => some "NoneType"
  | .bl _ => some "bool"
  | .int _ => some "int"
  | .str _ => some "str"
  | .ref a => match H a with
    | some (.lst _) => some "list"
    | some (.tup _) => some "tuple"
    | some (.dK _) => some "dict"
    | _ => none
  | _ => none
def isiB (t c : String) : Bool := t == c || (t == "bool" && c == "int")
theorem tyOf_of {K : PySem.W.Frag} {H : Hp} {x : V} {t : String} (h : tyN H x = some t) : TyOf K H x (.type t) := by
  cases x with
  | non => cases h; exact .non
  | bl b => cases h; exact .bl b
  | int i => cases h; exact .int i
  | str z => cases h; exact .str z
  | ref a =>
    unfold tyN at h
    dsimp only at h
    split at h
    · rename_i e; cases h; exact .lst e
    · rename_i e; cases h; exact .tup e
    · rename_i e; cases h; exact .dK e
    · cases h
  | byt _ => cases h
  | flt _ => cases h
  | ty _ => cases h
theorem tyN_mem {H : Hp} {x : V} {t : String} (h : tyN H x = some t) : t ∈ ["NoneType", "bool", "int", "str", "list", "tuple", "dict"] := by
  cases x with
  | ref a =>
    unfold tyN at h
    dsimp only at h
    split at h <;> first | (cases h; simp) | cases h
  | _ => first | (cases h; simp) | cases h
theorem kit_of {K : PySem.W.Frag} {t c : String} (ht : t ∈ ["NoneType", "bool", "int", "str", "list", "tuple", "dict"]) (hc : c ∈ ["str", "int", "bool", "tuple", "list"]) : PySem.W.kitOne K (.type t) (.type c) = some (isiB t c) := by
  simp only [List.mem_cons, List.not_mem_nil, or_false] at ht hc
  rcases hc with rfl | rfl | rfl | rfl | rfl <;> rcases ht with rfl | rfl | rfl | rfl | rfl | rfl | rfl <;> rfl
theorem call_isi {X : Cx} : CallR X (.builtin "isinstance") (fun xs H Q => ∃ x c t, xs = [x, .ty c] ∧ tyN H x = some t ∧ c ∈ ["str", "int", "bool", "tuple", "list"] ∧ Q (.bl (isiB t c)) H) := by
  intro pins s σ H xs us Q I r h
  obtain ⟨x, c, t, rfl, ht, hc, q⟩ := h
  obtain ⟨u, v, rfl, ru, rv⟩ := r.two
  obtain rfl : v = Value.type c := rv
  exact isinst_ok I ru (tyOf_of ht) (kit_of (tyN_mem ht) hc) fun tk => ⟨.bl _, H, I.tok tk, rfl, q⟩
/-! ### all(xs), xs a list of truths -/
theorem call_all_bl {X : Cx} (hc : X.calm = true) : CallR X (.builtin "all") (fun xs H Q => ∃ (l : Addr) (bs : List Bool), xs = [.ref l] ∧ SqL X.K H l (bs.map V.bl) ∧ Q (.bl (bs.all id)) H) := by
  intro pins s σ H xs us Q I r h
  obtain ⟨l, bs, rfl, hl, q⟩ := h
  obtain ⟨u, rfl, ru⟩ := r.one
  cases ru
  obtain ⟨its, rv, ⟨o, n, ho, hoc, hod, hos⟩, hz⟩ := I.list hl
  have hL : s.heap.IsList l its.toArray := ⟨o, ho, hoc, n, hos⟩
  have hlt : l < s.heap.objs.size := Heap.lt_size ho
  have len : bs.length = its.length := by have := rv.length; rw [List.length_map] at this; exact this
  refine call_all_walk (wpAny_pyIter_list hL ?_)
  refine ⟨s.heap.objs.size, [s.heap.objs.size, l], [s.heap.objs.size], its.toArray.size, _, _, fun i => (bs[i]?).getD true, rfl, Walks.list (A := X.A.in1) (I.ok.hd hc) _ l (Nat.ne_of_lt hlt) its.toArray,
    ⟨⟨_, Heap.get?_push_size _ rfl, rfl, rfl⟩, hL.push _⟩, fun i v s' Q' E' hP hQ => ?_, fun h' tk kp => ?_⟩
  · have hv : its[i]? = some v := by simpa using hP
    have hi : i < its.length := (List.getElem?_eq_some_iff.mp hv).1
    have hb : bs[i]? = some bs[i] := List.getElem?_eq_getElem (by omega)
    obtain ⟨u', hu', ru'⟩ := rv.get (i := i) (x := .bl bs[i]) (by rw [List.getElem?_map, hb]; rfl)
    rw [hv] at hu'
    cases hu'
    obtain rfl : v = Value.bool bs[i] := ru'
    dsimp only at hQ
    rw [hb] at hQ
    exact wpAny_truthy_bool hQ
  · have e : ((List.range its.toArray.size).all fun i => (bs[i]?).getD true) = bs.all id := by
      rw [List.size_toArray, ← len]
      rw [Bool.eq_iff_iff, List.all_eq_true, List.all_eq_true]
      constructor
      · intro g b hb
        obtain ⟨i, hi, e⟩ := List.mem_iff_getElem.mp hb
        have := g i (List.mem_range.mpr hi)
        rw [List.getElem?_eq_getElem hi, e] at this
        exact this
      · intro g i hi
        have hi' := List.mem_range.mp hi
        rw [List.getElem?_eq_getElem hi']
        exact g _ (List.getElem_mem hi')
    rw [e]
    refine ⟨.bl (bs.all id), H, I.kept (t' := tk) fun b o e => ?_, rfl, q⟩
    exact kp b o (fun z => by rw [List.mem_singleton.mp z] at e; exact Nat.lt_irrefl _ (Heap.lt_size e)) (Heap.get?_push_of_some _ e)

/-! ### texts -/
theorem op_le_str {X : Cx} : OpR X (compareOp .LtE) (fun x y H Q => ∃ i j, x = .str i ∧ y = .str j ∧ Q (.bl (!decide (j.cps.toList < i.cps.toList))) H) := by
  intro pins s σ H x y v u Q I rx ry h
  obtain ⟨i, j, rfl, rfl, q⟩ := h
  obtain ⟨t, rfl⟩ := rx
  obtain ⟨t', rfl⟩ := ry
  exact PySem.P.le_str ⟨.bl _, H, I, rfl, q⟩
/-! ### tuples -/
theorem same_of_new {H : Hp} {p : Addr} (h : H p = none) (o : HO) : Same H (upd H p o) := fun b u q => by rw [upd_ne (ne_of_none q h)]; exact q
theorem cutV_whole {xs : List V} {lo hi : Option Int} (h : HT.sIx xs.length 0 lo = 0 ∧ HT.sIx xs.length xs.length hi = xs.length) : cutV xs lo hi = xs := by
  unfold cutV
  rw [h.1, h.2, List.drop_zero, Nat.sub_zero, List.take_length]
/-- the whole of a tuple is the tuple itself -/
theorem getItem_tup_all {P : Program} {w : World} {A : Around} {E : Value → Shared → Prop} {s : Shared} {t sl : Addr} {items : Array Value} {vl vu : Value} {lo hi : Option Int} {Q : Value → Shared → Prop} (ht : IsTup s.heap t items) (hs : s.heap.IsSliceOf sl vl vu .none) (pl : IsPart vl lo) (pu : IsPart vu hi)
    (hw : HT.sIx items.size 0 lo = 0 ∧ HT.sIx items.size items.size hi = items.size) (h : Q (.ref t) s) : wpAny (model P w) A (getItem (.ref t) (.ref sl)) Q E s := by
  obtain ⟨os, hos, hcs, hds⟩ := id hs
  have hTs : s.TypeIs (.ref sl) "slice" := ⟨os, hos, hcs⟩
  unfold getItem
  try with_reducible refine wpAny_holding ?_
  first | refine wpAny_bind (wpAny_pure ?_) | skip
  refine wpAny_bind (wpAny_sequenceKey ht.typeIs (by decide) ?_)
  refine wpAny_bind (wpAny_callSpecial?_slot (name := Str.ofString "__getitem__") ht.typeIs PyProof.Rows.slot_tuple_getitem (wpAny_call_entry PyProof.Rows.slot_tuple_getitem ht.typeIs entry_tuple_getitem ?_ (args_tuple_getitem _ _)))
  show wpAny _ _ (Builtin.Tuple.tupleItemsOf (.ref t) >>= _) _ _ s
  refine wpAny_bind (tupleItemsOf_ ht ?_)
  refine wpAny_bind (wpAny_typeOf hTs ?_)
  rw [if_pos (by decide)]
  refine wpAny_bind (HT.sliceApplied_gen hs pl pu ?_)
  show wpAny _ _ (if (((HT.sIx items.size 0 lo : Nat) : Int) == 0 && (1 : Int) == 1 && (HT.sIx items.size items.size hi - HT.sIx items.size 0 lo) == items.size) = true then _ else _) _ _ s
  rw [if_pos (by rw [hw.1, hw.2]; simp)]
  refine wpAny_bind (m := Builtin.Tuple.tupleIsExact (.ref t)) ?_
  unfold Builtin.Tuple.tupleIsExact
  refine wpAny_bind (wpAny_typeOf ht.typeIs (wpAny_pure ?_))
  rw [if_pos (by decide)]
  first
    | exact wpAny_bind (wpAny_rule (wpAny_pure ⟨_, rfl, wpAny_pure h⟩))
    | exact wpAny_bind (wpAny_bind (wpAny_rule (wpAny_pure (wpAny_pure ⟨_, rfl, wpAny_pure h⟩))))
    | exact wpAny_bind (wpAny_rule (wpAny_bind (wpAny_pure (wpAny_pure ⟨_, rfl, wpAny_pure h⟩))))
/-- t[lo:hi] of a tuple that is tracked -/
def rSlTw : V → Option Int → Option Int → Hp → VK → Prop := fun x lo hi H Q => ∃ a xs, x = .ref a ∧ H a = some (.tup xs) ∧ ∀ p H', Same H H' → H' p = some (.tup (cutV xs lo hi)) → Q (.ref p) H'
theorem sl_tupW {X : Cx} : SlR X rSlTw := by
  intro pins s σ H x v vl vu lo hi sl Q I rx hs pl pu h
  obtain ⟨a, xs, rfl, hx, q⟩ := h
  by_cases hw : HT.sIx xs.length 0 lo = 0 ∧ HT.sIx xs.length xs.length hi = xs.length
  · cases rx
    obtain ⟨its, r, ht, hz⟩ := I.tuple (SqT.of hx)
    have hlen : its.toArray.size = xs.length := by rw [List.size_toArray]; exact r.length.symm
    refine ⟨"tuple", _, PyProof.Rows.slot_tuple_getitem.lookup, ht.typeIs, ?_⟩
    exact getItem_tup_all ht hs pl pu (by rw [hlen]; exact hw) ⟨.ref a, H, I, rfl, q a H (Same.refl H) (by rw [cutV_whole hw]; exact hx)⟩
  · exact sl_tup pins s σ H (.ref a) v vl vu lo hi sl Q I rx hs pl pu ⟨a, xs, rfl, SqT.of hx, hw, fun p hp => q p _ (same_of_new hp _) upd_same⟩
/-- t + u, both tracked -/
def rCatTw : R2 := fun x y H Q => ∃ a b xs ys, x = .ref a ∧ y = .ref b ∧ H a = some (.tup xs) ∧ H b = some (.tup ys) ∧ xs.length + ys.length ≤ sizeLine ∧ ∀ p H', Same H H' → H' p = some (.tup (xs ++ ys)) → Q (.ref p) H'
theorem op_catTw {X : Cx} : OpR X (binaryOp .Add) rCatTw := by
  intro pins s σ H x y v u Q I rx ry h
  obtain ⟨a, b, xs, ys, rfl, rfl, ha, hb, hz, q⟩ := h
  by_cases hx : xs = []
  · cases rx
    cases ry
    subst hx
    obtain ⟨its, r1, p1, _⟩ := I.tuple (SqT.of ha)
    obtain ⟨its2, r2, p2, _⟩ := I.tuple (SqT.of hb)
    obtain ⟨⟨cls, dd, data, sl⟩, ho, hc, n, hd⟩ := id p1
    obtain ⟨⟨cls2, dd2, data2, sl2⟩, ho2, hc2, n2, hd2⟩ := id p2
    simp only at hc hd hc2 hd2
    subst hc hd hc2 hd2
    obtain rfl := r1.zero
    exact concat_meets ⟨_, ho, rfl⟩ ⟨_, ho2, rfl⟩ noFill_tuple_add seq_tuple_add PySem.F.slot_tuple_add PySem.F.entry_tuple_add (PySem.F.args_tuple_add_2 _ _)
      (tuple_addW0 a b #[] its2.toArray n n2 dd dd2 sl sl2 rfl) ⟨ho, ho2, ⟨.ref b, H, I.tok _, rfl, q b H (Same.refl H) hb⟩⟩
  · exact op_catT pins s σ H (.ref a) (.ref b) v u Q I rx ry ⟨a, b, xs, ys, rfl, rfl, SqT.of ha, SqT.of hb, hx, hz, fun e => q a H (Same.refl H) (by rw [e, List.append_nil]; exact ha), fun _ p hp => q p _ (same_of_new hp _) upd_same⟩
end L2

set_option Elab.async false
set_option linter.all false
set_option maxRecDepth 100000
set_option maxHeartbeats 4000000
namespace L2
open PySem PySem.Spec PyProof.Rows

/-! ### t[::-1] -/
/-! ### {} -/
end L2

set_option Elab.async false
set_option linter.all false
set_option maxRecDepth 100000
set_option maxHeartbeats 4000000
namespace L2
open PySem PySem.Spec PyProof.Rows

/-! ### a table of the module: text keys, its things tuples of texts -/
/-- the dict at a: for each text what the table says -/
structure TabK (w : World) (K : PySem.W.Frag) (a : Addr) (tab : Str → Option (List Str)) : Prop where
  ex : ∃ (es : Array DictEntry) (n : Nat), K.lookup a = some ⟨.type "dict", none, .dict es n, #[]⟩ ∧ PySem.W.KeysLit w.params es.toList ∧
    ∀ x, match tab x with
      | some ks => ∃ b, findBy Value.isStrOf es x = some (.ref b) ∧ ∃ (o : Obj) (its : Array Value) (m : Nat), K.lookup b = some o ∧ o.cls = .type "tuple" ∧ o.data = .seq its m ∧ its.size ≤ sizeLine ∧ Vals (ks.map V.str) its.toList
      | none => findBy Value.isStrOf es x = none
  lo : (a == sysModules) = false

def tTab (K : PySem.W.Frag) (tab : Str → Option (List Str)) (te : TE) : TE := fun σ H Q => te σ H fun y H1 => ∃ x, y = .str x ∧ (match tab x with
  | some ks => ∀ b, SqT K H1 b (ks.map V.str) → Q (.ref b) H1
  | none => Q .non H1)
/-- TABLE.get(x) -/
theorem pe_tabget {X : Cx} {n : Str} {e : Expr} {a : Addr} {tab : Str → Option (List Str)} {te : TE} {p apos cpos : Pos} (T : TabK X.w X.K a tab) (hg : Gl X n) (hm : X.mg n = some (.ref a)) (he : PE X e te) (hd : (n == ("__debug__" : Str)) = false := by decide)
    (hbase : attributeBase (.Name n p) "get" X.env (eval (.Name n p) X.env) = eval (.Name n p) X.env := by rfl)
    (hfew : ((backTo cpos (starEach [e] X.env)).all (fun x => !x.1) && (backToKw cpos (keywordEach [] X.env)).all (fun x => x.1.isSome)
      && decide ([e].length + ([] : List Keyword).length + (if ([] : List Keyword).isEmpty then 0 else 1) < 30)) = true := by rfl)
    (hline : (apos.endLine == cpos.line) = true := by rfl) (hs : starEach [e] X.env = [(false, eval e X.env)] := by rfl) :
    PE X (.Call (.Attribute (.Name n p) "get" apos) [e] [] cpos) (tTab X.K tab te) := by
  intro pins s σ H Q I h
  obtain ⟨es, k, lk, keys, look⟩ := T.ex
  have hm0 := PySem.W.mapOf_K (prog := X.prog) (w := X.w) I.kIn lk keys
  refine wpAny_Call_method_late hbase hfew hline rfl (ld_glob I hg hm ?_ hd)
  refine ⟨"dict", "dict.get", PySem.F.plainAttrs_dict, PySem.F.slot_dict_get, PySem.F.type_dict_get, hm0.typeIs, hm0.noDict, ?_⟩
  have hPA : PA X [e] (tCons te tNil) := pa_cons he pa_nil (by rw [hs]; rfl)
  have hA := hPA cpos pins s σ H (fun vs H1 => match vs with
    | [y] => ∃ x, y = .str x ∧ (match tab x with
      | some ks => ∀ b, SqT X.K H1 b (ks.map V.str) → Q (.ref b) H1
      | none => Q .non H1)
    | _ => False) I h
  rw [hs] at hA ⊢
  refine Calls.callWith_builtin (by rfl) (Calls.evalArgs_plain ?_)
  refine thn hA fun us s2 ⟨vs, H2, I2, r2, q2⟩ => ?_
  have hm2 := PySem.W.mapOf_K (prog := X.prog) (w := X.w) I2.kIn lk keys
  match vs, r2, q2 with
  | [y], r2, ⟨x, ey, q⟩ =>
    subst ey
    obtain ⟨u, rfl, t, rfl⟩ := r2.one
    refine call_meetsIn PySem.F.slot_dict_get hm2.typeIs PySem.F.entry_dict_get (PySem.F.args_dict_get_2 _ _) (meets_dict_get (strKind X.prog X.w) a (strKind_is X.prog X.w x t) T.lo) ⟨_, hm2, ?_⟩
    have lx := look x
    cases ht : tab x with
    | some ks =>
      rw [ht] at lx q
      obtain ⟨b, fb, o, its, m, l1, l2, l3, l4, l5⟩ := lx
      rw [fb]
      exact ⟨.ref b, H2, I2.tok _, rfl, q b (.inr ⟨o, its, m, l1, l2, l3, l4, l5⟩)⟩
    | none =>
      rw [ht] at lx q
      rw [lx]
      exact ⟨.non, H2, I2.tok _, rfl, q⟩
end L2

set_option Elab.async false
set_option linter.all false
set_option maxRecDepth 100000
set_option maxHeartbeats 4000000
/-! Defs of a text in short: where they stand, what they promise; heaps that grow beside one list. -/
namespace L2
open PySem PySem.Spec PyProof.Rows

/-! ### a def of the text: as it stands, as it promises -/
structure Src (K : PySem.W.Frag) (mg : Str → Option Value) (x : Str) (st : Stmt) (ps : List Str) : Prop where
  ex : ∃ (f : Addr) (fd : FuncData), Fun K x x st f fd ∧ mg x = some (.ref f) ∧ Binds K fd ps []
structure Def (P : Program) (w : World) (K : PySem.W.Frag) (mg : Str → Option Value) (base : Heap) (k : Nat) (x : Str) (ps : List Str) (sp : Sp) : Prop where
  ex : ∃ (f : Addr) (fd : FuncData), FnOk P w K mg base CX0 k f fd ps sp ∧ mg x = some (.ref f) ∧ PySem.W.keepIn K (.ref f) = true ∧ Binds K fd ps []
section
variable {P : Program} {w : World} {K : PySem.W.Frag} {mg : Str → Option Value} {base : Heap} {x : Str} {st : Stmt} {ps N : List Str} {k j : Nat} {sp sp' : Sp}
theorem Src.ok (S : Src K mg x st ps) (F : FnScope N ps (defScope st)) (len : ∀ vs H Q E, sp vs H Q E → vs.length = ps.length)
    (hbody : ∀ (f : Addr) (cdv : Value) (A : Around) (outer : List Env) (s : Shared) (H : Hp) (vs : List V) (Q : VK) (E : XK), Room k (A.deeper (envOfC x (defScope st) s.heap.objs.size f cdv)) → sp vs H Q E →
      ∃ t, PSs (cxOf CX0 P w K mg base N x (defScope st) f cdv A outer s H E).nox (defBody st) t ∧ t { nx := fun _ H' => Q .non H', rt := Q } (start N vs) H) : Def P w K mg base (k + 1) x ps sp := by
  obtain ⟨f, fd, F0, hm, hb⟩ := S.ex
  exact ⟨f, fd, F0.ok F len (hbody f), hm, F0.kp, hb⟩
theorem Def.mono (D : Def P w K mg base j x ps sp) (h : j ≤ k) : Def P w K mg base k x ps sp := by
  obtain ⟨f, fd, F, r⟩ := D.ex
  exact ⟨f, fd, F.mono h, r⟩
theorem Def.imp (D : Def P w K mg base k x ps sp) (h : ∀ vs H Q E, sp' vs H Q E → sp vs H Q E) : Def P w K mg base k x ps sp' := by
  obtain ⟨f, fd, F, r⟩ := D.ex
  exact ⟨f, fd, F.imp h, r⟩
/-- a promise that nobody can ask for -/
theorem Src.no (S : Src K mg x st ps) (h : ∀ vs H Q E, ¬ sp vs H Q E) : Def P w K mg base k x ps sp := by
  obtain ⟨f, fd, F0, hm, hb⟩ := S.ex
  exact ⟨f, fd, ⟨fun vs H Q E q => absurd q (h vs H Q E), fun A outer s H args us vs Q E _ _ _ _ q => absurd q (h vs H Q E)⟩, hm, F0.kp, hb⟩
end
/-! ### arguments without a star, seen at a glance -/
def plainE : Expr → Bool
  | .Starred _ _ => false
  | _ => true
theorem star_cons {e : Expr} {es : List Expr} {env : Env} (h : plainE e = true) : starEach (e :: es) env = (false, eval e env) :: starEach es env := by
  cases e <;> first | rfl | cases h
theorem star_all {env : Env} {pos : Pos} : ∀ {es : List Expr}, es.all plainE = true → (backTo pos (starEach es env)).any (·.1) = false
  | [], _ => rfl
  | e :: es, h => by
    rw [List.all_cons, Bool.and_eq_true] at h
    rw [star_cons h.1]
    have ih := star_all (env := env) (pos := pos) h.2
    show (false || (backTo pos (starEach es env)).any (·.1)) = false
    rw [ih]; rfl
theorem pac {X : Cx} {e : Expr} {es : List Expr} {te : TE} {t : TA} (ha : PE X e te) (hr : PA X es t) (h : plainE e = true := by rfl) : PA X (e :: es) (tCons te t) := pa_cons ha hr (star_cons h)
/-- written constants -/
def constV : Expr → Option V
  | .Constant (.str x) _ _ => some (.str x)
  | .Constant (.int i) _ _ => some (.int i)
  | .Constant (.bool b) _ _ => some (.bl b)
  | .Constant .none _ _ => some .non
  | _ => none
theorem pe_const {X : Cx} {e : Expr} {v : V} (h : constV e = some v) : PE X e (tC v) ∧ plainE e = true := by
  unfold constV at h
  split at h
  · cases h; exact ⟨pe_str, rfl⟩
  · cases h; exact ⟨pe_int, rfl⟩
  · cases h; exact ⟨pe_bl, rfl⟩
  · cases h; exact ⟨pe_non, rfl⟩
  · cases h
theorem pa_const {X : Cx} : ∀ {es : List Expr} (vs : List V), es.map constV = vs.map some → PA X es (fun _ H Q => Q vs H)
  | [], [], _ => pa_nil
  | [], _ :: _, h => by cases h
  | _ :: _, [], h => by cases h
  | e :: es, v :: vs, h => by
    rw [List.map_cons, List.map_cons] at h
    injection h with h1 h2
    obtain ⟨a, b⟩ := pe_const (X := X) h1
    exact pac a (pa_const vs h2) b
/-- a cut: what holds between two statements -/
def tCut (t u : TS) : TS := fun D σ H => ∃ M : St → Hp → Prop, t { D with nx := M } σ H ∧ ∀ σ' H', M σ' H' → u D σ' H'
theorem pss_cut {X : Cx} {st : Stmt} {rest : List Stmt} {t u : TS} (h1 : PS X st t) (h2 : PSs X rest u) : PSs X (st :: rest) (tCut t u) := by
  intro pins s σ H D I h
  obtain ⟨M, a, b⟩ := h
  refine wpAny_execs_cons (thn (h1 pins s σ H { D with nx := M } I a) fun f s1 q => ?_)
  cases f with
  | next =>
    obtain ⟨σ', H', I', q⟩ := q
    exact h2 pins s1 σ' H' D I' (b σ' H' q)
  | ret v => exact q
  | brk => exact q
  | cont => exact q
def tCutT (t : TT) : TT := fun σ H Q => ∃ M : Bool → Hp → Prop, t σ H M ∧ ∀ v H', M v H' → Q v H'
theorem pt_cut {X : Cx} {e : Expr} {t : TT} (h : PT X e t) : PT X e (tCutT t) := by
  intro pins s σ H Q I hq
  obtain ⟨M, a, b⟩ := hq
  exact thn (h pins s σ H M I a) fun u s1 ⟨H', I', q⟩ => ⟨H', I', b u H' q⟩

def tDef (sp : Sp) (t : TA) : TE := fun σ H Q => t σ H fun vs H1 => sp vs H1 Q E0
theorem pe_def {X : Cx} {k : Nat} {x : Str} {ps : List Str} {sp : Sp} {p pos : Pos} {e : Expr} {es : List Expr} {t : TA} (D : Def X.prog X.w X.K X.mg X.base k x ps sp) (hr : Room k X.A) (hg : Gl X x) (ha : PA X (e :: es) t)
    (hdb : (x == ("__debug__" : Str)) = false := by decide) (hpl : (e :: es).all plainE = true := by rfl) :
    PE X (.Call (.Name x p) (e :: es) [] pos) (tDef sp t) := by
  obtain ⟨f, fd, F, hm, hk, hb⟩ := D.ex
  intro pins s σ H Q I h
  have q := pe_call (p := p) (pos := pos) F hr hg hm hk hb .nil (pass0 (X := X)) ha hdb (star_cons (by rw [List.all_cons, Bool.and_eq_true] at hpl; exact hpl.1)) (star_all (by rw [List.all_cons, Bool.and_eq_true] at hpl; exact hpl.2)) pins s σ H Q I
  refine q ?_
  have e2 : tCall sp [] E0 t = tDef sp t := by
    funext σ H Q
    unfold tCall tDef
    simp only [List.append_nil]
  rw [e2]
  exact h

theorem pe_cB {X : Cx} {x : Str} {p pos : Pos} {e : Expr} {es : List Expr} {t : TA} {id : String} {r : List V → Hp → VK → Prop} (hc : CallR X (.builtin id) r) (hg : Gl X x) (hm : X.mg x = none) (hv : bootBuiltins x = some (.builtin id)) (ha : PA X (e :: es) t)
    (hn : x ≠ "__name__" := by decide) (hdb : (x == ("__debug__" : Str)) = false := by decide) (hpl : (e :: es).all plainE = true := by rfl) : PE X (.Call (.Name x p) (e :: es) [] pos) (tCB r t) :=
  pe_callB hc hg hm hv ha hn hdb (star_cons (by rw [List.all_cons, Bool.and_eq_true] at hpl; exact hpl.1)) (star_all (by rw [List.all_cons, Bool.and_eq_true] at hpl; exact hpl.2))
theorem pe_cT {X : Cx} {x : Str} {p pos : Pos} {e : Expr} {es : List Expr} {t : TA} {id : String} {r : List V → Hp → VK → Prop} (hc : CallR X (.type id) r) (hg : Gl X x) (hm : X.mg x = none) (hv : bootBuiltins x = some (.type id)) (ha : PA X (e :: es) t)
    (hn : x ≠ "__name__" := by decide) (hdb : (x == ("__debug__" : Str)) = false := by decide) (hpl : (e :: es).all plainE = true := by rfl) : PE X (.Call (.Name x p) (e :: es) [] pos) (tCB r t) :=
  pe_callTy hc hg hm hv ha hn hdb (star_cons (by rw [List.all_cons, Bool.and_eq_true] at hpl; exact hpl.1)) (star_all (by rw [List.all_cons, Bool.and_eq_true] at hpl; exact hpl.2))

/-! ### comprehensions in short -/
/-- k own names, then the captured ones, by their slots around -/
def captS (k : Nat) (js : List Nat) (σ : St) : St := List.replicate k none ++ js.map fun j => (σ[j]?).join
theorem capt {X : Cx} {N' : List Str} {scope : Scope} (k : Nat) (js : List Nat) (hl : k + js.length = N'.length) (hn : js.map (fun j => X.N[j]?) = (N'.drop k).map some) (hf : ∀ x ∈ N'.drop k, (x, NameKind.free) ∈ scope.names) :
    ∀ σ : St, σ.length = X.N.length → Caught X N' scope σ (captS k js σ) := by
  intro σ _
  refine ⟨by unfold captS; rw [List.length_append, List.length_replicate, List.length_map]; exact hl, fun i x v h1 h2 => ?_⟩
  unfold captS at h2
  by_cases hi : i < k
  · rw [List.getElem?_append_left (by simpa using hi), List.getElem?_replicate, if_pos hi] at h2
    cases h2
  · rw [List.getElem?_append_right (by simpa using hi), List.length_replicate, List.getElem?_map] at h2
    cases hj : js[i - k]? with
    | none => rw [hj] at h2; cases h2
    | some j =>
      rw [hj] at h2
      have h3 : (σ[j]?).join = some v := by simpa using h2
      have e1 : (N'.drop k)[i - k]? = some x := by rw [List.getElem?_drop]; rw [show k + (i - k) = i by omega]; exact h1
      have e2 := congrArg (fun l => l[i - k]?) hn
      simp only [List.getElem?_map, hj, e1, Option.map_some] at e2
      refine ⟨hf x (List.mem_of_getElem? e1), j, Option.some.inj e2, ?_⟩
      cases hs : σ[j]? with
      | none => rw [hs] at h3; cases h3
      | some o =>
        rw [hs] at h3
        have : o = some v := h3
        rw [this]
theorem comp_scope {X : Cx} {N' : List Str} {scope : Scope} (sc : Scope) (hsc : X.env.scope = sc) (a : scope.kind = .function) (b : N'.Nodup) (c : ∀ y ∈ scope.names, y.2 ≠ .cell) (d : ∀ y ∈ scope.names, y.2 = .local → scope.names.lookup y.1 = some .local)
    (e : ∀ y ∈ scope.names, y.2 = .free → sc.names.lookup y.1 = some .cell)
    (f : ∀ y ∈ scope.names, y.2 = .free → (scope.names.map fun (n, k) => if (k == .free && sc.kind == .function && sc.names.lookup n == some .cell) then (n, NameKind.cell) else (n, k)).lookup y.1 ≠ some .local) : CompScope X N' scope := by
  subst hsc
  exact ⟨a, b, c, d, e, fun x hx => f (x, .free) hx rfl⟩

/-! ### the built-in names -/
theorem bt_len : bootBuiltins "len" = some (.builtin "len") := PySem.boot_len
theorem bt_isinstance : bootBuiltins "isinstance" = some (.builtin "isinstance") := by decide +kernel
theorem bt_all : bootBuiltins "all" = some (.builtin "all") := by decide +kernel
theorem bt_list : bootBuiltins "list" = some (.type "list") := by decide +kernel
theorem bt_tuple : bootBuiltins "tuple" = some (.type "tuple") := by decide +kernel
theorem bt_str : bootBuiltins "str" = some (.type "str") := by decide +kernel
theorem bt_int : bootBuiltins "int" = some (.type "int") := by decide +kernel
theorem bt_bool : bootBuiltins "bool" = some (.type "bool") := by decide +kernel
theorem pe_ty {X : Cx} {x : Str} {n : String} {pos : Pos} (hm : X.mg x = none) (hv : bootBuiltins x = some (.type n)) (hg : Gl X x) (hn : x ≠ "__name__" := by decide) (hd : (x == ("__debug__" : Str)) = false := by decide) : PE X (.Name x pos) (tC (.ty n)) :=
  pe_bltn hg hm hv rfl hn hd

/-! ### a place of a list -/
theorem at_in {α : Type} {xs : List α} {k : Int} (h0 : 0 ≤ k) (h1 : k < (xs.length : Int)) : ∃ v, atI xs k = some v ∧ xs[k.toNat]? = some v := by
  have hk : k.toNat < xs.length := by omega
  have z : k = ((k.toNat : Nat) : Int) := by omega
  refine ⟨xs[k.toNat], ?_, List.getElem?_eq_getElem hk⟩
  have q := atI_nat (xs := xs) (j := k.toNat) (v := xs[k.toNat]) (List.getElem?_eq_getElem hk)
  rw [← z] at q
  exact q
theorem at_mem {α : Type} {xs : List α} {k : Int} (h0 : 0 ≤ k) (h1 : k < (xs.length : Int)) : ∃ v, atI xs k = some v ∧ v ∈ xs := by
  obtain ⟨v, a, b⟩ := at_in h0 h1
  exact ⟨v, a, List.mem_of_getElem? b⟩
/-! ### heaps: all is kept but the list at p -/
def But (p : Addr) (H H' : Hp) : Prop := ∀ b o, b ≠ p → H b = some o → H' b = some o
/-- the list at p holds one number of the generator's -/
def Gen (p : Addr) (H : Hp) : Prop := ∃ n : Int, H p = some (.lst [.int n]) ∧ 0 ≤ n ∧ n < 2147483629
structure Ext (p : Addr) (H H' : Hp) : Prop where
  but : But p H H'
  gen : Gen p H'
theorem Ext.refl {p : Addr} {H : Hp} (g : Gen p H) : Ext p H H := ⟨fun _ _ _ h => h, g⟩
theorem Ext.trans {p : Addr} {H H1 H2 : Hp} (a : Ext p H H1) (b : Ext p H1 H2) : Ext p H H2 := ⟨fun c o hc h => b.but c o hc (a.but c o hc h), b.gen⟩
theorem Gen.same {p : Addr} {H H' : Hp} (g : Gen p H) (s : Same H H') : Gen p H' := let ⟨n, h, r⟩ := g; ⟨n, s _ _ h, r⟩
theorem Same.ext {p : Addr} {H H' : Hp} (g : Gen p H) (s : Same H H') : Ext p H H' := ⟨fun b o _ h => s b o h, g.same s⟩
theorem Ext.new {p q : Addr} {H : Hp} (g : Gen p H) (h : H q = none) (o : HO) : Ext p H (upd H q o) := Same.ext g (same_of_new h o)
theorem Gen.ne {p q : Addr} {H : Hp} (g : Gen p H) (h : H q = none) : q ≠ p := fun e => by
  obtain ⟨n, hp, _⟩ := g
  rw [← e, h] at hp; cases hp
theorem Ext.free {p q : Addr} {H H' : Hp} (e : Ext p H H') (h : H' q = none) : H q = none := by
  have hne := e.gen.ne h
  cases hq : H q with
  | none => rfl
  | some o => rw [e.but q o hne hq] at h; cases h
/-- a list of names is no generator's -/
theorem Gen.neS {p a : Addr} {H : Hp} {xs : List V} (g : Gen p H) (h : H a = some (.lst xs)) (hx : ∀ n : Int, xs ≠ [.int n]) : a ≠ p := by
  obtain ⟨n, hp, _⟩ := g
  exact ne_of h hp (by intro z; exact hx n (by injection z))
theorem strs_ne {ns : List Str} (n : Int) : ns.map V.str ≠ [.int n] := by
  cases ns with
  | nil => intro z; cases z
  | cons x r => intro z; simp at z
theorem Ext.lst {p a : Addr} {H H' : Hp} {ns : List Str} (g : Gen p H) (e : Ext p H H') (h : H a = some (.lst (ns.map V.str))) : H' a = some (.lst (ns.map V.str)) := e.but a _ (g.neS h strs_ne) h
theorem Ext.tup {p a : Addr} {H H' : Hp} {xs : List V} (g : Gen p H) (e : Ext p H H') (h : H a = some (.tup xs)) : H' a = some (.tup xs) := by
  obtain ⟨n, hp, _⟩ := g
  exact e.but a _ (ne_of h hp (by intro z; cases z)) h
end L2

set_option Elab.async false
set_option linter.all false
set_option maxRecDepth 100000
set_option maxHeartbeats 4000000
namespace K05
open PySem L2
seal L2.PE L2.PS L2.PSs L2.PT L2.PW L2.PA L2.PG L2.PGs L2.PI L2.PO L2.PIfs L2.PC L2.OpR L2.CallR L2.IxR L2.SlR L2.PSet L2.UnR

def top (i : Nat) : Stmt := PySem.Challenge.pw_retrace_k05_whole_bounds.main.body.getD i (.Pass ⟨0, 0, 0, 0⟩)

/-- what the forms' table says -/
def forms (x : Str) : Option (List Str) :=
  if x = "number" then some ["number"] else if x = "box" then some ["box"] else if x = "plus" then some ["value", "value"] else if x = "minus" then some ["value", "value"] else if x = "times" then some ["value", "value"]
  else if x = "over" then some ["value", "value"] else if x = "rest" then some ["value", "value"] else if x = "less" then some ["value", "value"] else if x = "same" then some ["value", "value"] else if x = "not" then some ["value"]
  else if x = "item" then some ["list", "value"] else if x = "size" then some ["list"] else none

/-- what the rows' table says -/
def rforms (x : Str) : Option (List Str) :=
  if x = "set" then some ["box", "value"] else
  if x = "push" then some ["list", "value"] else
  if x = "pop" then some ["box", "list"] else
  if x = "put" then some ["list", "value", "value"] else
  if x = "ask" then some ["box", "door"] else
  if x = "tell" then some ["value"] else
  if x = "if" then some ["value", "rows", "rows"] else
  if x = "while" then some ["value", "rows"] else
  if x = "try" then some ["rows", "box", "rows"] else
  if x = "fail" then some ["value"] else
  if x = "call" then some ["box", "function", "values"] else
  if x = "return" then some ["value"] else none
/-- the text's own names -/
structure Txt (w : World) (K : PySem.W.Frag) (mg : Str → Option Value) : Prop where
  z_len : mg "len" = none
  z_isinstance : mg "isinstance" = none
  z_all : mg "all" = none
  z_zip : mg "zip" = none
  z_range : mg "range" = none
  z_list : mg "list" = none
  z_tuple : mg "tuple" = none
  z_str : mg "str" = none
  z_int : mg "int" = none
  z_bool : mg "bool" = none
  z_set : mg "set" = none
  z_dict : mg "dict" = none
  z_ValueError : mg "ValueError" = none
  most : ∃ t, mg "MOST_LETTERS" = some (.int 6 t)
  great : ∃ t, mg "GREATEST" = some (.int 999999 t)
  deep : ∃ t, mg "DEEPEST" = some (.int 4 t)
  around : ∃ t, mg "NO_ROW" = some (.int (-1) t)
  cboxes : ∃ t, mg "MOST_BOXES" = some (.int 6 t)
  clists : ∃ t, mg "MOST_LISTS" = some (.int 3 t)
  cthings : ∃ t, mg "MOST_THINGS" = some (.int 12 t)
  cfuns : ∃ t, mg "MOST_FUNCTIONS" = some (.int 4 t)
  cnames : ∃ t, mg "MOST_NAMES" = some (.int 3 t)
  cdeep : ∃ t, mg "DEEPEST_ROW" = some (.int 5 t)
  cnums : ∃ t, mg "MOST_NUMBERS" = some (.int 60 t)
  tab : ∃ a, mg "VALUE_FORMS" = some (.ref a) ∧ TabK w K a forms
  rtab : ∃ a, mg "ROW_FORMS" = some (.ref a) ∧ TabK w K a rforms

section
variable {P : Program} {w : World} {K : PySem.W.Frag} {mg : Str → Option Value} {base : Heap} (T : Txt w K mg)

/-! ### _law_next -/
theorem sc_next : FnScope ["_law_state_here", "_law_size", "_law_mixed"] ["_law_state_here", "_law_size"] (defScope (top 59)) := ⟨rfl, rfl, rfl, by decide +kernel, rfl, by decide +kernel, by decide +kernel⟩
def spNext : Sp := fun vs H Q _ => ∃ (p : Addr) (k : Int), vs = [.ref p, .int k] ∧ Gen p H ∧ 0 < k ∧ ∀ (r : Int) (H' : Hp), 0 ≤ r → r < k → Ext p H H' → Q (.int r) H'
theorem d_next (S : Src K mg "_law_next" (top 59) ["_law_state_here", "_law_size"]) : Def P w K mg base 1 "_law_next" ["_law_state_here", "_law_size"] spNext := by
  refine S.ok sc_next (fun vs H Q E h => ?_) (fun f cdv A outer s H vs Q E hr h => ?_)
  · obtain ⟨p, k, rfl, _⟩ := h; rfl
  obtain ⟨p, k, rfl, ⟨n, hp, h0, h1⟩, hk, q⟩ := h
  refine ⟨_, (pss_cons (ps_asg (pe_op op_mod (pe_op op_add (pe_op op_mul (pe_ix ix_list (pv 0) pe_int (fun _ _ => rfl)) pe_int) pe_int) pe_int) (pg_sub (pv 0) pe_int set_list)) (pss_cons (ps_set (i := 2) sc_next.nd rfl (Or.inl rfl) (pe_op op_mod (pe_op op_mul (pe_ix ix_list (pv 0) pe_int (fun _ _ => rfl)) (pe_ix ix_list (pv 0) pe_int (fun _ _ => rfl))) pe_int)) (pss_one (ps_ret (pe_op op_mod (pe_op op_fdiv (pv 2) pe_int) (pv 1)))))), ?_⟩
  have at0 : ∀ m : Int, atI [V.int m] 0 = some (.int m) := fun m => rfl
  refine ⟨_, rfl, p, _, 0, _, rfl, rfl, SqL.of hp, at0 n, n, 69621, rfl, rfl, .inr ⟨by decide, by decide⟩, _, _, rfl, rfl, _, _, rfl, rfl, (by show (0 : Int) < 2147483629; decide), ?_⟩
  refine ⟨_, rfl, p, _, 0, 0, rfl, rfl, hp, rfl, ?_⟩
  have hm := Int.emod_nonneg (n * 69621 + 11) (show (2147483629 : Int) ≠ 0 by decide)
  have hm2 := Int.emod_lt_of_pos (n * 69621 + 11) (show (0 : Int) < 2147483629 by decide)
  generalize hmm : (n * 69621 + 11) % 2147483629 = m at hm hm2
  refine ⟨_, rfl, p, _, 0, _, rfl, rfl, SqL.of upd_same, at0 _, ?_⟩
  refine ⟨_, rfl, p, _, 0, _, rfl, rfl, SqL.of upd_same, at0 _, m, m, by rw [← hmm], by rw [← hmm], .inl ⟨by omega, by omega⟩, _, _, rfl, rfl, (by show (0 : Int) < 2147483587; decide), ?_⟩
  have g : Ext p H (upd H p (.lst [.int m])) := ⟨fun b o hb h => by rw [upd_ne hb]; exact h, ⟨m, upd_same, hm, hm2⟩⟩
  refine ⟨_, rfl, _, 7, rfl, rfl, ⟨by decide, by decide⟩, _, rfl, _, _, rfl, rfl, hk, ?_⟩
  refine q _ _ (Int.emod_nonneg _ (by omega)) (Int.emod_lt_of_pos _ hk) ?_
  subst hmm
  exact g

/-! ### _law_cell_at, _law_state -/
theorem sc_cell_at : FnScope ["_law_script", "_law_k"] ["_law_script", "_law_k"] (defScope (top 57)) := ⟨rfl, rfl, rfl, by decide +kernel, rfl, by decide +kernel, by decide +kernel⟩
def spCell (K : PySem.W.Frag) : Sp := fun vs H Q _ => ∃ (a : Addr) (ns : List Int) (k : Int), vs = [.ref a, .int k] ∧ SqL K H a (ns.map V.int) ∧ 0 ≤ k ∧ ∀ i : Int, Q (.int i) H
theorem d_cell_at (T : Txt w K mg) (S : Src K mg "_law_cell_at" (top 57) ["_law_script", "_law_k"]) : Def P w K mg base 1 "_law_cell_at" ["_law_script", "_law_k"] (spCell K) := by
  refine S.ok sc_cell_at (fun vs H Q E h => ?_) (fun f cdv A outer s H vs Q E hr h => ?_)
  · obtain ⟨a, ns, k, rfl, _⟩ := h; rfl
  obtain ⟨a, ns, k, rfl, hS, hk, q⟩ := h
  refine ⟨_, (pss_cons (ps_if (pt_cmpR op_lt (pv 1) (pe_callB call_len_seq rfl T.z_len bt_len (pa_cons (pv 0) pa_nil)) (nomark _)) (pss_one (ps_ret (pe_ix ix_list (pv 0) (pv 1) (fun _ _ => rfl)))) pss_nil) (pss_one (ps_ret pe_int))), ?_⟩
  refine ⟨_, rfl, _, rfl, a, _, rfl, .inl hS, _, _, rfl, rfl, _, rfl, ?_⟩
  refine ite2 (fun c => ?_) (fun c => ?_)
  · have c' : k < (((ns.map V.int).length : Nat) : Int) := of_decide_eq_true c
    rw [List.length_map] at c'
    obtain ⟨v, e, hv⟩ := at_mem (xs := ns.map V.int) hk (by rw [List.length_map]; exact c')
    obtain ⟨i, _, rfl⟩ := List.mem_map.mp hv
    exact ⟨_, rfl, _, rfl, a, _, _, _, rfl, rfl, hS, e, q _⟩
  · exact q 0
theorem sc_state : FnScope ["_law_cell", "_law_k", "_law_drawn"] ["_law_cell", "_law_k"] (defScope (top 58)) := ⟨rfl, rfl, rfl, by decide +kernel, rfl, by decide +kernel, by decide +kernel⟩
def spState : Sp := fun vs H Q _ => ∃ (c k : Int), vs = [.int c, .int k] ∧ 0 ≤ k ∧ k < 100 ∧ ∀ (p : Addr) (n : Int), H p = none → 0 ≤ n → n < 2147483629 → Q (.ref p) (upd H p (.lst [.int n]))
theorem d_state (S : Src K mg "_law_state" (top 58) ["_law_cell", "_law_k"]) : Def P w K mg base 1 "_law_state" ["_law_cell", "_law_k"] spState := by
  refine S.ok sc_state (fun vs H Q E h => ?_) (fun f cdv A outer s H vs Q E hr h => ?_)
  · obtain ⟨c, k, rfl, _⟩ := h; rfl
  obtain ⟨c, k, rfl, h0, h1, q⟩ := h
  refine ⟨_, (pss_cons (ps_set (i := 2) sc_state.nd rfl (Or.inl rfl) (pe_op op_mod (pe_op op_mul (pe_op op_add (pe_op op_add (pv 0) (pe_op op_mul pe_int (pv 1))) pe_int) pe_int) pe_int)) (pss_one (ps_ret (pe_lst (pa_cons (pe_op op_mod (pe_op op_add (pe_op op_add (pe_op op_mul (pv 2) (pv 2)) (pe_op op_mul pe_int (pv 2))) (pv 1)) pe_int) pa_nil))))), ?_⟩
  refine ⟨_, rfl, _, rfl, 7919, k, rfl, rfl, .inl ⟨by decide, by decide⟩, _, _, rfl, rfl, _, _, rfl, rfl, _, 48271, rfl, rfl, .inr ⟨by decide, by decide⟩, _, _, rfl, rfl, (by show (0 : Int) < 2147483647; decide), ?_⟩
  have hm := Int.emod_nonneg ((c + 7919 * k + 1) * 48271) (show (2147483647 : Int) ≠ 0 by decide)
  have hm2 := Int.emod_lt_of_pos ((c + 7919 * k + 1) * 48271) (show (0 : Int) < 2147483647 by decide)
  generalize hmm : ((c + 7919 * k + 1) * 48271) % 2147483647 = m at hm hm2
  refine ⟨_, rfl, _, rfl, m, m, by rw [← hmm], by rw [← hmm], .inl ⟨by omega, by omega⟩, _, rfl, 7, m, rfl, by rw [← hmm], .inl ⟨by decide, by decide⟩, _, _, rfl, rfl, _, rfl, _, _, rfl, rfl, _, _, rfl, rfl, (by show (0 : Int) < 2147483629; decide), (by show 1 ≤ sizeLine; decide), fun p hp => ?_⟩
  exact q p _ hp (Int.emod_nonneg _ (by decide)) (Int.emod_lt_of_pos _ (by decide))
end
end K05

set_option Elab.async false
set_option linter.all false
set_option maxRecDepth 100000
set_option maxHeartbeats 4000000
/-! Texts of small letters: what the two sides ask of a name. -/
namespace L2
open PySem PySem.Spec PyProof.Rows

def small (c : Nat) : Bool := decide (97 ≤ c) && decide (c ≤ 122)
/-- all signs are small letters -/
def Lt (x : Str) : Prop := ∀ c ∈ x.cps.toList, small c = true
/-- a name: one to six small letters -/
def nmS (x : Str) : Bool := decide (1 ≤ x.length ∧ x.length ≤ 6) && x.cps.toList.all small
theorem Lt.one {c : Nat} (h : small c = true) : Lt ⟨#[c]⟩ := fun d hd => by
  have : d = c := by simpa using hd
  rw [this]; exact h
theorem cps_append (x y : Str) : (x ++ y).cps = x.cps ++ y.cps := rfl
theorem Lt.append {x y : Str} (a : Lt x) (b : Lt y) : Lt (x ++ y) := fun c hc => by
  rw [cps_append] at hc
  simp at hc
  rcases hc with h | h
  · exact a c (by simpa using h)
  · exact b c (by simpa using h)
abbrev abc : Str := "abcdefghijklmnopqrstuvwxyz"
theorem abc_len : abc.length = 26 := by decide +kernel
/-- 'a' <= sign <= 'z' -/
theorem le_a (c : Nat) : (!decide ((⟨#[c]⟩ : Str).cps.toList < ("a" : Str).cps.toList)) = decide (97 ≤ c) := by
  have e : ("a" : Str).cps.toList = [97] := by decide +kernel
  rw [e]
  by_cases h : 97 ≤ c
  · rw [decide_eq_true h, decide_eq_false]
    · rfl
    · intro z
      have z' : [c] < [97] := z
      simp [List.cons_lt_cons_iff] at z'
      omega
  · rw [decide_eq_false h, decide_eq_true]
    · rfl
    · show [c] < [97]
      simp [List.cons_lt_cons_iff]
      omega
theorem le_z (c : Nat) : (!decide (("z" : Str).cps.toList < (⟨#[c]⟩ : Str).cps.toList)) = decide (c ≤ 122) := by
  have e : ("z" : Str).cps.toList = [122] := by decide +kernel
  rw [e]
  by_cases h : c ≤ 122
  · rw [decide_eq_true h, decide_eq_false]
    · rfl
    · intro z
      have z' : [122] < [c] := z
      simp [List.cons_lt_cons_iff] at z'
      omega
  · rw [decide_eq_false h, decide_eq_true]
    · rfl
    · show [122] < [c]
      simp [List.cons_lt_cons_iff]
      omega
end L2

set_option Elab.async false
set_option linter.all false
set_option maxRecDepth 100000
set_option maxHeartbeats 4000000
namespace K05
open PySem L2
seal L2.PE L2.PS L2.PSs L2.PT L2.PW L2.PA L2.PG L2.PGs L2.PI L2.PO L2.PIfs L2.PC L2.OpR L2.CallR L2.IxR L2.SlR L2.PSet L2.UnR

theorem ifT {c : Bool} {A B : Prop} (h : c = true) (x : A) : if c = true then A else B := by rw [if_pos h]; exact x
theorem ifF {c : Bool} {A B : Prop} (h : c = false) (x : B) : if c = true then A else B := by rw [if_neg (by rw [h]; exact Bool.false_ne_true)]; exact x
/-! ### data -/
/-- a value as the law draws it, n deep at most: tuples, texts, numbers -/
def Pl (H : Hp) : Nat → V → Prop
  | 0, _ => False
  | n + 1, v => match v with
    | .int i => 0 ≤ i ∧ i < 1000000
    | .str x => x.length ≤ 10
    | .ref a => ∃ xs, H a = some (.tup xs) ∧ xs.length ≤ 50 ∧ ∀ x ∈ xs, Pl H n x
    | _ => False
/-- any thing that may be asked, n deep at most; its lists are not the one at p -/
def Dt (p : Addr) (H : Hp) : Nat → V → Prop
  | 0, _ => False
  | n + 1, v => match v with
    | .non => True
    | .bl _ => True
    | .int _ => True
    | .str x => x.length ≤ 9100
    | .ref a => (∃ xs, H a = some (.tup xs) ∧ xs.length ≤ 9100 ∧ ∀ x ∈ xs, Dt p H n x) ∨ (∃ xs, H a = some (.lst xs) ∧ a ≠ p ∧ xs.length ≤ 9100 ∧ ∀ x ∈ xs, Dt p H n x) ∨ H a = some (.dK [])
    | _ => False
theorem Pl.ext {p : Addr} {H H' : Hp} (g : Gen p H) (e : Ext p H H') : ∀ {n : Nat} {v : V}, Pl H n v → Pl H' n v
  | 0, _, h => h
  | n + 1, v, h => by
    cases v with
    | ref a =>
      obtain ⟨xs, h1, h2, h3⟩ := h
      exact ⟨xs, e.tup g h1, h2, fun x hx => Pl.ext g e (h3 x hx)⟩
    | _ => exact h
theorem Pl.succ {H : Hp} : ∀ {n : Nat} {v : V}, Pl H n v → Pl H (n + 1) v
  | 0, _, h => h.elim
  | n + 1, v, h => by
    cases v with
    | ref a =>
      obtain ⟨xs, h1, h2, h3⟩ := h
      exact ⟨xs, h1, h2, fun x hx => Pl.succ (h3 x hx)⟩
    | _ => exact h
theorem Pl.up {H : Hp} {n m : Nat} {v : V} (h : Pl H n v) (l : n ≤ m) : Pl H m v := by
  induction l with
  | refl => exact h
  | step _ ih => exact ih.succ
theorem Dt.ext {p : Addr} {H H' : Hp} (g : Gen p H) (e : Ext p H H') : ∀ {n : Nat} {v : V}, Dt p H n v → Dt p H' n v
  | 0, _, h => h
  | n + 1, v, h => by
    cases v with
    | ref a =>
      rcases h with ⟨xs, h1, h2, h3⟩ | ⟨xs, h1, h0, h2, h3⟩ | h
      · exact .inl ⟨xs, e.tup g h1, h2, fun x hx => Dt.ext g e (h3 x hx)⟩
      · exact .inr (.inl ⟨xs, e.but a _ h0 h1, h0, h2, fun x hx => Dt.ext g e (h3 x hx)⟩)
      · obtain ⟨k, hp, _⟩ := id g
        exact .inr (.inr (e.but a _ (ne_of h hp (by intro z; cases z)) h))
    | _ => exact h
theorem Dt.succ {p : Addr} {H : Hp} : ∀ {n : Nat} {v : V}, Dt p H n v → Dt p H (n + 1) v
  | 0, _, h => h.elim
  | n + 1, v, h => by
    cases v with
    | ref a =>
      rcases h with ⟨xs, h1, h2, h3⟩ | ⟨xs, h1, h0, h2, h3⟩ | h
      · exact .inl ⟨xs, h1, h2, fun x hx => Dt.succ (h3 x hx)⟩
      · exact .inr (.inl ⟨xs, h1, h0, h2, fun x hx => Dt.succ (h3 x hx)⟩)
      · exact .inr (.inr h)
    | _ => exact h
theorem Dt.up {p : Addr} {H : Hp} {n m : Nat} {v : V} (h : Dt p H n v) (l : n ≤ m) : Dt p H m v := by
  induction l with
  | refl => exact h
  | step _ ih => exact ih.succ
theorem Pl.dt {p : Addr} {H : Hp} : ∀ {n : Nat} {v : V}, Pl H n v → Dt p H n v
  | 0, _, h => h
  | n + 1, v, h => by
    cases v with
    | ref a =>
      obtain ⟨xs, h1, h2, h3⟩ := h
      exact .inl ⟨xs, h1, by omega, fun x hx => Pl.dt (h3 x hx)⟩
    | int i => exact trivial
    | str x =>
      have h' : x.length ≤ 10 := h
      show x.length ≤ 9100
      omega
    | non => exact h.elim
    | bl _ => exact h.elim
    | byt _ => exact h.elim
    | flt _ => exact h.elim
    | ty _ => exact h.elim
theorem Dt.move {p q : Addr} {H : Hp} (hq : H q = none) : ∀ {n : Nat} {v : V}, Dt p H n v → Dt q H n v
  | 0, _, h => h
  | n + 1, v, h => by
    cases v with
    | ref a =>
      rcases h with ⟨xs, h1, h2, h3⟩ | ⟨xs, h1, h0, h2, h3⟩ | h
      · exact .inl ⟨xs, h1, h2, fun x hx => Dt.move hq (h3 x hx)⟩
      · exact .inr (.inl ⟨xs, h1, ne_of_none h1 hq, h2, fun x hx => Dt.move hq (h3 x hx)⟩)
      · exact .inr (.inr h)
    | _ => exact h
/-- all that was tracked stays: so does every thing -/
theorem Dt.same {p : Addr} {H H' : Hp} (e : Same H H') : ∀ {n : Nat} {v : V}, Dt p H n v → Dt p H' n v
  | 0, _, h => h
  | n + 1, v, h => by
    cases v with
    | ref a =>
      rcases h with ⟨xs, h1, h2, h3⟩ | ⟨xs, h1, h0, h2, h3⟩ | h
      · exact .inl ⟨xs, e _ _ h1, h2, fun x hx => Dt.same e (h3 x hx)⟩
      · exact .inr (.inl ⟨xs, e _ _ h1, h0, h2, fun x hx => Dt.same e (h3 x hx)⟩)
      · exact .inr (.inr (e _ _ h))
    | _ => exact h

section
variable {P : Program} {w : World} {K : PySem.W.Frag} {mg : Str → Option Value} {base : Heap}
theorem Pl.pair {H : Hp} {n : Nat} {x y : V} {t : Addr} (ht : H t = some (.tup [x, y])) (hx : Pl H n x) (hy : Pl H n y) : Pl H (n + 1) (.ref t) :=
  ⟨_, ht, (by show 2 ≤ 50; decide), fun z hz => by
    simp at hz
    rcases hz with rfl | rfl
    · exact hx
    · exact hy⟩
theorem Pl.three {H : Hp} {n : Nat} {x y z : V} {t : Addr} (ht : H t = some (.tup [x, y, z])) (hx : Pl H n x) (hy : Pl H n y) (hz : Pl H n z) : Pl H (n + 1) (.ref t) :=
  ⟨_, ht, (by show 3 ≤ 50; decide), fun u hu => by
    simp at hu
    rcases hu with rfl | rfl | rfl
    · exact hx
    · exact hy
    · exact hz⟩
theorem Pl.text {H : Hp} {n : Nat} {x : Str} (h : x.length ≤ 10) : Pl H (n + 1) (.str x) := h
end
end K05

set_option Elab.async false
set_option linter.all false
set_option maxRecDepth 100000
set_option maxHeartbeats 4000000
namespace K05
open PySem L2
seal L2.PE L2.PS L2.PSs L2.PT L2.PW L2.PA L2.PG L2.PGs L2.PI L2.PO L2.PIfs L2.PC L2.OpR L2.CallR L2.IxR L2.SlR L2.PSet L2.UnR

/-! ### what both sides ask -/
def nmV : V → Bool
  | .str s => nmS s
  | _ => false
def numV : V → Bool
  | .int i => decide (0 ≤ i) && decide (i ≤ 999999)
  | _ => false
theorem Dt.kind {p : Addr} {H : Hp} {n : Nat} {v : V} (h : Dt p H n v) : (v = .non ∧ tyN H v = some "NoneType") ∨ (∃ b, v = .bl b ∧ tyN H v = some "bool") ∨ (∃ i, v = .int i ∧ tyN H v = some "int") ∨ (∃ x : Str, v = .str x ∧ tyN H v = some "str" ∧ x.length ≤ 9100) ∨
    (∃ (m : Nat) (a : Addr) (xs : List V), n = m + 1 ∧ v = .ref a ∧ tyN H v = some "tuple" ∧ H a = some (.tup xs) ∧ xs.length ≤ 9100 ∧ ∀ x ∈ xs, Dt p H m x) ∨
    (∃ (m : Nat) (a : Addr) (xs : List V), n = m + 1 ∧ v = .ref a ∧ tyN H v = some "list" ∧ H a = some (.lst xs) ∧ xs.length ≤ 9100 ∧ ∀ x ∈ xs, Dt p H m x) ∨ (∃ a, v = .ref a ∧ tyN H v = some "dict" ∧ H a = some (.dK [])) := by
  cases n with
  | zero => exact h.elim
  | succ n =>
    cases v with
    | non => exact .inl ⟨rfl, rfl⟩
    | bl b => exact .inr (.inl ⟨b, rfl, rfl⟩)
    | int i => exact .inr (.inr (.inl ⟨i, rfl, rfl⟩))
    | str x => exact .inr (.inr (.inr (.inl ⟨x, rfl, rfl, h⟩)))
    | ref a =>
      rcases h with ⟨xs, h1, h2, h3⟩ | ⟨xs, h1, h0, h2, h3⟩ | h
      · exact .inr (.inr (.inr (.inr (.inl ⟨n, a, xs, rfl, rfl, by unfold tyN; dsimp only; rw [h1], h1, h2, h3⟩))))
      · exact .inr (.inr (.inr (.inr (.inr (.inl ⟨n, a, xs, rfl, rfl, by unfold tyN; dsimp only; rw [h1], h1, h2, h3⟩)))))
      · exact .inr (.inr (.inr (.inr (.inr (.inr ⟨a, rfl, by unfold tyN; dsimp only; rw [h], h⟩)))))
    | byt _ => exact h.elim
    | flt _ => exact h.elim
    | ty _ => exact h.elim
/-- a text, or none -/
theorem Dt.strOr {p : Addr} {H : Hp} {n : Nat} {v : V} (h : Dt p H n v) : ∃ t, tyN H v = some t ∧ ((∃ x : Str, v = .str x ∧ t = "str" ∧ x.length ≤ 9100) ∨ (isiB t "str" = false ∧ nmV v = false ∧ ∀ x, v ≠ .str x)) := by
  rcases h.kind with ⟨rfl, ty⟩ | ⟨b, rfl, ty⟩ | ⟨i, rfl, ty⟩ | ⟨x, rfl, ty, hx⟩ | ⟨m, a, xs, _, rfl, ty, _⟩ | ⟨m, a, xs, _, rfl, ty, _⟩ | ⟨a, rfl, ty, _⟩
  · exact ⟨_, ty, .inr ⟨by decide, rfl, fun x z => by cases z⟩⟩
  · exact ⟨_, ty, .inr ⟨by decide, rfl, fun x z => by cases z⟩⟩
  · exact ⟨_, ty, .inr ⟨by decide, rfl, fun x z => by cases z⟩⟩
  · exact ⟨_, ty, .inl ⟨x, rfl, rfl, hx⟩⟩
  · exact ⟨_, ty, .inr ⟨by decide, rfl, fun x z => by cases z⟩⟩
  · exact ⟨_, ty, .inr ⟨by decide, rfl, fun x z => by cases z⟩⟩
  · exact ⟨_, ty, .inr ⟨by decide, rfl, fun x z => by cases z⟩⟩

section
variable {P : Program} {w : World} {K : PySem.W.Frag} {mg : Str → Option Value} {base : Heap}
/-! ### is_name -/
theorem sc_is_name : FnScope ["thing"] ["thing"] (defScope (top 26)) := ⟨rfl, rfl, rfl, by decide +kernel, rfl, by decide +kernel, by decide +kernel⟩
def spIsName : Sp := fun vs H Q _ => ∃ (v : V) (p : Addr) (n : Nat), vs = [v] ∧ Dt p H n v ∧ ∀ H', Same H H' → Q (.bl (nmV v)) H'
/-- the signs so far -/
theorem take_one {x : Str} {i c : Nat} (h : x.cps[i]? = some c) : x.cps.toList.take (i + 1) = x.cps.toList.take i ++ [c] := by
  rw [List.take_add_one]
  congr 1
  rw [Array.getElem?_toList, h]
  rfl
theorem d_is_name (T : Txt w K mg) (S : Src K mg "is_name" (top 26) ["thing"]) : Def P w K mg base 1 "is_name" ["thing"] spIsName := by
  obtain ⟨tm, v_MOST_LETTERS⟩ := T.most
  refine S.ok sc_is_name (fun vs H Q E h => ?_) (fun f cdv A outer s H vs Q E hr h => ?_)
  · obtain ⟨v, p, n, rfl, _⟩ := h; rfl
  obtain ⟨v, p, n, rfl, hv, q⟩ := h
  refine ⟨_, (pss_cons (ps_if (pt_not (pt_val (pe_cB call_isi rfl T.z_isinstance bt_isinstance (pac (pv 0) (pac (pe_ty T.z_str bt_str rfl) pa_nil)))))
      (pss_one (ps_ret pe_bl)) pss_nil)
      (pss_one (ps_ret (pe_and (pe_chain op_le op_le pe_int (pe_cB call_len_str rfl T.z_len bt_len (pac (pv 0) pa_nil)) (pe_glob (v := .int (6)) rfl v_MOST_LETTERS ⟨_, rfl⟩)) (pe_one (pe_cB (call_all_bl rfl) rfl T.z_all bt_all (pac (pe_comp (N' := ["sign"]) (comp_scope (defScope (top 26)) (by rfl) (by decide +kernel) (by decide +kernel) (by decide +kernel) (by decide +kernel) (by decide +kernel) (by decide +kernel)) rfl (capt 1 [] (by rfl) (by rfl) (by decide +kernel)) (pi_str (pv 0)) (fun _ _ _ => pg_name (i := 0) (show (["sign"] : List Str).Nodup by decide +kernel) rfl (Or.inl rfl) (Or.inr rfl)) (fun _ _ _ => pifs_nil) (fun _ _ _ => (pe_chain op_le_str op_le_str pe_str (pv 0) pe_str))) pa_nil))))))), ?_⟩
  obtain ⟨t, ty, ⟨x, rfl, rfl, hx⟩ | ⟨hf, hn, _⟩⟩ := hv.strOr
  · refine ⟨_, rfl, _, "str", _, rfl, ty, by simp, _, rfl, ifF (by decide) ?_⟩
    have l3 : (10000 : Nat) < sizeLine := by rw [sizeLine_eq]; decide
    have hcl : x.cps.toList.length = x.length := by simp [Str.length]
    refine ⟨_, rfl, x, rfl, by omega, _, _, rfl, rfl, _, rfl, ite2 (fun c1 => ?_) (fun c1 => ?_)⟩
    · refine ⟨_, _, rfl, rfl, _, rfl, ite2 (fun c2 => ?_) (fun c2 => ?_)⟩
      · refine ⟨_, rfl, x, rfl, fun acc hacc => ?_⟩
        refine ⟨fun i m σ2 ys H2 => m = x.cps.size - i ∧ i ≤ x.cps.size ∧ (∃ x0, σ2 = [x0]) ∧ ys = ((x.cps.toList.take i).map small).map V.bl ∧ H2 acc = some (.lst ys) ∧ Same H H2, ⟨_, rfl, Nat.zero_le _, ⟨_, rfl⟩, rfl, upd_same, same_of_new hacc _⟩, ?_⟩
        rintro i m σ2 ys H2 ⟨rfl, hi, ⟨x0, rfl⟩, rfl, ha, sm⟩
        refine ⟨ha, ?_⟩
        by_cases hlt : i < x.cps.size
        · refine .inr ⟨hlt, (by rw [List.length_map, List.length_map, List.length_take]; omega), ?_⟩
          rintro v H3 ⟨rfl, c, hc, rfl⟩
          have fin : ∀ b : Bool, b = small c → H3 acc = some (.lst (((x.cps.toList.take i).map small).map V.bl)) ∧ ∃ m', m' < x.cps.size - i ∧ m' = x.cps.size - (i + 1) ∧ i + 1 ≤ x.cps.size ∧ (∃ x0, [some (V.str ⟨#[c]⟩)] = [x0]) ∧
              ((x.cps.toList.take i).map small).map V.bl ++ [V.bl b] = ((x.cps.toList.take (i + 1)).map small).map V.bl ∧ (upd H3 acc (.lst (((x.cps.toList.take i).map small).map V.bl ++ [V.bl b]))) acc = some (.lst (((x.cps.toList.take i).map small).map V.bl ++ [V.bl b])) ∧ Same H (upd H3 acc (.lst (((x.cps.toList.take i).map small).map V.bl ++ [V.bl b]))) := fun b hb => by
            refine ⟨ha, _, by omega, rfl, hlt, ⟨_, rfl⟩, ?_, upd_same, fun b' o hb' => ?_⟩
            · rw [take_one hc, List.map_append, List.map_append, hb]; rfl
            · rw [upd_ne (ne_of_none hb' hacc)]; exact sm _ _ hb'
          refine ⟨_, rfl, _, _, rfl, rfl, _, rfl, ite2 (fun d1 => ?_) (fun d1 => ?_)⟩
          · rw [le_a] at d1
            refine ⟨_, _, rfl, rfl, ?_⟩
            refine fin _ ?_
            rw [le_z]
            unfold small
            rw [d1, Bool.true_and]
          · rw [le_a] at d1
            refine fin _ ?_
            unfold small
            rw [Bool.eq_false_iff.mpr d1, Bool.false_and]
        · have e : i = x.cps.size := by omega
          subst e
          refine .inl ⟨rfl, acc, (x.cps.toList.take x.cps.size).map small, rfl, SqL.of ha, ?_⟩
          have ez : nmV (.str x) = ((x.cps.toList.take x.cps.size).map small).all id := by
            show nmS x = _
            unfold nmS
            have hl1 : 1 ≤ x.length ∧ x.length ≤ 6 := by
              have a1 := of_decide_eq_true c1
              have a2 := of_decide_eq_true c2
              omega
            rw [decide_eq_true hl1, Bool.true_and, List.all_map, show x.cps.toList.take x.cps.size = x.cps.toList by rw [← Array.length_toList, List.take_length]]
            rfl
          rw [← ez]
          exact q _ sm
      · have c2' := Bool.eq_false_iff.mpr c2
        have ez : nmV (.str x) = false := by
          show nmS x = _
          unfold nmS
          rw [decide_eq_false (fun z => (of_decide_eq_false c2') (by omega)), Bool.false_and]
        rw [← ez]
        exact q _ (Same.refl H)
    · have c1' := Bool.eq_false_iff.mpr c1
      have ez : nmV (.str x) = false := by
        show nmS x = _
        unfold nmS
        rw [decide_eq_false (fun z => (of_decide_eq_false c1') (by omega)), Bool.false_and]
      refine ⟨_, rfl, iteF ?_⟩
      rw [← ez]
      exact q _ (Same.refl H)
  · refine ⟨_, rfl, _, "str", _, rfl, ty, by simp, _, rfl, ifT (by rw [hf]; rfl) ?_⟩
    have z := q H (Same.refl H)
    rw [hn] at z
    exact z
end
end K05

set_option Elab.async false
set_option linter.all false
set_option maxRecDepth 100000
set_option maxHeartbeats 4000000
namespace K05
open PySem L2
seal L2.PE L2.PS L2.PSs L2.PT L2.PW L2.PA L2.PG L2.PGs L2.PI L2.PO L2.PIfs L2.PC L2.OpR L2.CallR L2.IxR L2.SlR L2.PSet L2.UnR
section
variable {P : Program} {w : World} {K : PySem.W.Frag} {mg : Str → Option Value} {base : Heap}
/-! ### is_number -/
def wholeV (lo hi : Int) : V → Bool
  | .int i => decide (lo ≤ i) && decide (i ≤ hi)
  | _ => false
theorem Dt.intOr {p : Addr} {H : Hp} {n : Nat} {v : V} (h : Dt p H n v) : ∃ t, tyN H v = some t ∧ ((∃ i : Int, v = .int i ∧ t = "int") ∨ ((numV v = false ∧ ∀ lo hi, wholeV lo hi v = false) ∧ ((isiB t "bool" = true) ∨ (isiB t "bool" = false ∧ isiB t "int" = false)))) := by
  rcases h.kind with ⟨rfl, ty⟩ | ⟨b, rfl, ty⟩ | ⟨i, rfl, ty⟩ | ⟨x, rfl, ty, hx⟩ | ⟨m, a, xs, _, rfl, ty, _⟩ | ⟨m, a, xs, _, rfl, ty, _⟩ | ⟨a, rfl, ty, _⟩
  · exact ⟨_, ty, .inr ⟨⟨rfl, fun _ _ => rfl⟩, .inr ⟨by decide, by decide⟩⟩⟩
  · exact ⟨_, ty, .inr ⟨⟨rfl, fun _ _ => rfl⟩, .inl (by decide)⟩⟩
  · exact ⟨_, ty, .inl ⟨i, rfl, rfl⟩⟩
  · exact ⟨_, ty, .inr ⟨⟨rfl, fun _ _ => rfl⟩, .inr ⟨by decide, by decide⟩⟩⟩
  · exact ⟨_, ty, .inr ⟨⟨rfl, fun _ _ => rfl⟩, .inr ⟨by decide, by decide⟩⟩⟩
  · exact ⟨_, ty, .inr ⟨⟨rfl, fun _ _ => rfl⟩, .inr ⟨by decide, by decide⟩⟩⟩
  · exact ⟨_, ty, .inr ⟨⟨rfl, fun _ _ => rfl⟩, .inr ⟨by decide, by decide⟩⟩⟩
theorem sc_is_whole : FnScope ["thing", "least", "most"] ["thing", "least", "most"] (defScope (top 27)) := ⟨rfl, rfl, rfl, by decide +kernel, rfl, by decide +kernel, by decide +kernel⟩
def spWhole : Sp := fun vs H Q _ => ∃ (v : V) (p : Addr) (n : Nat) (lo hi : Int), vs = [v, .int lo, .int hi] ∧ Dt p H n v ∧ Q (.bl (wholeV lo hi v)) H
theorem d_is_whole (T : Txt w K mg) (S : Src K mg "is_whole" (top 27) ["thing", "least", "most"]) : Def P w K mg base 1 "is_whole" ["thing", "least", "most"] spWhole := by
  refine S.ok sc_is_whole (fun vs H Q E h => ?_) (fun f cdv A outer s H vs Q E hr h => ?_)
  · obtain ⟨v, p, n, lo, hi, rfl, _⟩ := h; rfl
  obtain ⟨v, p, n, lo, hi, rfl, hv, q⟩ := h
  refine ⟨_, (pss_cons (ps_if (pt_cut (PW.pt (pw_or (pt_val (pe_cB call_isi rfl T.z_isinstance bt_isinstance (pac (pv 0) (pac (pe_ty T.z_bool bt_bool rfl) pa_nil)))) (pw_or1 (pt_not (pt_val (pe_cB call_isi rfl T.z_isinstance bt_isinstance (pac (pv 0) (pac (pe_ty T.z_int bt_int rfl) pa_nil)))))))))
      (pss_one (ps_ret pe_bl)) pss_nil)
      (pss_one (ps_ret (pe_chain op_le op_le (pv 1) (pv 0) (pv 2))))), ?_⟩
  obtain ⟨t, ty, ⟨i, rfl, rfl⟩ | ⟨hn, hb | ⟨hb, hi'⟩⟩⟩ := hv.intOr
  · refine ⟨fun t H' => H = H' ∧ t = false, ?_, ?_⟩
    · exact ⟨_, rfl, _, "bool", _, rfl, ty, by simp, _, rfl, ifF (by decide) ⟨_, rfl, _, "int", _, rfl, ty, by simp, _, rfl, rfl, by decide⟩⟩
    rintro t H' ⟨rfl, rfl⟩
    refine ifF rfl ⟨_, rfl, _, rfl, _, _, rfl, rfl, _, rfl, ite2 (fun c1 => ?_) (fun c1 => ?_)⟩
    · refine ⟨_, rfl, _, _, rfl, rfl, ?_⟩
      have e : wholeV lo hi (.int i) = decide (i ≤ hi) := by show (decide (lo ≤ i) && decide (i ≤ hi)) = _; rw [c1, Bool.true_and]
      rw [e] at q
      exact q
    · have e : wholeV lo hi (.int i) = false := by show (decide (lo ≤ i) && decide (i ≤ hi)) = _; rw [Bool.eq_false_iff.mpr c1, Bool.false_and]
      rw [e] at q
      exact q
  · refine ⟨fun t H' => H = H' ∧ t = true, ⟨_, rfl, _, "bool", _, rfl, ty, by simp, _, rfl, ifT hb ⟨rfl, rfl⟩⟩, ?_⟩
    rintro t H' ⟨rfl, rfl⟩
    rw [hn.2 lo hi] at q
    exact ifT rfl q
  · refine ⟨fun t H' => H = H' ∧ t = true, ⟨_, rfl, _, "bool", _, rfl, ty, by simp, _, rfl, ifF hb ⟨_, rfl, _, "int", _, rfl, ty, by simp, _, rfl, rfl, by rw [hi']; rfl⟩⟩, ?_⟩
    rintro t H' ⟨rfl, rfl⟩
    rw [hn.2 lo hi] at q
    exact ifT rfl q
theorem sc_is_number : FnScope ["thing"] ["thing"] (defScope (top 28)) := ⟨rfl, rfl, rfl, by decide +kernel, rfl, by decide +kernel, by decide +kernel⟩
def spIsNum : Sp := fun vs H Q _ => ∃ (v : V) (p : Addr) (n : Nat), vs = [v] ∧ Dt p H n v ∧ Q (.bl (numV v)) H
theorem num_whole (v : V) : wholeV 0 999999 v = numV v := by cases v <;> rfl
theorem d_is_number (T : Txt w K mg) (D_is_whole : Def P w K mg base 1 "is_whole" ["thing", "least", "most"] spWhole) (S : Src K mg "is_number" (top 28) ["thing"]) : Def P w K mg base 2 "is_number" ["thing"] spIsNum := by
  obtain ⟨tm, v_GREATEST⟩ := T.great
  refine S.ok sc_is_number (fun vs H Q E h => ?_) (fun f cdv A outer s H vs Q E hr h => ?_)
  · obtain ⟨v, p, n, rfl, _⟩ := h; rfl
  obtain ⟨v, p, n, rfl, hv, q⟩ := h
  refine ⟨_, (pss_one (ps_ret (pe_def (D_is_whole) hr rfl (pac (pv 0) (pac pe_int (pac (pe_glob (v := .int (999999)) rfl v_GREATEST ⟨_, rfl⟩) pa_nil)))))), ?_⟩
  rw [← num_whole] at q
  exact ⟨_, rfl, v, p, n, 0, 999999, rfl, hv, q⟩
end
end K05

set_option Elab.async false
set_option linter.all false
set_option maxRecDepth 100000
set_option maxHeartbeats 4000000
/-! A comprehension read at once: what it walks stays, each turn gives a thing as told. -/
namespace L2
open PySem PySem.Spec PyProof.Rows

/-- heaps that may follow one another through a comprehension -/
structure Rel (H : Hp) (Rl : Hp → Prop) : Prop where
  here : Rl H
  put : ∀ H1 a o, H a = none → Rl H1 → Rl (upd H1 a o)
theorem Rel.same (H : Hp) : Rel H (Same H) := ⟨Same.refl H, fun H1 a o ha s b u hb => by rw [upd_ne (ne_of_none hb ha)]; exact s b u hb⟩
theorem Rel.ext {p : Addr} {H : Hp} (g : Gen p H) : Rel H (Ext p H) := ⟨Ext.refl g, fun H1 a o ha e => by
  have hap : p ≠ a := fun z => by obtain ⟨n, h, _⟩ := g; rw [z, ha] at h; cases h
  refine ⟨fun b u hb h => ?_, ?_⟩
  · rw [upd_ne (ne_of_none h ha)]; exact e.but b u hb h
  · obtain ⟨n, h, r⟩ := e.gen
    exact ⟨n, by rw [upd_ne hap]; exact h, r⟩⟩

theorem paired_app {α β : Type} {R : α → β → Prop} : ∀ {a b : List α} {c d : List β}, Paired R a c → Paired R b d → Paired R (a ++ b) (c ++ d)
  | _, _, _, _, .nil, s => s
  | _, _, _, _, .cons r t, s => .cons r (paired_app t s)
theorem walk_by {J : It} {te : TE} {cs σ0 : St} {H : Hp} {Qf : Addr → Hp → Prop} {Rl : Hp → Prop} (R : Rel H Rl) (items : List V) (Pv : V → V → Prop) (hz : items.length ≤ 10000)
    (hgo : ∀ i H2, Rl H2 → i < items.length → J.go i H2) (hstop : ∀ H2, Rl H2 → J.stop items.length H2) (hyld : ∀ i H2 x H3, Rl H2 → i < items.length → J.yld i H2 x H3 → H3 = H2 ∧ items[i]? = some x)
    (hσ : σ0 = none :: cs)
    (step : ∀ x acc ys H2 (k : VK), x ∈ items → H acc = none → H2 acc = some (.lst ys) → Rl H2 → (∀ y H3, Pv x y → Rl H3 → H3 acc = some (.lst ys) → k y H3) → te (some x :: cs) H2 k)
    (fin : ∀ acc ys H', H acc = none → Rl H' → H' acc = some (.lst ys) → Paired Pv items ys → Qf acc H') :
    ∀ acc, H acc = none → ∃ W : Nat → Nat → St → List V → Hp → Prop, (∃ m, W 0 m σ0 [] (upd H acc (.lst []))) ∧ ∀ i m σ2 ys H2, W i m σ2 ys H2 → H2 acc = some (.lst ys) ∧
    ((J.stop i H2 ∧ Qf acc H2) ∨ (J.go i H2 ∧ ys.length < sizeLine ∧ ∀ x H3, J.yld i H2 x H3 → gName 0 x σ2 H3 fun σ4 H4 => (fun (_ : St) (H : Hp) (Q : Bool → Hp → Prop) => Q true H) σ4 H4 fun b H5 =>
      if b = true then te σ4 H5 fun y H6 => H6 acc = some (.lst ys) ∧ ∃ m', m' < m ∧ W (i + 1) m' σ4 (ys ++ [y]) (upd H6 acc (.lst (ys ++ [y]))) else ∃ m', m' < m ∧ W (i + 1) m' σ4 ys H5)) := by
  intro acc hacc
  subst hσ
  refine ⟨fun i m σ2 ys H2 => m = items.length - i ∧ i ≤ items.length ∧ (∃ x0, σ2 = x0 :: cs) ∧ Paired Pv (items.take i) ys ∧ H2 acc = some (.lst ys) ∧ Rl H2,
    ⟨_, rfl, Nat.zero_le _, ⟨_, rfl⟩, (by rw [List.take_zero]; exact .nil), upd_same, R.put _ _ _ hacc R.here⟩, ?_⟩
  rintro i _ σ2 ys H2 ⟨rfl, hi, ⟨x0, rfl⟩, hp, ha, hr⟩
  refine ⟨ha, ?_⟩
  by_cases hlt : i < items.length
  · refine .inr ⟨hgo i H2 hr hlt, ?_, fun x H3 hy => ?_⟩
    · have := Paired.length hp
      rw [List.length_take] at this
      have : ys.length ≤ 10000 := by omega
      exact Nat.lt_of_le_of_lt this (by decide)
    obtain ⟨rfl, hx⟩ := hyld i H2 x H3 hr hlt hy
    refine step x acc ys H3 _ (List.mem_of_getElem? hx) hacc ha hr fun y H4 hv hr4 ha4 => ?_
    refine ⟨ha4, _, (by omega : items.length - (i + 1) < items.length - i), rfl, hlt, ⟨_, rfl⟩, ?_, upd_same, R.put _ _ _ hacc hr4⟩
    rw [List.take_add_one, hx]
    exact paired_app hp (.cons hv .nil)
  · obtain rfl : i = items.length := by omega
    rw [List.take_length] at hp
    exact .inl ⟨hstop H2 hr, fin acc ys H2 hacc hr ha hp⟩
theorem paired_map {f : V → V} : ∀ {xs ys : List V}, Paired (fun x y => y = f x) xs ys → ys = xs.map f
  | _, _, .nil => rfl
  | _, _, .cons e t => by rw [List.map_cons, ← paired_map t, e]
/-- over a tuple, all that was is kept, each turn told by a function -/
theorem walk_tup {K : PySem.W.Frag} {a : Addr} {xs : List V} {te : TE} {cs σ0 : St} {H : Hp} {Qf : Addr → Hp → Prop} (f : V → V) (ha : H a = some (.tup xs)) (hz : xs.length ≤ 10000) (hσ : σ0 = none :: cs)
    (step : ∀ x H2 (k : VK), x ∈ xs → Same H H2 → (∀ H3, Same H2 H3 → k (f x) H3) → te (some x :: cs) H2 k)
    (fin : ∀ acc H', H acc = none → Same H H' → H' acc = some (.lst (xs.map f)) → Qf acc H') :
    ∀ acc, H acc = none → ∃ W : Nat → Nat → St → List V → Hp → Prop, (∃ m, W 0 m σ0 [] (upd H acc (.lst []))) ∧ ∀ i m σ2 ys H2, W i m σ2 ys H2 → H2 acc = some (.lst ys) ∧
    (((Itt K a).stop i H2 ∧ Qf acc H2) ∨ ((Itt K a).go i H2 ∧ ys.length < sizeLine ∧ ∀ x H3, (Itt K a).yld i H2 x H3 → gName 0 x σ2 H3 fun σ4 H4 => (fun (_ : St) (H : Hp) (Q : Bool → Hp → Prop) => Q true H) σ4 H4 fun b H5 =>
      if b = true then te σ4 H5 fun y H6 => H6 acc = some (.lst ys) ∧ ∃ m', m' < m ∧ W (i + 1) m' σ4 (ys ++ [y]) (upd H6 acc (.lst (ys ++ [y]))) else ∃ m', m' < m ∧ W (i + 1) m' σ4 ys H5)) :=
  walk_by (Rel.same H) xs (fun x y => y = f x) hz (fun i H2 s hi => ⟨xs, _, SqT.of (s _ _ ha), List.getElem?_eq_getElem hi⟩) (fun H2 s => ⟨xs, SqT.of (s _ _ ha), Nat.le_refl _⟩)
    (fun i H2 x H3 s _ y => ⟨y.1, y.2 xs (SqT.of (s _ _ ha))⟩) hσ (fun x acc ys H2 k hx hn hl s hk => step x H2 k hx s fun H3 s3 => hk _ _ rfl (s.trans s3) (s3 _ _ hl))
    fun acc ys H' hn s hl hp => fin acc H' hn s (by rw [← paired_map hp]; exact hl)
/-- a call of a def that a name of the frame holds -/
def tCallF (P : Program) (w : World) (K : PySem.W.Frag) (mg : Str → Option Value) (base : Heap) (k : Nat) (tx : TE) (t : TA) : TE := fun σ H Q => tx σ H fun v H1 => ∃ (f : Addr) (fd : FuncData) (ps : List Str) (sp : Sp),
  v = .ref f ∧ FnOk P w K mg base CX0 k f fd ps sp ∧ PySem.W.keepIn K (.ref f) = true ∧ Binds K fd ps [] ∧ t σ H1 fun vs H2 => sp vs H2 Q E0
theorem pe_callF {X : Cx} {k : Nat} {x : Str} {tx : TE} {p pos : Pos} {e : Expr} {es : List Expr} {t : TA} (hx : PE X (.Name x p) tx) (hr : Room k X.A) (ha : PA X (e :: es) t) (hpl : (e :: es).all plainE = true := by rfl) :
    PE X (.Call (.Name x p) (e :: es) [] pos) (tCallF X.prog X.w X.K X.mg X.base k tx t) := by
  intro pins s σ H Q I h
  rw [List.all_cons, Bool.and_eq_true] at hpl
  refine wpAny_Call_Name_kw (thn (hx pins s σ H _ I h) fun v s1 ⟨y, H1, I1, r, f, fd, ps, sp, e1, F, hk, hb, q⟩ => ?_)
  subst e1
  cases r
  refine PySem.W.callWith_K (h₀ := X.base) I1.ok.mod.kin hk (thn (ha pos pins s1 σ H1 _ I1 q) fun us s2 ⟨vs, H2, I2, r2, q2⟩ => ⟨I2.kIn, ?_⟩) (star_cons hpl.1) (star_all hpl.2)
  exact run_fn F hr hb .nil (pass0 (X := X)) I2 r2 (by rw [List.append_nil]; exact q2)
end L2

set_option Elab.async false
set_option linter.all false
set_option maxRecDepth 100000
set_option maxHeartbeats 4000000
/-! Exceptions of own classes, told by their whole object: made, noted in a frame, flying. -/
namespace L2
open PySem PySem.Spec PyProof.Rows

/-- an exception of the class at C: its arguments at t, the head of its traceback -/
def exo (C t : Addr) (tb : Value) : Obj := { cls := .ref C, data := .fields #[.ref t, tb, .none, .none, .bool false, .none] }
/-- it has an entry at T, marked with fl -/
def Ex (h : Heap) (a C T : Addr) (fl : Value) : Prop := (∃ t, h.get? a = some (exo C t (.ref T))) ∧ T ≠ a ∧ ∃ oT ts, h.get? T = some oT ∧ oT.data = .fields ts ∧ ts[3]? = some fl
/-- what a station does: the frames at fs by their slots, the records at a and T -/
structure Mv (fs : List Addr) (a T : Addr) (h h' : Heap) : Prop where
  keep : ∀ b o, h.get? b = some o → b ∉ fs → b ≠ a → b ≠ T → h'.get? b = some o
  slot : ∀ b o, h.get? b = some o → b ∈ fs → b ≠ a → b ≠ T → ∃ sl, h'.get? b = some { o with slots := sl }
theorem Mv.any {fs : List Addr} {a T b : Addr} {h h' : Heap} {o : Obj} (m : Mv fs a T h h') (e : h.get? b = some o) (h1 : b ≠ a) (h2 : b ≠ T) : ∃ sl, h'.get? b = some { o with slots := sl } := by
  by_cases hb : b ∈ fs
  · exact m.slot b o e hb h1 h2
  · exact ⟨o.slots, m.keep b o e hb h1 h2⟩
section
variable {M : Model} {A : Around} {E : Value → Shared → Prop} {s : Shared} {base : Heap} {env : Env} {outer : List Env} {L a C t T : Addr} {Q : Unit → Shared → Prop}

theorem exo_map (C t : Addr) (tb x : Value) : (exo C t tb).mapFields (·.setIfInBounds 1 x) = exo C t x := rfl

theorem entry_ok {tb head : Value} {hadNext : Bool} (hfr : A.frames = some (env :: outer)) (hl : s.heap.FunFrames base (env :: outer)) (hf : env.frame = some L) (he : s.heap.get? a = some (exo C t tb))
    (h : ∀ h' T', s.heap.get? T' = none → s.heap.objs.size ≤ T' → Ex h' a C T' (rawInt L) → Mv ((env :: outer).filterMap (·.frame)) a a s.heap h' → Q () { s with heap := h' }) :
    wpAny M A (do let x ← frameOf env; let pl ← entryPlaceOf L hadNext; let b ← EntryCells.newEntry head x .none (rawInt L) .none pl; setField (.ref a) 1 b) Q E s := by
  have hnf : a ∉ (env :: outer).filterMap (·.frame) := fun hm => by
    obtain ⟨_, o, ho, hn⟩ := hl.mem hm
    rw [he] at ho; cases ho; exact hn _ rfl
  refine wpAny_bind (wpAny_frameOf_fun hfr hl hf fun h1 hs => ?_)
  refine wpAny_bind (wpAny_entryPlaceOf fun pl hpl => ?_)
  unfold EntryCells.newEntry newFields
  refine wpAny_bind (wpAny_newObj_type ?_ (hpl.sizeOk5 _ _ _ _ _))
  have he1 : h1.get? a = some (exo C t tb) := (hs.2.1 a hnf).trans he
  have he2 := Heap.get?_push_of_some (h := h1) { cls := .type "traceback", dict := none, data := .fields ([head, .ref L, .none, rawInt L, .none] ++ (if pl.isEmpty then List.replicate 6 Value.none else pl)).toArray } he1
  refine wpAny_setField he2 rfl (Nat.lt_of_sub_pos (Nat.succ_pos 4)) ?_
  have hne : h1.objs.size ≠ a := Nat.ne_of_gt (Heap.lt_size he1)
  have hup : ∀ b o, s.heap.get? b = some o → b ≠ h1.objs.size := fun b o e => by
    obtain ⟨sl, e1⟩ := hs.2.2 b o e
    exact Nat.ne_of_lt (Heap.lt_size e1)
  have hfree : s.heap.get? h1.objs.size = none := by
    cases q : s.heap.get? h1.objs.size with
    | none => rfl
    | some o => exact absurd rfl (hup _ o q)
  refine h _ h1.objs.size hfree (Nat.le_of_eq hs.1.symm) ⟨⟨t, ?_⟩, hne, { cls := .type "traceback", dict := none, data := .fields ([head, .ref L, .none, rawInt L, .none] ++ (if pl.isEmpty then List.replicate 6 Value.none else pl)).toArray }, _, ?_, rfl, ?_⟩ ⟨fun b o e hb ha _ => ?_, fun b o e hb ha _ => ?_⟩
  · rw [← exo_map C t tb]
    exact Heap.get?_update_self _ he2 rfl
  · rw [Heap.get?_update_other _ _ (Ne.symm hne)]
    exact Heap.get?_push_size h1 rfl
  · first | (simp; done) | (rcases hpl with rfl | ⟨_, _, _, _, _, _, _, rfl⟩ <;> simp)
  · rw [Heap.get?_update_other _ _ (Ne.symm ha)]
    exact Heap.get?_push_of_some _ ((hs.2.1 b hb).trans e)
  · obtain ⟨sl, e1⟩ := hs.2.2 b o e
    refine ⟨sl, ?_⟩
    rw [Heap.get?_update_other _ _ (Ne.symm ha)]
    exact Heap.get?_push_of_some _ e1

/-- an exception just made is noted -/
theorem note0 (hfr : A.frames = some (env :: outer)) (hl : s.heap.FunFrames base (env :: outer)) (hf : env.frame = some L) (he : s.heap.get? a = some (exo C t .none))
    (h : ∀ h' T', s.heap.get? T' = none → s.heap.objs.size ≤ T' → Ex h' a C T' (rawInt L) → Mv ((env :: outer).filterMap (·.frame)) a a s.heap h' → Q () { s with heap := h' }) : wpAny M A (noteFrame (.ref a) env) Q E s := by
  unfold noteFrame
  simp only [hf]
  refine wpAny_bind (wpAny_field he rfl (x := .none) rfl ?_)
  rw [if_neg (by decide)]
  exact entry_ok hfr hl hf he h
/-- one that came from within is noted -/
theorem note1 (hfr : A.frames = some (env :: outer)) (hl : s.heap.FunFrames base (env :: outer)) (hf : env.frame = some L) (he : Ex s.heap a C T .none)
    (h : ∀ h' T', s.heap.get? T' = none → s.heap.objs.size ≤ T' → Ex h' a C T' (rawInt L) → Mv ((env :: outer).filterMap (·.frame)) a T s.heap h' → Q () { s with heap := h' }) : wpAny M A (noteFrame (.ref a) env) Q E s := by
  obtain ⟨⟨t, ha⟩, hne, oT, ts, hT, hd, h3⟩ := he
  unfold noteFrame
  simp only [hf]
  refine wpAny_bind (wpAny_field ha rfl (x := .ref T) rfl ?_)
  rw [if_pos (show (Value.ref T != Value.none) = true from by simp)]
  refine wpAny_bind (wpAny_field hT hd h3 ?_)
  rw [if_neg (show ¬ ((Value.none == rawInt L) = true) from by simp [rawInt])]
  refine wpAny_bind (wpAny_setField hT hd (Array.getElem?_eq_some_iff.mp h3).1 ?_)
  have oth : ∀ b, b ≠ T → (s.heap.update T (Obj.mapFields (·.setIfInBounds 3 Value.none))).get? b = s.heap.get? b := fun b hb => Heap.get?_update_other _ _ (Ne.symm hb)
  have nr : ∀ b o, s.heap.get? b = some o → (∀ vs, o.data ≠ .fields vs) → b ≠ T := fun b o hb hnf q => by
    rw [q, hT] at hb; cases hb; exact hnf ts hd
  refine entry_ok (s := { s with heap := s.heap.update T (Obj.mapFields (·.setIfInBounds 3 Value.none)) }) hfr (hl.of_keeps fun b o hb hnf => ⟨o, (oth b (nr b o hb hnf)).trans hb, rfl⟩) hf ((oth a (Ne.symm hne)).trans ha) fun h' T' f1 f1' f2 f3 => ?_
  refine h h' T' ?_ ?_ f2 ⟨fun b o e hb h1 h2 => f3.keep b o ((oth b h2).trans e) hb h1 h1, fun b o e hb h1 h2 => f3.slot b o ((oth b h2).trans e) hb h1 h1⟩
  · by_cases q : T' = T
    · rw [q] at f1
      have z := Heap.get?_update_self (Obj.mapFields (·.setIfInBounds 3 Value.none)) hT (Obj.isFreed_of_fields (Obj.data_mapFields hd _))
      rw [z] at f1
      cases f1
    · exact (oth T' q).symm.trans f1
  · have z := Heap.size_after_update s.heap T (Obj.mapFields (·.setIfInBounds 3 Value.none))
    exact Nat.le_trans (Nat.le_of_eq z.symm) f1'
/-- the mark goes -/
theorem flight0 {fl : Value} (he : Ex s.heap a C T fl) (h : ∀ h', Ex h' a C T .none → Heap.SameBut T s.heap h' → Q () { s with heap := h' }) : wpAny M A (setFlight (.ref a) none) Q E s := by
  obtain ⟨⟨t, ha⟩, hne, oT, ts, hT, hd, h3⟩ := he
  have hz : 3 < ts.size := (Array.getElem?_eq_some_iff.mp h3).1
  unfold setFlight
  refine wpAny_bind (wpAny_field ha rfl (x := .ref T) rfl ?_)
  rw [if_pos (show (Value.ref T != Value.none) = true from by simp)]
  refine wpAny_setField hT hd hz (h _ ⟨⟨t, (Heap.get?_update_other _ _ hne).trans ha⟩, hne, _, _, Heap.get?_update_self _ hT (Obj.isFreed_of_fields (Obj.data_mapFields hd _)), Obj.data_mapFields hd _, by simp [hz]⟩ (Heap.SameBut.update ..))
end
end L2

set_option Elab.async false
set_option linter.all false
set_option maxRecDepth 100000
set_option maxHeartbeats 4000000
/-! A walk over a tuple ends while an exception is handled. -/
namespace L2
open PySem PySem.Spec PyProof.Rows

theorem entry_unchain : entryFor table "proto.unchain" = some Builtin.«proto.unchain» := entryFor_of_tree (by kernel_rfl)
section
variable {prog : Program} {w : World} {A : Around} {E : Value → Shared → Prop} {s : Shared} {e C t : Addr} {tb : Value}
theorem unchain_ok {x : Value} {Q : Value → Shared → Prop} (he : s.heap.get? e = some (exo C t tb)) (h : Q .none s) :
    wpAny (model prog w) A (runValue (.builtin "proto.unchain" ⟨[x, .ref e, .ref e, .bool false], []⟩)) Q E s := by
  refine wpAny_runValue (codeAny_builtin entry_unchain ?_)
  unfold Builtin.«proto.unchain»
  refine wpAny_bind (wpAny_field he rfl (x := .none) rfl ?_)
  show wpAny (model prog w) _ (if (Value.none == Value.none) = true then (ret .none : Sem Fin) else _) _ _ _
  rw [if_pos (by decide)]
  exact wpAny_pure h
/-- what is raised while e is handled has it as its context -/
theorem raise_in {α : Type} {x : Addr} {ox : Obj} {vs : Array Value} {Q : α → Shared → Prop} (hh : A.handled = some (.ref e)) (he : s.heap.get? e = some (exo C t tb)) (hx : s.heap.get? x = some ox) (hd : ox.data = .fields vs) (hz : 2 < vs.size) (hne : e ≠ x)
    (h : E (.ref x) { s with heap := s.heap.update x (Obj.mapFields (·.setIfInBounds 2 (.ref e))) }) : wpAny (model prog w) A (raiseNew (.ref x) : Sem α) Q E s := by
  unfold raiseNew
  refine wpAny_bind (wpAny_handled ?_)
  rw [hh]
  show wpAny _ _ (if (Value.ref e != Value.ref x) = true then _ else _) _ _ _
  rw [if_pos (by simp [hne])]
  refine wpAny_bind (wpAny_holding (unchain_ok he ?_))
  exact wpAny_bind (wpAny_setField (M := model prog w) (A := A) (E := E) (x := .ref e) hx hd hz (wpAny_throw h))

theorem tuple_endH {it tp : Addr} {i : Nat} {items} {Q : Option Value → Shared → Prop} (hh : A.handled = some (.ref e)) (he : s.heap.get? e = some (exo C t tb)) (hne : e ≠ it)
    (hit : s.heap.IsTupleIter it tp i) (ht : s.heap.IsTuple tp items) (hx : items[i]? = none)
    (hQ : ∀ h', Heap.ExtBut it s.heap h' → Q none { s with heap := h' }) : wpAny (model prog w) A (pyNext (.ref it)) Q E s := by
  obtain ⟨o, ho, hc, hd⟩ := id hit
  obtain ⟨ol, hol, _, nl, hdl⟩ := ht
  unfold pyNext
  refine wpAny_bind (wpAny_attempt (wpAny_callSpecial?_slot (name := Str.ofString "__next__") hit.typeIs F.slot_tuple_iterator_next (wpAny_call_entry F.slot_tuple_iterator_next hit.typeIs F.entry_tuple_iterator_next ?_ (F.args_tuple_iterator_next_1 _))))
  show wpAny _ _ (field (.ref it) 0 >>= _) _ _ s
  refine wpAny_bind (wpAny_field ho hd (x := .ref tp) rfl ?_)
  show wpAny _ _ (if (Value.ref tp == Value.none) = true then _ else _) _ _ s
  rw [if_neg (show ¬ ((Value.ref tp == Value.none) = true) from Bool.false_ne_true)]
  show wpAny _ _ (field (.ref it) 1 >>= _) _ _ s
  refine wpAny_bind (wpAny_field ho hd (x := .int i 0) rfl ?_)
  show wpAny _ _ (seqItems? (.ref tp) >>= _) _ _ s
  refine wpAny_bind (wpAny_seqItems hol hdl ?_)
  simp only [Int.toNat_natCast, hx]
  refine wpAny_bind (wpAny_rule (wpAny_bind (wpAny_setField ho hd (by simp) ?_)))
  show wpAny _ _ (newExc (.type "StopIteration") [] >>= _) _ _ _
  refine wpAny_bind ?_
  simp only [newExc, newTuple]
  refine wpAny_bind (wpAny_newObj_type ?_ (by size_fits))
  refine wpAny_bind (m := firstArgMember _ _) (wpAny_of_eq (a := Value.none) (by first | rfl | (simp only [firstArgMember]; rfl)) ?_)
  refine wpAny_newObj_type ?_ (by size_fits)
  have k1 : ∀ {h1 : Heap} {ob : Obj}, h1.get? e = some (exo C t tb) → (h1.push ob).get? e = some (exo C t tb) := fun q => Heap.get?_push_of_some _ q
  have k0 : (s.heap.update it (Obj.mapFields (·.setIfInBounds 0 Value.none))).get? e = some (exo C t tb) := (Heap.get?_update_other _ _ (Ne.symm hne)).trans he
  refine raise_in (C := C) (t := t) (tb := tb) (e := e) hh (k1 (k1 k0)) (Heap.get?_push_size _ rfl) rfl (by simp [ownMembersOf]) (Nat.ne_of_lt (Heap.lt_size (k1 k0))) ?_
  refine wpAny_bind (wpAny_isInstance (T := "StopIteration") (b := true) ⟨_, Heap.get?_update_self _ (Heap.get?_push_size _ rfl) rfl, rfl⟩ isSubtype_stop ?_)
  refine wpAny_pure (hQ _ ?_)
  intro b o hb q
  have q1 : (s.heap.update it (Obj.mapFields (·.setIfInBounds 0 Value.none))).get? b = some o := (Heap.get?_update_other _ _ (Ne.symm hb)).trans q
  have q2 := Heap.get?_push_of_some ({ cls := .type "tuple", data := .seq #[] } : Obj) q1
  exact (Heap.get?_update_other _ _ (Ne.symm (Nat.ne_of_lt (Heap.lt_size q2)))).trans (Heap.get?_push_of_some _ q2)
end
end L2

set_option Elab.async false
set_option linter.all false
set_option maxRecDepth 100000
set_option maxHeartbeats 4000000
/-! Exceptions over the hand layer: in flight behind a call, raised, passed on. -/
namespace L2
open PySem PySem.Spec PyProof.Rows

theorem ObjOk.there {P : Program} {w : World} {H : Hp} {h : Heap} {a : Addr} {o : HO} (x : ObjOk P w H h a o) : ∃ ob, h.get? a = some ob := by
  cases o with
  | lst xs => obtain ⟨_, _, _, _, e⟩ := x; exact ⟨_, e⟩
  | tup xs => obtain ⟨_, _, _, o, e, _⟩ := x; exact ⟨_, e⟩
  | dK kvs => obtain ⟨_, _, _, _, o, _, _, e, _⟩ := x; exact ⟨_, e⟩
  | dT kvs => obtain ⟨_, _, _, _, o, _, _, e, _⟩ := x; exact ⟨_, e⟩
  | set S n => obtain ⟨o, _, _, _, e, _⟩ := x; exact ⟨_, e⟩
  | ins C dx fs => obtain ⟨_, _, _, e, _⟩ := x; exact ⟨_, e⟩
  | own y => exact x
  | xd fs => obtain ⟨_, ⟨o, _, _, e, _⟩, _⟩ := x; exact ⟨_, e⟩
  | rng lo hi => obtain ⟨_, _, _, e⟩ := x; exact ⟨_, e⟩
  | frz ob u => obtain ⟨e, _⟩ := x; exact ⟨_, e⟩
  | tbl ps => exact ⟨_, (show h.get? a = some _ from x)⟩
  | met f y => exact ⟨_, (show h.get? a = some _ from x)⟩
  | ext φ => exact x.2.1
theorem HOk.none_of {P : Program} {w : World} {H : Hp} {h : Heap} {a : Addr} (x : HOk P w H h) (e : h.get? a = none) : H a = none := by
  cases q : H a with
  | none => rfl
  | some o =>
    obtain ⟨ob, z⟩ := (x a o q).there
    rw [e] at z; cases z
/-- tracked things are kept: they are held -/
theorem HOk.keep {P : Program} {w : World} {H : Hp} {h h' : Heap} (x : HOk P w H h) (k : ∀ b u o, H b = some u → h.get? b = some o → h'.get? b = some o) : HOk P w H h' := fun a o e =>
  (x a o e).stay (fun b u hb q => by
    rcases hb with rfl | hb
    · exact k _ _ _ e q
    · exact k _ _ _ hb q) (fun _ q => q) fun _ _ q => q

/-- an exception of the class at C flies behind a call: what lies ahead of the call (H, s), what lies now (H', s') -/
structure Fl (P : Program) (w : World) (l : List Env) (H : Hp) (s : Shared) (H' : Hp) (a C : Addr) (fl : Value) (s' : Shared) : Prop where
  os : s'.os = s.os
  bare : AllBare s'.gens
  un : Un (frs l) [] H H' s.heap s'.heap
  hok : HOk P w H' s'.heap
  na : H' a = none
  new : s.heap.get? a = none
  ex : ∃ T, Ex s'.heap a C T fl ∧ H' T = none ∧ s.heap.get? T = none
/-- what is wanted of an exception behind a call -/
def CX1 (P : Program) (w : World) : CXT := fun l H s E e s' => ∃ a C H', e = .ref a ∧ Fl P w l H s H' a C .none s' ∧ E (.ref C) none H'

section
variable {X : Cx} {pins : List (Addr × Obj)} {σ : St} {H H' : Hp} {s s' : Shared} {a C : Addr} {fl : Value}
theorem Fl.inv (I : Inv X pins σ H s) (f : Fl X.prog X.w X.stack H s H' a C fl s') : Inv X pins σ H' s' := I.call' (ch := []) f.os f.un f.hok f.bare (fun b hb => absurd hb (by simp))
theorem Fl.frF (I : Inv X pins σ H s) (f : Fl X.prog X.w X.stack H s H' a C fl s') : ∀ b ∈ frs X.stack, H' b = none := fun b hb => by
  obtain ⟨_, o, ho, _⟩ := I.stack.mem hb
  exact f.un.free b o ho (I.stkFree b hb) (by simp)
/-- the heap moves by a station -/
theorem Fl.move {l : List Env} {fl' : Value} {T T' : Addr} {h' : Heap} (f : Fl X.prog X.w l H s H' a C fl s') (hfr : ∀ b ∈ frs l, H' b = none) (hT : H' T = none) (hTn : s.heap.get? T = none) (m : Mv (frs l) a T s'.heap h')
    (e : Ex h' a C T' fl') (hT' : H' T' = none) (hTn' : s.heap.get? T' = none) : Fl X.prog X.w l H s H' a C fl' { s' with heap := h' } where
  os := f.os
  bare := f.bare
  un := by
    have na : ∀ b o, s.heap.get? b = some o → b ≠ a := fun b o q z => by rw [z, f.new] at q; cases q
    have nT : ∀ b o, s.heap.get? b = some o → b ≠ T := fun b o q z => by rw [z, hTn] at q; cases q
    refine ⟨fun b o q n hb hx => m.keep b o (f.un.keep b o q n hb hx) hb (na b o q) (nT b o q), fun b o q n hb hx => ?_, f.un.free, fun b o q hx => ?_, f.un.tups, f.un.frzs, f.un.tbls⟩
    · obtain ⟨sl, q1⟩ := f.un.slot b o q n hb hx
      obtain ⟨sl', q2⟩ := m.slot b _ q1 hb (na b o q) (nT b o q)
      exact ⟨sl', q2⟩
    · obtain ⟨o', q1⟩ := f.un.there b o q hx
      obtain ⟨sl, q2⟩ := m.any q1 (na b o q) (nT b o q)
      exact ⟨_, q2⟩
  hok := f.hok.keep fun b u o e q => m.keep b o q (fun z => by rw [hfr b z] at e; cases e) (fun z => by rw [z, f.na] at e; cases e) (fun z => by rw [z, hT] at e; cases e)
  na := f.na
  new := f.new
  ex := ⟨T', e, hT', hTn'⟩
theorem Fl.fresh {l : List Env} {T' : Addr} (f : Fl X.prog X.w l H s H' a C fl s') (hn : s'.heap.get? T' = none) (hs : s'.heap.objs.size ≤ T') : H' T' = none ∧ s.heap.get? T' = none := by
  refine ⟨f.hok.fresh hs, ?_⟩
  cases q : s.heap.get? T' with
  | none => rfl
  | some o =>
    obtain ⟨o', z⟩ := f.un.there T' o q (by simp)
    rw [hn] at z; cases z
/-- the frames stand behind the call -/
theorem Fl.funs (I : Inv X pins σ H s) (f : Fl X.prog X.w X.stack H s H' a C fl s') : s'.heap.FunFrames X.base X.stack := (f.inv I).stack
variable {M : Model} {A : Around} {E : Value → Shared → Prop} {Q : Unit → Shared → Prop}
theorem Fl.note {outer : List Env} (I : Inv X pins σ H s) (hst : X.stack = X.env :: outer) (hf : X.env.frame = some X.env.locals) (hfr : A.frames = some X.stack) (f : Fl X.prog X.w X.stack H s H' a C .none s')
    (h : ∀ s'', Fl X.prog X.w X.stack H s H' a C (rawInt X.env.locals) s'' → Q () s'') : wpAny M A (noteFrame (.ref a) X.env) Q E s' := by
  obtain ⟨T, e, hT, hTn⟩ := f.ex
  have hl := f.funs I
  have fm : ∀ b ∈ frs X.stack, H' b = none := f.frF I
  rw [hst] at hfr hl
  refine note1 hfr hl hf e fun h' T' n1 n2 e' m => h _ ?_
  obtain ⟨g1, g2⟩ := f.fresh n1 n2
  exact f.move fm hT hTn (by rw [hst]; exact m) e' g1 g2
theorem Fl.land {l : List Env} (f : Fl X.prog X.w l H s H' a C fl s') (hfr : ∀ b ∈ frs l, H' b = none) (h : ∀ s'', Fl X.prog X.w l H s H' a C .none s'' → Q () s'') : wpAny M A (setFlight (.ref a) none) Q E s' := by
  obtain ⟨T, e, hT, hTn⟩ := f.ex
  exact flight0 e fun h' e' sb => h _ (f.move hfr hT hTn ⟨fun b o q _ _ hb => (sb.2 b hb).trans q, fun b o q _ _ hb => ⟨o.slots, (sb.2 b hb).trans q⟩⟩ e' hT hTn)
/-- .. through the caller's frame -/
theorem Fl.out (I : Inv X pins σ H s) (hx : X.ex = []) (f : Fl X.prog X.w X.stack H s H' a C fl s') : Fl X.prog X.w X.outer X.H₀ X.s₀ H' a C fl s' := by
  have J := f.inv I
  have old : ∀ b, s.heap.get? b = none → X.s₀.heap.get? b = none := fun b q => by
    cases z : X.s₀.heap.get? b with
    | none => rfl
    | some o =>
      obtain ⟨o', y⟩ := I.base.there b o z (by rw [hx]; simp)
      rw [q] at y; cases y
  obtain ⟨T, e, hT, hTn⟩ := f.ex
  have un := J.base
  rw [hx] at un
  exact ⟨J.os, J.bare, un, J.hok, f.na, old _ f.new, T, e, hT, old _ hTn⟩
end

/-- a def's own body: its frame is the newest -/
structure Frm (X : Cx) : Prop where
  st : X.stack = X.env :: X.outer
  fr : X.env.frame = some X.env.locals
  ex : X.ex = []
/-- an exception that leaves the frame and is wanted behind it is what this body wants of exceptions -/
def OutTo (X : Cx) (E : XK) : Prop := ∀ e s', wpAny (model X.prog X.w) X.A (leaving X.env e) (fun _ s'' => CX1 X.prog X.w X.outer X.H₀ X.s₀ E e s'') (fun e' s'' => CX1 X.prog X.w X.outer X.H₀ X.s₀ E e' s'') s' → X.xe e s'
theorem OutTo.pass {X : Cx} {E : XK} (fr : Frm X) (o : OutTo X E) : Passes (CX1 X.prog X.w) X E := by
  intro pins σ H s e s' I h
  obtain ⟨a, C, H', rfl, f, q⟩ := h
  refine o _ _ ?_
  unfold leaving
  refine wpAny_bind (f.note I fr.st fr.fr I.ok.frames fun s2 f2 => ?_)
  refine f2.land (f2.frF I) fun s3 f3 => ?_
  exact ⟨a, C, H', rfl, f3.out I fr.ex, q⟩
/-- an exception is made here, and leaves -/
theorem OutTo.made {X : Cx} {E : XK} {pins : List (Addr × Obj)} {σ : St} {H : Hp} {s : Shared} {h' : Heap} {a C : Addr} {vs : List Value} (fr : Frm X) (o : OutTo X E) (I : Inv X pins σ H s) (m : Heap.MadeExcOf s.heap h' a (.ref C) vs) (q : E (.ref C) none H) :
    X.xe (.ref a) { s with heap := h' } := by
  refine o _ _ ?_
  obtain ⟨t, ha, htn, ht⟩ := m.there
  have J : Inv X pins σ H { s with heap := h' } := I.kept (t' := s.toks) m.keeps
  have fm : ∀ b ∈ frs X.stack, H b = none := J.stkFree
  unfold leaving
  have hl := J.stack
  have hfr := J.ok.frames
  rw [fr.st] at hl hfr
  have hn : H a = none := I.hok.none_of m.new
  have gone : ∀ b, h'.get? b = none → s.heap.get? b = none := fun b q => by
    cases z : s.heap.get? b with
    | none => rfl
    | some o => rw [m.keeps b o z] at q; cases q
  refine wpAny_bind (note0 (s := { s with heap := h' }) hfr hl fr.fr ha fun h2 T n1 n2 e mv => ?_)
  have hT : H T = none := J.hok.fresh n2
  have f : Fl X.prog X.w X.stack H s H a C (rawInt X.env.locals) { s with heap := h2 } := by
    have na : ∀ b o, s.heap.get? b = some o → b ≠ a := fun b o q z => by rw [z, m.new] at q; cases q
    have mv' : Mv (frs X.stack) a a h' h2 := by rw [fr.st]; exact mv
    refine ⟨rfl, J.bare, ⟨fun b o q n hb hx => mv'.keep b o (m.keeps b o q) hb (na b o q) (na b o q), fun b o q n hb hx => mv'.slot b o (m.keeps b o q) hb (na b o q) (na b o q), fun b o _ n _ => n, fun b o q _ => ?_, fun _ _ q => q, fun _ _ _ q => q, fun _ ps q => ⟨#[], by rw [q]; simp⟩⟩, ?_, hn, m.new, T, e, hT, gone T n1⟩
    · obtain ⟨sl, q2⟩ := mv'.any (m.keeps b o q) (na b o q) (na b o q)
      exact ⟨_, q2⟩
    · exact J.hok.keep fun b u o e q => mv'.keep b o q (fun z => by rw [fm b z] at e; cases e) (fun z => by rw [z, hn] at e; cases e) (fun z => by rw [z, hn] at e; cases e)
  refine f.land fm fun s3 f3 => ?_
  exact ⟨a, C, H, rfl, f3.out I fr.ex, q⟩
end L2

set_option Elab.async false
set_option linter.all false
set_option maxRecDepth 100000
set_option maxHeartbeats 4000000
/-! raise C('..'), and defs that raise. -/
namespace L2
open PySem PySem.Spec PyProof.Rows

/-- an own class below ValueError, as it stands in the fragment -/
abbrev mroVE : List Value := [.type "ValueError", .type "Exception", .type "BaseException", .type "object"]
def ExcK (K : PySem.W.Frag) (C : Addr) : Prop := PySem.W.excIn K C mroVE "ValueError.__new__" = true
theorem exc_obj {K : PySem.W.Frag} {h : Heap} {C : Addr} (X : K.In h) (q : ExcK K C) :
    ∃ bm N nm qn bs hdct sn sub ab col dd k0 k1 k2 k3 k5 mN, h.get? C = some (excClassObj nm qn C N bs bm hdct sn sub ab col dd k0 k1 k2 k3 k5 "ValueError.__new__") ∧ h.Ns N mN ∧ mN "__init__" = none ∧ OwnTail h mroVE bm := by
  unfold ExcK PySem.W.excIn at q
  split at q
  · rename_i dd cd sl ho
    split at q
    · rename_i C' bm k0 k1 k2 k3 n k5 hm hs
      simp only [Bool.and_eq_true, beq_iff_eq, Bool.not_eq_true'] at q
      obtain ⟨⟨⟨⟨⟨rfl, rfl⟩, hdel⟩, ht⟩, hok⟩, hni⟩ := q
      obtain ⟨nm, bs, mro, ns, qn, hd, sn, sub, ab, col, del⟩ := cd
      dsimp only at hm hdel hok hni
      subst hm hdel
      obtain ⟨l⟩ := sl
      dsimp only at hs
      subst hs
      exact ⟨bm, ns, nm, qn, bs, hd, sn, sub, ab, col, dd, k0, k1, k2, k3, k5, _, X _ _ ho, .of_isNs (PySem.W.isNs_of_in X hok), PySem.W.nsMap_none_of_in X hok hni, PySem.W.tail_of_in X ht⟩
    · cases q
  · cases q

def tRaise (E : XK) (C : Addr) (te : TE) : TS := fun _ σ H => te σ H fun _ H1 => E (.ref C) none H1
theorem ps_raise {X : Cx} {E : XK} {x : Str} {C : Addr} {e0 : Expr} {te : TE} {np cpos pos : Pos} (fr : Frm X) (o : OutTo X E) (hc : X.calm = true) (hg : Gl X x) (hm : X.mg x = some (.ref C)) (hK : ExcK X.K C) (he : PE X e0 te)
    (hpl : plainE e0 = true := by rfl) (hd : (x == ("__debug__" : Str)) = false := by decide) : PS X (.Raise (some (.Call (.Name x np) [e0] [] cpos)) none pos) (tRaise E C te) := by
  intro pins s σ H D I h
  obtain ⟨bm, N, nm, qn, bs, hdct, sn, sub, ab, col, dd, k0, k1, k2, k3, k5, mN, hC, hN, hni, T⟩ := exc_obj I.mod.kin hK
  have hs := star_cons (es := []) (env := X.env) hpl
  refine wpAny_Raise_call_subT (C := C) (nm := nm) (q := qn) (N := N) (bs := bs) (bm := bm) (hdct := hdct) (sn := sn) (sub := sub) (ab := ab) (col := col) (dd := dd) (k0 := k0) (k1 := k1) (k2 := k2) (k3 := k3) (k5 := k5)
    PySem.F.excBase_ValueError (mN := mN) (T.hasType (by decide)) (I.ok.hd hc) (by rw [hs]; rfl) hni (ld_glob I hg hm ⟨rfl, ?_⟩ hd)
  rw [hs]
  refine Calls.evalArgs_plain (Calls.spliced_cons (thn (he pins s σ H _ I h) fun v s2 ⟨y, H1, I1, r, q⟩ => ?_))
  exact Calls.spliced_nil ⟨rfl, (by show 1 ≤ sizeLine; decide), I1.bk _ _ hC, hN.keeps I1.bk, T.keeps I1.bk, fun h' e m => o.made fr I1 m q⟩

/-! ### a def that may raise -/
structure DefX (P : Program) (w : World) (K : PySem.W.Frag) (mg : Str → Option Value) (base : Heap) (k : Nat) (x : Str) (ps : List Str) (sp : Sp) : Prop where
  ex : ∃ (f : Addr) (fd : FuncData), FnOk P w K mg base (CX1 P w) k f fd ps sp ∧ mg x = some (.ref f) ∧ PySem.W.keepIn K (.ref f) = true ∧ Binds K fd ps []
section
variable {P : Program} {w : World} {K : PySem.W.Frag} {mg : Str → Option Value} {base : Heap} {x : Str} {st : Stmt} {ps N : List Str} {k j : Nat} {sp sp' : Sp}
theorem Src.okX (S : Src K mg x st ps) (F : FnScope N ps (defScope st)) (len : ∀ vs H Q E, sp vs H Q E → vs.length = ps.length)
    (hbody : ∀ (f : Addr) (cdv : Value) (A : Around) (outer : List Env) (s : Shared) (H : Hp) (vs : List V) (Q : VK) (E : XK), Room k (A.deeper (envOfC x (defScope st) s.heap.objs.size f cdv)) → sp vs H Q E →
      ∃ t, PSs (cxOf (CX1 P w) P w K mg base N x (defScope st) f cdv A outer s H E) (defBody st) t ∧ t { nx := fun _ H' => Q .non H', rt := Q } (start N vs) H) : DefX P w K mg base (k + 1) x ps sp := by
  obtain ⟨f, fd, F0, hm, hb⟩ := S.ex
  obtain ⟨oc, od, kV, doc, pm, an, cdv, ct, osl, rfl, lk, hcd⟩ := F0.ex
  exact ⟨f, _, fn_of lk hcd F len fun A outer s H vs Q E hr hsp => hbody f cdv A outer s H vs Q E hr hsp, hm, F0.kp, hb⟩
theorem DefX.mono (D : DefX P w K mg base j x ps sp) (h : j ≤ k) : DefX P w K mg base k x ps sp := by
  obtain ⟨f, fd, F, r⟩ := D.ex
  exact ⟨f, fd, F.mono h, r⟩
theorem DefX.imp (D : DefX P w K mg base k x ps sp) (h : ∀ vs H Q E, sp' vs H Q E → sp vs H Q E) : DefX P w K mg base k x ps sp' := by
  obtain ⟨f, fd, F, r⟩ := D.ex
  exact ⟨f, fd, F.imp h, r⟩
theorem frm_cx {CX : CXT} {s : Shared} {H : Hp} {E : XK} {f : Addr} {cdv : Value} {A : Around} {outer : List Env} {sc : Scope} : Frm (cxOf CX P w K mg base N x sc f cdv A outer s H E) := ⟨rfl, rfl, rfl⟩
theorem out_cx {s : Shared} {H : Hp} {E : XK} {f : Addr} {cdv : Value} {A : Around} {outer : List Env} {sc : Scope} : OutTo (cxOf (CX1 P w) P w K mg base N x sc f cdv A outer s H E) E := fun _ _ h => h
end
def tDefX (sp : Sp) (E : XK) (t : TA) : TE := fun σ H Q => t σ H fun vs H1 => sp vs H1 Q E
theorem pe_defX {X : Cx} {k : Nat} {x : Str} {ps : List Str} {sp : Sp} {E : XK} {p pos : Pos} {e : Expr} {es : List Expr} {t : TA} (D : DefX X.prog X.w X.K X.mg X.base k x ps sp) (hr : Room k X.A) (hp : Passes (CX1 X.prog X.w) X E) (hg : Gl X x) (ha : PA X (e :: es) t)
    (hdb : (x == ("__debug__" : Str)) = false := by decide) (hpl : (e :: es).all plainE = true := by rfl) : PE X (.Call (.Name x p) (e :: es) [] pos) (tDefX sp E t) := by
  obtain ⟨f, fd, F, hm, hk, hb⟩ := D.ex
  intro pins s σ H Q I h
  rw [List.all_cons, Bool.and_eq_true] at hpl
  have q := pe_call (p := p) (pos := pos) F hr hg hm hk hb .nil hp ha hdb (star_cons hpl.1) (star_all hpl.2) pins s σ H Q I
  refine q ?_
  have e2 : tCall sp [] E t = tDefX sp E t := by
    funext σ H Q
    unfold tCall tDefX
    simp only [List.append_nil]
  rw [e2]
  exact h
end L2

set_option Elab.async false
set_option linter.all false
set_option maxRecDepth 100000
set_option maxHeartbeats 4000000
/-! try .. except C as n, and defs that are called while an exception is handled. -/
namespace L2
open PySem PySem.Spec PyProof.Rows

theorem Cx.Ok.pnx {X : Cx} (ok : X.Ok) (pl : List (Addr × Obj)) (E : Value → Shared → Prop) : Cx.Ok { X with pn := pl, xe := E } :=
  ⟨ok.mod, ok.kind, ok.glob, ok.blt, ok.above, ok.inj, ok.has, ok.cab, ok.hd, ok.frames, ok.stk, ok.exf, ok.bs, ok.bsz, ok.noex, ok.exfs, ok.funs, ok.frf⟩
/-- a try's body: exceptions wanted as E1, the records at pn as they are -/
abbrev Cx.tr (X : Cx) (pn : List (Addr × Obj)) (E1 : XK) : Cx := { X with pn := pn, xe := fun e s' => ∃ σ H s, Inv { X with pn := pn } [] σ H s ∧ CX1 X.prog X.w X.stack H s E1 e s' }
/-- a handler's suite (or a def that it calls): the exception at a is handled, its object pinned -/
abbrev Cx.hn (X : Cx) (pn : List (Addr × Obj)) (a : Addr) : Cx := { X with A := X.A.mark (some (.ref a)), calm := false, pn := pn, xe := fun _ _ => False }
structure Hd (X : Cx) (a C : Addr) : Prop where
  hd : X.A.handled = some (.ref a)
  pn : ∃ t tb, (a, exo C t tb) ∈ X.pn

section
variable {X : Cx} {pins pn : List (Addr × Obj)} {σ : St} {H H' : Hp} {s s' : Shared} {a C : Addr}
/-- pins of the statement become the context's -/
theorem Inv.toPn (I : Inv X pins σ H s) (E : Value → Shared → Prop) : Inv { X with pn := X.pn ++ pins, xe := E } [] σ H s :=
  ⟨I.ok.pnx _ _, I.os, I.bare, I.base, I.loc, I.cell, I.free, I.freeC, fun p hp => I.pin p (by simpa using hp), I.hok, I.len⟩
theorem Inv.ofPn {E : Value → Shared → Prop} (ok : X.Ok) (I : Inv { X with pn := X.pn ++ pins, xe := E } [] σ H s) : Inv X pins σ H s :=
  ⟨ok, I.os, I.bare, I.base, I.loc, I.cell, I.free, I.freeC, fun p hp => I.pin p (by simpa using hp), I.hok, I.len⟩
theorem Inv.toHn {oe : Obj} (I : Inv { X with pn := pn } [] σ H s) (ho : s.heap.get? a = some oe) (hn : H a = none) (hl : a ≠ X.env.locals) (hf : a ∉ X.fs) (hc : ∀ v, oe.data ≠ .cell v) : Inv (X.hn ((a, oe) :: pn) a) [] σ H s := by
  refine ⟨⟨I.ok.mod, I.ok.kind, I.ok.glob, I.ok.blt, I.ok.above, I.ok.inj, I.ok.has, I.ok.cab, fun z => (Bool.false_ne_true z).elim, I.ok.frames, I.ok.stk, I.ok.exf, I.ok.bs, I.ok.bsz, I.ok.noex, I.ok.exfs, I.ok.funs, I.ok.frf⟩, I.os, I.bare, I.base, I.loc, I.cell, I.free, I.freeC, fun p hp => ?_, I.hok, I.len⟩
  have hp' : p ∈ (a, oe) :: pn := by simpa using hp
  rcases List.mem_cons.mp hp' with rfl | hp'
  · exact ⟨ho, hn, hl, hf, hc⟩
  · exact I.pin p (by simpa using hp')
theorem Inv.ofHn {oe : Obj} (ok : Cx.Ok { X with pn := pn }) (I : Inv (X.hn ((a, oe) :: pn) a) [] σ H s) : Inv { X with pn := pn } [] σ H s :=
  ⟨ok, I.os, I.bare, I.base, I.loc, I.cell, I.free, I.freeC, fun p hp => I.pin p (by
    have hp' : p ∈ pn := by simpa using hp
    simpa using Or.inr hp'), I.hok, I.len⟩
/-- the name behind the suite goes -/
theorem Inv.goes {i : Nat} {n : Str} {h' : Heap} {v : Option Value} {m : Str → Option Value} {tk : Nat} (I : Inv X pins σ H s) (hN : X.N.Nodup) (hi : X.N[i]? = some n) (hl : X.env.kindOf n = some .local) (hn : s.heap.Ns X.env.locals m)
    (hn' : h'.Ns X.env.locals (fun x => if x = n then v else m x)) (hs : Heap.SameBut X.env.locals s.heap h') : Inv X pins (σ.set i none) H { s with heap := h', toks := tk } := by
  obtain ⟨m1, hm1, hl1⟩ := id I.loc
  have e1 : m1 = m := by
    funext x
    obtain ⟨o, es, ep, ho, hd, _, hf⟩ := hm1
    obtain ⟨o', es', ep', ho', hd', _, hf'⟩ := hn
    rw [ho] at ho'; cases ho'
    rw [hd] at hd'; cases hd'
    rw [← hf, ← hf']
  subst e1
  have ln : ∀ {b : Addr} {o : Obj}, X.s₀.heap.get? b = some o → b ≠ X.env.locals := fun q => Nat.ne_of_lt (Nat.lt_of_lt_of_le (Heap.lt_size q) I.ok.above)
  refine ⟨I.ok, I.os, I.bare, ⟨fun b o q n hb hx => (hs.2 b (ln q)).trans (I.base.keep b o q n hb hx), fun b o q n hb hx => ?_, I.base.free, fun b o q hx => ?_, I.base.tups, I.base.frzs, I.base.tbls⟩, ⟨_, hn', fun j y v' q1 q2 q3 => ?_⟩, fun y c q => ?_, I.free, I.freeC, fun p hp => ?_, I.hok.keep fun b u o q z => ?_, by simpa using I.len⟩
  · obtain ⟨sl, z⟩ := I.base.slot b o q n hb hx
    exact ⟨sl, (hs.2 b (ln q)).trans z⟩
  · obtain ⟨o', z⟩ := I.base.there b o q hx
    exact ⟨o', (hs.2 b (ln q)).trans z⟩
  · by_cases hj : j = i
    · subst hj
      rw [List.getElem?_set] at q2
      split at q2
      · split at q2 <;> cases q2
      · exact absurd rfl (by assumption)
    · rw [List.getElem?_set_ne (Ne.symm hj)] at q2
      obtain ⟨u, r, z⟩ := hl1 j y v' q1 q2 q3
      refine ⟨u, r, ?_⟩
      rcases z with ⟨k, z⟩ | ⟨k, c, z1, z2⟩
      · have : y ≠ n := fun z => hj (nodup_ix hN q1 (z ▸ hi))
        exact .inl ⟨k, by simp [this, z]⟩
      · exact .inr ⟨k, c, z1, z2.sameBut hs (I.cne y c z1)⟩
  · obtain ⟨v', z⟩ := I.cell y c q
    exact ⟨v', z.sameBut hs (I.cne y c q)⟩
  · obtain ⟨z1, z2, z3, z4, z5⟩ := I.pin p hp
    exact ⟨(hs.2 p.1 z3).trans z1, z2, z3, z4, z5⟩
  · exact (hs.2 b (fun y => by rw [y, I.free] at q; cases q)).trans z
end

/-- the class at R catches what is of the class at C -/
structure HitK (K : PySem.W.Frag) (R : Addr) : Prop where
  ty : PySem.W.typeIn K (.ref R) = some (.type "type")
  cl : (PySem.W.clsIn K R).isSome = true
  ba : PySem.W.subIn K (.ref R) (.type "BaseException") = some true
theorem isType_in {K : PySem.W.Frag} {M : Model} {h : Heap} {R : Addr} (X : K.In h) (q : (PySem.W.clsIn K R).isSome = true) : PySem.W.Looks M h (isType (.ref R)) true := by
  unfold PySem.W.clsIn at q
  split at q
  · rename_i c' d' cd' sl' ho
    intro A' Q' E' s' k z
    unfold isType loadHead
    exact wpAny_bind (wpAny_loadPart (k _ _ (X _ _ ho)) (wpAny_pure z))
  · cases q
theorem exc_hit {K : PySem.W.Frag} {M : Model} {A : Around} {E : Value → Shared → Prop} {Q : Bool → Shared → Prop} {s : Shared} {a C R : Addr} {oe : Obj} (X : K.In s.heap) (hR : HitK K R) (ha : s.heap.get? a = some oe) (hc : oe.cls = .ref C)
    (h4 : PySem.W.subIn K (.ref C) (.ref R) = some true) (q : Q true s) : wpAny M A (excMatches (.ref a) (.ref R)) Q E s := by
  obtain ⟨h, g, d, tk, os⟩ := s
  have L1 : PySem.W.Looks M h (typeOf (.ref R)) (.type "type") := PySem.W.looks_typeIn X hR.ty
  have L2 : PySem.W.Looks M h (isSubtype (.ref R) (.type "BaseException")) true := PySem.W.looks_subIn X hR.ba
  have L3 : PySem.W.Looks M h (isType (.ref R)) true := isType_in X hR.cl
  have L4 : PySem.W.Looks M h (isSubtype (.ref C) (.ref R)) true := PySem.W.looks_subIn X h4
  have L5 : PySem.W.Looks M h (typeOf (.ref a)) (.ref C) := hc ▸ (PySem.W.Looks.ld ha).andThen .now
  have L6 : PySem.W.Looks M h (isInstance (.ref R) (.type "tuple")) false := L1.andThen (PySem.W.Looks.of_pure tc_notTuple)
  have L7 : PySem.W.Looks M h (isExcClass (.ref R)) true := L3.andThen L2
  unfold excMatches
  refine wpAny_bind (L6.at ?_)
  dsimp only
  rw [if_neg (by decide)]
  refine wpAny_bind (wpAny_pure ?_)
  refine wpAny_bind ?_
  rw [List.forIn_cons]
  refine wpAny_bind (wpAny_bind (L7.at ?_))
  rw [if_neg (by decide)]
  refine wpAny_pure ?_
  dsimp only
  rw [List.forIn_nil]
  refine wpAny_pure ?_
  refine wpAny_bind (L5.at ?_)
  refine wpAny_bind ?_
  rw [List.forIn_cons]
  refine wpAny_bind (wpAny_bind (L4.at ?_))
  rw [if_pos rfl]
  refine wpAny_pure ?_
  dsimp only
  exact wpAny_pure (wpAny_pure q)
end L2

set_option Elab.async false
set_option linter.all false
set_option maxRecDepth 100000
set_option maxHeartbeats 4000000
/-! Sets of texts: made from a list, told in rising order. -/
namespace L2
open PySem PySem.Spec PyProof.Rows

def keyT (e : Int × Value) : Str := strOf e.2
/-- the set at a holds just these texts; where its order is by its table, that table is led -/
def SetS (P : Program) (w : World) (h : Heap) (a : Addr) (ws : List Str) : Prop :=
  ∃ (o : Obj) (es : Array (Int × Value)) (ep : Nat) (t : SetTable), h.get? a = some o ∧ o.ExactSet ∧ o.data = .set es ep t ∧ ElemsOf (PySem.strKind P w) es.toList ∧ (es.toList.map keyT).Perm ws ∧ ws.Nodup ∧
    es.size < scanBound ∧ t.fits es.size = true ∧ (w.params.followText "set-order" = false → t.led = true ∧ (es.size ≠ 0 → t.plain = false))
def insT (ws : List Str) (x : Str) : List Str := if x ∈ ws then ws else ws ++ [x]
theorem stand_led (t : SetTable) (n : Nat) : (t.orStandIn n).led = t.led := by
  unfold SetTable.orStandIn
  split <;> rfl
theorem layNew_led (t : SetTable) (es : Array (Int × Value)) (h : Int) (x : Value) : (layNew t es h x).2.1.led = t.led := by
  unfold layNew
  split
  · dsimp only; rw [stand_led]; rfl
  · rfl
theorem relaid_led {t t' : SetTable} {hs : Array Int} {n : Nat} {os : Array Nat} (h : t.relaid hs n = some (t', os)) : t'.led = t.led ∧ t'.plain = t.plain := by
  unfold SetTable.relaid SetTable.laid at h
  cases hc : SetTable.layClean (SetTable.sizeAbove n - 1) hs with
  | none => rw [hc] at h; cases h
  | some ow =>
    rw [hc] at h
    cases h
    exact ⟨rfl, rfl⟩
theorem relay_led (t : SetTable) (es : Array (Int × Value)) (n : Nat) : (relayAll t es n).2.1.led = t.led ∧ (t.plain = false → (relayAll t es n).2.1.plain = false) := by
  unfold relayAll
  split
  · rename_i t' os e
    have := relaid_led e
    dsimp only
    split
    · exact ⟨this.1, fun h => this.2.trans h⟩
    · exact ⟨rfl, fun _ => rfl⟩
  · exact ⟨rfl, fun _ => rfl⟩
theorem key_of {P : Program} {w : World} {es : List (Int × Value)} (hel : ElemsOf (PySem.strKind P w) es) {e : Int × Value} (he : e ∈ es) : ∃ t, e.2 = .str (keyT e) t := by
  obtain ⟨⟨k, hk, _⟩, _⟩ := hel e he
  obtain ⟨t, ht⟩ := Value.isStrOf_shape hk
  exact ⟨t, by unfold keyT; rw [ht]; rfl⟩
theorem found_iff {P : Program} {w : World} {es : List (Int × Value)} (hel : ElemsOf (PySem.strKind P w) es) (x : Str) : (∃ e ∈ es, (PySem.strKind P w).is x e.2 = true) ↔ x ∈ es.map keyT := by
  constructor
  · rintro ⟨e, he, hp⟩
    obtain ⟨t, ht⟩ := Value.isStrOf_shape hp
    refine List.mem_map.mpr ⟨e, he, ?_⟩
    unfold keyT; rw [ht]; rfl
  · intro h
    obtain ⟨e, he, rfl⟩ := List.mem_map.mp h
    obtain ⟨t, ht⟩ := key_of hel he
    exact ⟨e, he, by rw [ht]; exact strKind_is P w _ t⟩
section
variable {P : Program} {w : World} {A : Around} {E : Value → Shared → Prop} {s : Shared}
theorem stored {a : Addr} {o : Obj} {es es1 : Array (Int × Value)} {ep : Nat} {t t1 : SetTable} {ws : List Str} (ho : s.heap.get? a = some o) (hex : o.ExactSet) (hd : o.data = .set es ep t)
    (hel : ElemsOf (PySem.strKind P w) es1.toList) (hp : (es1.toList.map keyT).Perm ws) (nd : ws.Nodup) (hb : es1.size < scanBound) (hf : t1.fits es1.size = true)
    (hl : w.params.followText "set-order" = false → t1.led = true ∧ (es1.size ≠ 0 → t1.plain = false)) :
    (s.heap.update a (Obj.putSet es1 t1)).get? a = some { o with data := .set es1 (ep + 1) t1 } ∧ SetS P w (s.heap.update a (Obj.putSet es1 t1)) a ws := by
  have hg : (s.heap.update a (Obj.putSet es1 t1)).get? a = some { o with data := .set es1 (ep + 1) t1 } := by
    have q := Heap.get?_update_self (Obj.putSet es1 t1) ho (by rw [putSet_of es1 t1 hd]; rfl)
    rw [putSet_of es1 t1 hd] at q
    exact q
  exact ⟨hg, _, es1, ep + 1, t1, hg, hex, rfl, hel, hp, nd, hb, hf, hl⟩
/-- one text more -/
theorem add_text {a : Addr} {ws : List Str} {x : Str} {tk : Tok} {Q : Bool → Shared → Prop} (hS : SetS P w s.heap a ws) (hroom : ws.length + 1 < scanBound)
    (h : ∀ (b : Bool) (h' : Heap), Heap.SameBut a s.heap h' → SetS P w h' a (insT ws x) → Q b { s with heap := h' }) : wpAny (model P w) A (setAddHashed a (.str x tk) ((PySem.strKind P w).hash x)) Q E s := by
  obtain ⟨o, es, ep, t, ho, hex, hd, hel, hperm, nd, hb, hf, hled⟩ := hS
  have hkey := strKind_is P w x tk
  have hlen : es.size = ws.length := by rw [← hperm.length_eq, List.length_map, Array.length_toList]
  unfold setAddHashed setAddHashedIn
  refine wpAny_holding (wpAny_bind (wpAny_setState_of ho hd hf ?_))
  dsimp only
  rw [byScan_of (x := .str x tk) rfl hb hel]
  simp only [↓reduceIte]
  unfold setAddByScan
  refine wpAny_bind (wpAny_bind (wpAny_rule (wpAny_bind (wpAny_setScan_of hkey ho hd hf hel ?_))))
  cases hr : List.findIdx? (fun e => (PySem.strKind P w).is x e.2) es.toList with
  | some j =>
    dsimp only
    obtain ⟨hj, hpj, _⟩ := List.findIdx?_eq_some_iff_getElem.mp hr
    have hx : x ∈ ws := hperm.mem_iff.mp ((found_iff hel x).mp ⟨_, List.getElem_mem hj, hpj⟩)
    refine wpAny_pure (wpAny_pure ?_)
    have q := h false s.heap (Heap.SameBut.refl a s.heap) ⟨o, es, ep, t, ho, hex, hd, hel, by unfold insT; rw [if_pos hx]; exact hperm, by unfold insT; rw [if_pos hx]; exact nd, hb, hf, hled⟩
    exact q
  | none =>
    dsimp only
    have hx : x ∉ ws := fun hx => by
      obtain ⟨e, he, hp⟩ := (found_iff hel x).mpr (hperm.mem_iff.mpr hx)
      have := List.findIdx?_eq_none_iff.mp hr e he
      rw [hp] at this
      cases this
    have ei : insT ws x = ws ++ [x] := by unfold insT; rw [if_neg hx]
    rw [ei] at h
    have nd' : (ws ++ [x]).Nodup := List.nodup_append.mpr ⟨nd, by simp, fun y hy z hz => by
      rw [List.mem_singleton] at hz
      subst hz
      exact fun e => hx (e ▸ hy)⟩
    have hp1 := layNew_perm t es ((PySem.strKind P w).hash x) (.str x tk)
    have hf1 := layNew_fits t es ((PySem.strKind P w).hash x) (.str x tk)
    have hl1 := layNew_led t es ((PySem.strKind P w).hash x) (.str x tk)
    generalize layNew t es ((PySem.strKind P w).hash x) (.str x tk) = L at hp1 hf1 hl1 ⊢
    obtain ⟨es1, t1, wasDummy, gave⟩ := L
    dsimp only at hp1 hf1 hl1 ⊢
    rw [Array.toList_push] at hp1
    have hel1 : ElemsOf (PySem.strKind P w) es1.toList := (hel.push hkey rfl).perm hp1
    have hperm1 : (es1.toList.map keyT).Perm (ws ++ [x]) := (hp1.map keyT).trans (by rw [List.map_append]; exact hperm.append (List.Perm.refl _))
    have hsz1 : es1.size = ws.length + 1 := by rw [← Array.length_toList, ← List.length_map (f := keyT), hperm1.length_eq, List.length_append]; rfl
    have hb1 : es1.size < scanBound := by omega
    have gw : ∀ (b : Bool) {s₁ : Shared} {Q' : Unit → Shared → Prop}, Q' () s₁ → wpAny (model P w) A (match b with | true => rule "set.scan.the-table-gave-way" | false => pure ()) Q' E s₁ := fun b s₁ Q' hq => by
      cases b
      · exact wpAny_pure hq
      · exact wpAny_rule hq
    refine wpAny_bind (gw _ ?_)
    -- behind the place: the table is no plain one
    have tail : ∀ t2 : SetTable, t2.fits es1.size = true → t2.led = t.led → t2.plain = false → wpAny (model P w) A (do
        storeSet a es1 t2
        if (!wasDummy && t2.tooFull) = true then do
            (match (relayAll t2 es1 (SetTable.grown es1.size)).2.2 with | true => rule "set.scan.the-table-gave-way" | false => pure ())
            storeSet a (relayAll t2 es1 (SetTable.grown es1.size)).1 (relayAll t2 es1 (SetTable.grown es1.size)).2.1
            pure (some true)
          else pure (some true)) (fun r s' => ∃ h', r = some true ∧ s' = { s with heap := h' } ∧ Heap.SameBut a s.heap h' ∧ SetS P w h' a (ws ++ [x])) E s := by
      intro t2 hf2 hl2 hp2
      refine wpAny_bind (wpAny_storeSet_of ho hd ?_ (fits_of_scanBound hb1))
      obtain ⟨ho1, hS1⟩ := stored (P := P) (w := w) ho hex hd hel1 hperm1 nd' hb1 hf2 fun z => ⟨hl2.trans (hled z).1, fun _ => hp2⟩
      have sb1 := Heap.SameBut.update s.heap a (Obj.putSet es1 t2)
      split
      · have hpr := relayAll_perm t2 es1 (SetTable.grown es1.size)
        have hfr := relayAll_fits t2 es1 (SetTable.grown es1.size)
        have hlr := relay_led t2 es1 (SetTable.grown es1.size)
        generalize relayAll t2 es1 (SetTable.grown es1.size) = R at hpr hfr hlr ⊢
        obtain ⟨es2, t3, gave2⟩ := R
        dsimp only at hpr hfr hlr ⊢
        have hsz : es2.size = es1.size := by rw [← Array.length_toList, hpr.length_eq, Array.length_toList]
        have hb2 : es2.size < scanBound := by omega
        refine wpAny_bind (gw _ ?_)
        refine wpAny_bind (wpAny_storeSet_of ho1 rfl ?_ (fits_of_scanBound hb2))
        obtain ⟨_, hS2⟩ := stored (P := P) (w := w) (s := { s with heap := s.heap.update a (Obj.putSet es1 t2) }) ho1 hex rfl (hel1.perm hpr) ((hpr.map keyT).trans hperm1) nd' hb2 hfr fun z => ⟨hlr.1.trans (hl2.trans (hled z).1), fun _ => hlr.2 hp2⟩
        exact wpAny_pure ⟨_, rfl, rfl, sb1.trans (Heap.SameBut.update _ a _), hS2⟩
      · exact wpAny_pure ⟨_, rfl, rfl, sb1, hS1⟩
    have fin : ∀ (r : Option Bool) (s' : Shared), (∃ h', r = some true ∧ s' = { s with heap := h' } ∧ Heap.SameBut a s.heap h' ∧ SetS P w h' a (ws ++ [x])) → ∃ h', r = some true ∧ s' = { s with heap := h' } ∧ Q true { s with heap := h' } := fun r s' ⟨h', e1, e2, e3, e4⟩ => ⟨h', e1, e2, h true h' e3 e4⟩
    split
    · refine wpAny_bind ?_
      rw [hashByValue_scannable 8 (x := .str x tk) rfl]
      refine wpAny_pure (wpAny_mono (tail { t1 with plain := false } (SetTable.fits_plain_off hf1) hl1 rfl) (fun r s' z => ?_) fun _ _ e => e)
      obtain ⟨h', rfl, rfl, q⟩ := fin r s' z
      exact wpAny_pure q
    · rename_i hpl
      refine wpAny_bind (wpAny_pure ?_)
      refine wpAny_mono (tail t1 hf1 hl1 (Bool.eq_false_iff.mpr hpl)) (fun r s' z => ?_) fun _ _ e => e
      obtain ⟨h', rfl, rfl, q⟩ := fin r s' z
      exact wpAny_pure q
end
end L2

set_option Elab.async false
set_option linter.all false
set_option maxRecDepth 100000
set_option maxHeartbeats 4000000
namespace L2
open PySem PySem.Spec PyProof.Rows
def foldT (l : List Str) : List Str := l.foldl insT []
theorem foldT_snoc (l : List Str) (x : Str) : foldT (l ++ [x]) = insT (foldT l) x := by unfold foldT; rw [List.foldl_append]; rfl
theorem insT_nodup {ws : List Str} (h : ws.Nodup) (x : Str) : (insT ws x).Nodup := by
  unfold insT
  split
  · exact h
  · rename_i hx
    exact List.nodup_append.mpr ⟨h, by simp, fun y hy z hz => by
      rw [List.mem_singleton] at hz
      subst hz
      exact fun e => hx (e ▸ hy)⟩
theorem insT_mem {ws : List Str} {x y : Str} : y ∈ insT ws x ↔ y ∈ ws ∨ y = x := by
  unfold insT
  split
  · rename_i hx
    exact ⟨.inl, fun h => h.elim id fun e => e ▸ hx⟩
  · rw [List.mem_append, List.mem_singleton]
theorem foldT_facts (l : List Str) : (foldT l).Nodup ∧ ∀ y, y ∈ foldT l ↔ y ∈ l := by
  suffices h : ∀ (l : List Str) (ws : List Str), ws.Nodup → (l.foldl insT ws).Nodup ∧ ∀ y, y ∈ l.foldl insT ws ↔ y ∈ ws ∨ y ∈ l by
    obtain ⟨a, b⟩ := h l [] List.nodup_nil
    exact ⟨a, fun y => (b y).trans (by simp)⟩
  intro l
  induction l with
  | nil => intro ws h; exact ⟨h, fun y => by simp⟩
  | cons x r ih =>
    intro ws h
    obtain ⟨a, b⟩ := ih (insT ws x) (insT_nodup h x)
    exact ⟨a, fun y => (b y).trans (by rw [insT_mem, List.mem_cons, or_assoc])⟩
theorem SetS.at {P : Program} {w : World} {h h' : Heap} {a : Addr} {ws : List Str} (H : SetS P w h a ws) (k : ∀ o, h.get? a = some o → h'.get? a = some o) : SetS P w h' a ws := by
  obtain ⟨o, es, ep, t, ho, r⟩ := H
  exact ⟨o, es, ep, t, k o ho, r⟩
section
variable {P : Program} {w : World} {A : Around} {E : Value → Shared → Prop}
/-- all texts of the walk go into the set -/
theorem fill_loop {R : Result → Shared → Prop} {I S l : Addr} {its : Array Value} {xs : List Str} (W : Walks P w A.in1 I [I, l] [I] its.size (fun i v => its[i]? = some v) (fun i h => h.IsListIter I l i ∧ h.IsList l its)) (hSI : S ≠ I) (hSl : S ≠ l)
    (hx : ∀ (i : Nat) (v : Value), its[i]? = some v → ∃ x t, xs[i]? = some x ∧ v = .str x t) (hn : xs.length = its.size) (hb : ∀ i, (foldT (xs.take i)).length + 1 < scanBound) :
    ∀ (k i : Nat) (s : Shared), its.size - i = k → i ≤ its.size → s.heap.IsListIter I l i ∧ s.heap.IsList l its → SetS P w s.heap S (foldT (xs.take i)) →
      (∀ (h' : Heap) (tk : Nat), (∀ b o, b ≠ S → b ≠ I → s.heap.get? b = some o → h'.get? b = some o) → SetS P w h' S (foldT xs) → R (.ok (.ret .none)) { s with heap := h', toks := tk }) →
      codeAny (model P w) A (.builtin "set.update.loop" ⟨[.ref S, .ref I], []⟩) R s := by
  intro k
  induction k with
  | zero =>
    intro i s hk hi st hS q
    obtain rfl : i = its.size := by omega
    refine codeAny_builtin F.entry_set_update_loop ?_
    rw [Around.under_plainId F.plain_set_update_loop _]
    show wpAny _ A.in1 (pyNext (.ref I) >>= _) _ _ s
    refine wpAny_bind (W.done s _ _ st fun h' tk kp => ?_)
    show wpAny _ A.in1 (ret Value.none) _ _ _
    have e : foldT (xs.take its.size) = foldT xs := by rw [← hn, List.take_length]
    exact wpAny_pure (q h' tk (fun b o _ hbI g => kp b o (by simp [hbI]) g) (e ▸ hS.at fun o g => kp S o (by simp [hSI]) g))
  | succ k ih =>
    intro i s hk hi st hS q
    have hlt : i < its.size := by omega
    refine codeAny_builtin F.entry_set_update_loop ?_
    rw [Around.under_plainId F.plain_set_update_loop _]
    show wpAny _ A.in1 (pyNext (.ref I) >>= _) _ _ s
    refine wpAny_bind (W.item i s _ _ hlt st fun v h' tk hv st' kp => ?_)
    obtain ⟨x, t, hxi, rfl⟩ := hx i v hv
    have hS' : SetS P w h' S (foldT (xs.take i)) := hS.at fun o g => kp S o (by simp [hSI]) g
    show wpAny _ A.in1 (holding [Value.str x t] (setAdd S (.str x t)) >>= _) _ _ _
    refine wpAny_bind (wpAny_holding ?_)
    unfold setAdd
    refine wpAny_holding (wpAny_bind ((PySem.strKind P w).pyHash (k := x) (strKind_is _ _ _ _) ?_))
    refine add_text (s := { s with heap := h', toks := tk + 1 }) hS' (hb i) fun b h2 sb hS2 => ?_
    have e : foldT (xs.take (i + 1)) = insT (foldT (xs.take i)) x := by rw [List.take_add_one, hxi]; exact foldT_snoc _ _
    refine wpAny_pure ⟨plainId_quiet F.plain_set_update_loop _, ih (i + 1) _ (by omega) hlt (W.frame _ _ _ st' fun c hc o g => ?_) (e ▸ hS2) fun h3 tk3 kp3 hS3 => ?_⟩
    · rw [sb.2 c (by
        simp only [List.mem_cons, List.not_mem_nil, or_false] at hc
        rcases hc with rfl | rfl
        · exact Ne.symm hSI
        · exact Ne.symm hSl)]
      exact g
    · refine q h3 tk3 (fun c o hcS hcI g => kp3 c o hcS hcI ?_) hS3
      show h2.get? c = some o
      rw [sb.2 c hcS]
      exact kp c o (by simp [hcI]) g
/-- the new set, its table led where its order is by the table -/
theorem new_led (a : Value) {s : Shared} {Q₁ : Value → Shared → Prop}
    (h : Q₁ (.ref s.heap.objs.size) { s with heap := s.heap.push { cls := .type "set", dict := none, data := .set #[] 0 (.fresh 0 0 (!w.params.followText "set-order")) } }) :
    codeAny (model P w) A (.call (.builtin "set.__new__") ⟨[.type "set", a], []⟩) (wants Q₁ E) s := by
  refine codeAny_of_tree ?_
  show wpAny _ A.in1 (do checkBuiltinCall "set.__new__" ⟨[.type "set", a], []⟩; again (.builtin "set.__new__" ⟨[.type "set", a], []⟩)) _ _ s
  refine wpAny_bind (wpAny_of_eq (F.newCall_set_1 a) (wpAny_pure ⟨plainId_quiet F.plain_set_new _, codeAny_builtin F.entry_set_new ?_⟩))
  rw [Around.under_plainId F.plain_set_new _]
  unfold Builtin.«set.__new__» Builtin.Frozenset.newClass
  have hsub := sub_set_self
  obtain ⟨hp, g, d, tk, os⟩ := s
  dsimp only
  wp_walk
  refine wpAny_askSetting (wpAny_pure ?_)
  dsimp only
  simp only [newObj]
  refine wpAny_bind (wpAny_alloc (wpAny_pure ?_))
  exact wpAny_pure h
end
end L2

set_option Elab.async false
set_option linter.all false
set_option maxRecDepth 100000
set_option maxHeartbeats 4000000
namespace L2
open PySem PySem.Spec PyProof.Rows
section
variable {P : Program} {w : World} {A : Around} {E : Value → Shared → Prop} {s : Shared}
/-- set(x): the new set, then what fills it -/
theorem set_call {x : Value} {Q : Value → Shared → Prop}
    (hnext : wpAny (model P w) A.in1.in1 (Builtin.«set.__init__» ⟨[.ref s.heap.objs.size, x], []⟩)
        (fun fin s' => match fin with | .done f => wants (fun r s₂ => r = .none ∧ Q (.ref s.heap.objs.size) s₂) E (.ok f) s' | .again c' => c'.quiet = true ∧ codeAny (model P w) A.in1 c' (wants (fun r s₂ => r = .none ∧ Q (.ref s.heap.objs.size) s₂) E) s')
        (fun e s' => wants (fun r s₂ => r = .none ∧ Q (.ref s.heap.objs.size) s₂) E (.error e) s') { s with heap := s.heap.push { cls := .type "set", dict := none, data := .set #[] 0 (.fresh 0 0 (!w.params.followText "set-order")) } }) :
    wpAny (model P w) A (call (.type "set") [x]) Q E s := by
  have ft := F.called_set
  obtain ⟨c, tl, hmro⟩ := ft.mro; have hmade := ft.made; have hsub := ft.sub; have h1 := ft.notType; have h2 := ft.canCreate; have hct := F.typeCall_set_1 x
  refine wpAny_call (codeAny_of_tree (show wpAny _ _ (callAny (.type "set") _) _ _ _ from wpAny_pure ⟨Code.quiet_builtin _ (by decide +kernel), codeAny_builtin F.entry_type_call ?_⟩))
  rw [Around.under_plain (weight_type_call_type "set" [x] []) rfl]
  repeat (any_goals (first | assumption | wp_step))
  refine codeAny_mono (new_led (P := P) (w := w) x (E := E) (Q₁ := fun obj s₁ => obj = .ref s.heap.objs.size ∧ s₁ = { s with heap := s.heap.push { cls := .type "set", dict := none, data := .set #[] 0 (.fresh 0 0 (!w.params.followText "set-order")) } }) ⟨rfl, rfl⟩) fun r s₁ hr => ?_
  match r, hr with
  | .error e, hr => exact hr
  | .ok (.ret obj), hr =>
    obtain ⟨rfl, rfl⟩ := hr
    have hT : Shared.TypeIs { s with heap := s.heap.push { cls := .type "set", dict := none, data := .set #[] 0 (.fresh 0 0 (!w.params.followText "set-order")) } } (.ref s.heap.objs.size) "set" := ⟨_, Heap.get?_push_size _ rfl, rfl⟩
    have hli := ft.init.lookup; have hbi := ft.init.bind (.ref s.heap.objs.size)
    repeat (any_goals (first | assumption | wp_step))
    refine codeAny_mono (codeAny_call_builtin ft.init.plain F.entry_set_init (check_set_init_1 hT hnext)) fun r₂ s₂ hr₂ => ?_
    match r₂, hr₂ with
    | .error e, hr₂ => exact hr₂
    | .ok (.ret u), hr₂ =>
      obtain ⟨rfl, hq⟩ := hr₂
      repeat (any_goals (first | assumption | wp_step))
    | .ok .next, hr₂ => exact hr₂.elim
    | .ok .brk, hr₂ => exact hr₂.elim
    | .ok .cont, hr₂ => exact hr₂.elim
  | .ok .next, hr => exact hr.elim
  | .ok .brk, hr => exact hr.elim
  | .ok .cont, hr => exact hr.elim
end
end L2

set_option Elab.async false
set_option linter.all false
set_option maxRecDepth 100000
set_option maxHeartbeats 4000000
namespace L2
open PySem PySem.Spec PyProof.Rows
section
variable {P : Program} {w : World} {A : Around} {E : Value → Shared → Prop} {s : Shared}
/-- set(a list of texts) -/
theorem set_of_texts {l : Addr} {its : Array Value} {xs : List Str} {Q : Value → Shared → Prop} (hh : A.handled = none) (hl : s.heap.IsList l its)
    (hx : ∀ (i : Nat) (v : Value), its[i]? = some v → ∃ x t, xs[i]? = some x ∧ v = .str x t) (hn : xs.length = its.size) (hb : ∀ i, (foldT (xs.take i)).length + 1 < scanBound)
    (h : ∀ (h' : Heap) (tk : Nat), SetS P w h' s.heap.objs.size (foldT xs) → (∀ b o, s.heap.get? b = some o → h'.get? b = some o) → Q (.ref s.heap.objs.size) { s with heap := h', toks := tk }) :
    wpAny (model P w) A (call (.type "set") [.ref l]) Q E s := by
  refine set_call ?_
  generalize ho : ({ cls := .type "set", dict := none, data := .set #[] 0 (.fresh 0 0 (!w.params.followText "set-order")) } : Obj) = o
  have hS : (s.heap.push o).get? s.heap.objs.size = some o := Heap.get?_push_size _ (by rw [← ho]; rfl)
  have hS0 : SetS P w (s.heap.push o) s.heap.objs.size (foldT (xs.take 0)) := by
    refine ⟨o, #[], 0, .fresh 0 0 (!w.params.followText "set-order"), hS, by rw [← ho]; exact ⟨rfl, rfl, rfl⟩, by rw [← ho], fun e he => by simp at he, ?_, ?_, by decide, by rfl, fun z => ⟨?_, fun y => absurd rfl y⟩⟩
    · exact List.Perm.refl _
    · exact List.nodup_nil
    · show (!w.params.followText "set-order") = true
      rw [z]; rfl
  obtain ⟨ol, hol, hcl, nl, hdl⟩ := hl
  have hol1 := Heap.get?_push_of_some o hol
  have hl1 : (s.heap.push o).IsList l its := ⟨_, hol1, hcl, nl, hdl⟩
  have hlS : l < s.heap.objs.size := Heap.lt_size hol
  have hsz : (s.heap.push o).objs.size = s.heap.objs.size + 1 := size_push' _ _
  obtain ⟨oc, od, odt, osl⟩ := ol
  simp only at hcl hdl
  subst hcl; subst hdl
  have e1 := F.sub_list_set
  have e2 := F.sub_list_frozenset
  have e3 : (Value.type "list" == Value.type "dict") = false := by decide
  have n1 : l ≠ (s.heap.push o).objs.size := by rw [hsz]; exact Nat.ne_of_lt (Nat.lt_succ_of_lt hlS)
  have n2 : s.heap.objs.size ≠ (s.heap.push o).objs.size := by rw [hsz]; exact Nat.ne_of_lt (Nat.lt_succ_self _)
  subst ho
  unfold Builtin.«set.__init__» noKeywords Builtin.Frozenset.updateFrom
  generalize hPI : pyIter = PI
  wp_walk
  subst hPI
  refine wpAny_pyIter_list hl1 ?_
  refine wpAny_bind (wpAny_runValue ?_)
  have hh3 : A.in1.in1.in1.handled = none := by simp [hh]
  refine fill_loop (P := P) (w := w) (A := A.in1.in1) (xs := xs) (Walks.list hh3 _ l n1 its) n2 (Nat.ne_of_gt hlS) hx hn hb (its.size - 0) 0 _ (by omega) (Nat.zero_le _) ⟨⟨_, Heap.get?_push_size _ rfl, rfl, rfl⟩, hl1.push _⟩ (hS0.at fun o' g => Heap.get?_push_of_some _ g) fun h' tk kp hS' => ?_
  show wpAny _ _ _ _ _ _
  refine wpAny_pure ?_
  show wpAny _ _ (ret Value.none) _ _ _
  refine wpAny_pure ⟨rfl, h h' tk hS' fun c o' g => ?_⟩
  have gc := Heap.lt_size g
  exact kp c o' (Nat.ne_of_lt gc) (by rw [hsz]; exact Nat.ne_of_lt (Nat.lt_succ_of_lt gc)) (Heap.get?_push_of_some _ (Heap.get?_push_of_some _ g))
end
end L2

set_option Elab.async false
set_option linter.all false
set_option maxRecDepth 100000
set_option maxHeartbeats 4000000
namespace L2
open PySem PySem.Spec PyProof.Rows
/-- the walk's own record -/
def SIt (h : Heap) (I a : Addr) (first : Value) (i n ep : Nat) : Prop := ∃ o, h.get? I = some o ∧ o.cls = .type "set_iterator" ∧ o.data = .fields #[first, .int i 0, .ref a, .int n 0, .int ep 0]
theorem SIt.typeIs {s : Shared} {I a : Addr} {first : Value} {i n ep : Nat} (h : SIt s.heap I a first i n ep) : s.TypeIs (.ref I) "set_iterator" := let ⟨o, ho, hc, _⟩ := h; ⟨o, ho, hc⟩
section
variable {P : Program} {w : World} {A : Around} {E : Value → Shared → Prop} {s : Shared}
end
end L2

set_option Elab.async false
set_option linter.all false
set_option maxRecDepth 100000
set_option maxHeartbeats 4000000
namespace L2
open PySem PySem.Spec PyProof.Rows
section
variable {P : Program} {w : World} {A : Around} {E : Value → Shared → Prop} {s : Shared}
end
end L2

set_option Elab.async false
set_option linter.all false
set_option maxRecDepth 100000
set_option maxHeartbeats 4000000
namespace L2
open PySem PySem.Spec PyProof.Rows
section
variable {P : Program} {w : World} {A : Around} {E : Value → Shared → Prop}
end
end L2

set_option Elab.async false
set_option linter.all false
set_option maxRecDepth 100000
set_option maxHeartbeats 4000000
namespace L2
open PySem PySem.Spec PyProof.Rows
section
variable {P : Program} {w : World} {A : Around} {E : Value → Shared → Prop}
theorem SIt.at {h h' : Heap} {I a : Addr} {first : Value} {i n ep : Nat} (x : SIt h I a first i n ep) (k : ∀ o, h.get? I = some o → h'.get? I = some o) : SIt h' I a first i n ep := let ⟨o, ho, r⟩ := x; ⟨o, k o ho, r⟩
end
end L2

set_option Elab.async false
set_option linter.all false
set_option maxRecDepth 100000
set_option maxHeartbeats 4000000
namespace L2
open PySem PySem.Spec PyProof.Rows
section
variable {P : Program} {w : World} {A : Around} {E : Value → Shared → Prop}
end
end L2

set_option Elab.async false
set_option linter.all false
set_option maxRecDepth 100000
set_option maxHeartbeats 4000000
namespace L2
open PySem PySem.Spec PyProof.Rows
section
variable {P : Program} {w : World} {A : Around} {E : Value → Shared → Prop} {s : Shared}
end
end L2

set_option Elab.async false
set_option linter.all false
set_option maxRecDepth 100000
set_option maxHeartbeats 4000000
namespace L2
open PySem PySem.Spec PyProof.Rows
section
variable {P : Program} {w : World} {A : Around} {E : Value → Shared → Prop} {s : Shared}
end
end L2

set_option Elab.async false
set_option linter.all false
set_option maxRecDepth 100000
set_option maxHeartbeats 4000000
namespace L2
open PySem PySem.Spec PyProof.Rows
/-! ### two rising lists of the same texts -/
section
variable {P : Program} {w : World} {A : Around} {E : Value → Shared → Prop} {s : Shared}
end
end L2

set_option Elab.async false
set_option linter.all false
set_option maxRecDepth 100000
set_option maxHeartbeats 4000000
namespace L2
open PySem PySem.Spec PyProof.Rows
theorem vals_strs : ∀ {ws : List Str} {us : List Value}, Vals (ws.map V.str) us → StrsAre us ws
  | [], us, h => by cases h; exact .nil
  | x :: r, us, h => by
    cases h with
    | cons a b =>
      obtain ⟨t, rfl⟩ := a
      exact .cons x t (vals_strs b)
theorem fold_grows : ∀ (l ws : List Str), ws.length ≤ (l.foldl insT ws).length
  | [], ws => Nat.le_refl _
  | x :: r, ws => by
    refine Nat.le_trans ?_ (fold_grows r (insT ws x))
    unfold insT
    split
    · exact Nat.le_refl _
    · rw [List.length_append]; exact Nat.le_add_right _ _
theorem foldT_take (ws : List Str) (i : Nat) : (foldT (ws.take i)).length ≤ (foldT ws).length := by
  have e : foldT ws = (ws.drop i).foldl insT (foldT (ws.take i)) := by
    unfold foldT
    rw [← List.foldl_append, List.take_append_drop]
  rw [e]
  exact fold_grows _ _
/-- set(texts) -/
theorem call_set_texts {X : Cx} (hc : X.calm = true) : CallR X (.type "set") (fun xs H Q => ∃ (l : Addr) (ws : List Str), xs = [.ref l] ∧ SqL X.K H l (ws.map V.str) ∧ (foldT ws).length < 64 ∧ ∀ a, H a = none → Q (.ref a) (upd H a (.ext fun h => SetS X.prog X.w h a (foldT ws)))) := by
  intro pins s σ H xs us Q I r h
  obtain ⟨l, ws, rfl, hl, h64, q⟩ := h
  obtain ⟨u, rfl, ru⟩ := r.one
  cases ru
  obtain ⟨its, rv, pl, hz⟩ := I.list hl
  have hS := vals_strs rv
  have hsc : (64 : Nat) < scanBound := by decide
  have hlen : ws.length = its.toArray.size := by rw [List.size_toArray, ← rv.length, List.length_map]
  refine set_of_texts (xs := ws) (I.ok.hd hc) pl.isList (fun i v hv => ?_) hlen (fun i => by have := foldT_take ws i; omega) fun h' tk hSet kp => ?_
  · rw [List.getElem?_toArray] at hv
    have hi : i < ws.length := by
      rw [hlen, List.size_toArray]
      exact (List.getElem?_eq_some_iff.mp hv).1
    obtain ⟨t, ht⟩ := hS.at (List.getElem?_eq_getElem hi)
    rw [ht] at hv
    exact ⟨_, t, List.getElem?_eq_getElem hi, by injection hv with hv; exact hv.symm⟩
  · refine ⟨.ref s.heap.objs.size, _, I.laid (t' := tk) kp (Nat.le_refl _) (show ObjOk X.prog X.w _ h' _ (.ext fun h => SetS X.prog X.w h s.heap.objs.size (foldT ws)) from ⟨hSet, let ⟨o, _, _, _, ho, _⟩ := hSet; ⟨o, ho⟩, fun h1 h2 z k => z.at k⟩), rfl, q _ I.fresh⟩
end L2

set_option Elab.async false
set_option linter.all false
set_option maxRecDepth 100000
set_option maxHeartbeats 4000000
/-! Lists and tuples of things that are alike: == and != of them. -/
namespace L2
open PySem PySem.Spec PyProof.Rows PySem.SeqAt
/-- the very same, or tuples of such things, n deep -/
def Alike (H : Hp) : Nat → V → V → Prop
  | 0, _, _ => False
  | n + 1, x, y => (x = y ∧ (flatV x = true ∨ ∃ a, x = .ref a)) ∨ ∃ a b xs ys, x = .ref a ∧ y = .ref b ∧ H a = some (.tup xs) ∧ H b = some (.tup ys) ∧ Paired (Alike H n) xs ys
theorem paired_at {α β : Type} {R : α → β → Prop} : ∀ {xs : List α} {ys : List β}, Paired R xs ys → ∀ {i : Nat} {x : α} {y : β}, xs[i]? = some x → ys[i]? = some y → R x y
  | [], [], _, i, x, y, h, _ => by simp at h
  | _ :: _, _ :: _, .cons a b, 0, x, y, h, k => by
    simp at h k
    subst h; subst k
    exact a
  | _ :: _, _ :: _, .cons a b, i + 1, x, y, h, k => paired_at b (by simpa using h) (by simpa using k)
section
variable {X : Cx} {pins : List (Addr × Obj)} {σ : St} {H : Hp} {s : Shared}
/-- items that are alike pairwise -/
theorem items_alike {R : V → V → Prop} {xs ys : List V} {us vs : List Value} (p : Paired R xs ys) (ru : Vals xs us) (rv : Vals ys vs) {j : Nat} (h1 : j < us.toArray.size) (h2 : j < vs.toArray.size) : ∃ x y, R x y ∧ RelV x us.toArray[j] ∧ RelV y vs.toArray[j] := by
  have l1 := ru.length
  have l2 := rv.length
  simp only [List.size_toArray] at h1 h2
  obtain ⟨x, hx⟩ : ∃ x, xs[j]? = some x := ⟨_, List.getElem?_eq_getElem (by omega)⟩
  obtain ⟨y, hy⟩ : ∃ y, ys[j]? = some y := ⟨_, List.getElem?_eq_getElem (by omega)⟩
  obtain ⟨u, hu, rxu⟩ := ru.get hx
  obtain ⟨v, hv, ryv⟩ := rv.get hy
  have e1 : us.toArray[j] = u := by
    rw [List.getElem?_eq_getElem h1] at hu
    simpa using hu
  have e2 : vs.toArray[j] = v := by
    rw [List.getElem?_eq_getElem h2] at hv
    simpa using hv
  exact ⟨x, y, paired_at p hx hy, e1 ▸ rxu, e2 ▸ ryv⟩
theorem alike_eq (I : Inv X pins σ H s) : ∀ {n : Nat} {x y : V} {u v : Value} {A : Around}, Alike H n x y → RelV x u → RelV y v → A.units + n < cLine → EqAt A s u v true
  | 0, _, _, _, _, _, h, _, _, _ => h.elim
  | n + 1, x, y, u, v, A, h, ru, rv, hu => by
    rcases h with ⟨rfl, hf | ⟨a, rfl⟩⟩ | ⟨a, b, xs, ys, rfl, rfl, ha, hb, p⟩
    · have q := eqAt_V (A := A) (s := s) ru rv hf hf
      have e : eqV x x = true := by
        cases x <;> simp_all [eqV, flatV]
      rw [e] at q
      exact q
    · cases ru; cases rv
      exact EqAt.same _
    · cases ru; cases rv
      by_cases hne : a = b
      · subst hne; exact EqAt.same _
      obtain ⟨_, its, r1, t1⟩ := I.hok a _ ha
      obtain ⟨_, jts, r2, t2⟩ := I.hok b _ hb
      have hl : its.toArray.size = jts.toArray.size := by rw [List.size_toArray, List.size_toArray, ← r1.length, ← r2.length, p.length]
      refine EqAt.of_refs hne ?_
      have q := RcAt.tuples (A := A) (s := s) (e := fun _ => true) t1 t2 (by omega) fun j h1 h2 => by
        obtain ⟨x, y, hxy, rx, ry⟩ := items_alike p r1 r2 h1 h2
        exact alike_eq I hxy rx ry (by show A.units + 1 + n < cLine; omega)
      have e : ((List.range (min its.toArray.size jts.toArray.size)).all (fun _ => true) && its.toArray.size == jts.toArray.size) = true := by
        rw [hl]; simp
      rw [e] at q
      exact q
end
end L2

set_option Elab.async false
set_option linter.all false
set_option maxRecDepth 100000
set_option maxHeartbeats 4000000
namespace K05
open PySem L2
seal L2.PE L2.PS L2.PSs L2.PT L2.PW L2.PA L2.PG L2.PGs L2.PI L2.PO L2.PIfs L2.PC L2.OpR L2.CallR L2.IxR L2.SlR L2.PSet L2.UnR

/-! ### what a world is -/
def tupAt (H : Hp) : V → Option (List V)
  | .ref a => match H a with
    | some (.tup xs) => some xs
    | _ => none
  | _ => none
theorem tupAt_tup {H : Hp} {a : Addr} {xs : List V} (h : H a = some (.tup xs)) : tupAt H (.ref a) = some xs := by
  unfold tupAt; dsimp only; rw [h]
theorem Dt.tupOr {p : Addr} {H : Hp} {n : Nat} {v : V} (h : Dt p H n v) : ∃ t, tyN H v = some t ∧ ((∃ (m : Nat) (a : Addr) (xs : List V), n = m + 1 ∧ v = .ref a ∧ t = "tuple" ∧ H a = some (.tup xs) ∧ xs.length ≤ 9100 ∧ ∀ x ∈ xs, Dt p H m x) ∨ (isiB t "tuple" = false ∧ tupAt H v = none)) := by
  rcases h.kind with ⟨rfl, ty⟩ | ⟨b, rfl, ty⟩ | ⟨i, rfl, ty⟩ | ⟨x, rfl, ty, hx⟩ | ⟨m, a, xs, r1, rfl, ty, ha, hl, hx⟩ | ⟨m, a, xs, _, rfl, ty, ha, _⟩ | ⟨a, rfl, ty, ha⟩
  · exact ⟨_, ty, .inr ⟨by decide, rfl⟩⟩
  · exact ⟨_, ty, .inr ⟨by decide, rfl⟩⟩
  · exact ⟨_, ty, .inr ⟨by decide, rfl⟩⟩
  · exact ⟨_, ty, .inr ⟨by decide, rfl⟩⟩
  · exact ⟨_, ty, .inl ⟨m, a, xs, r1, rfl, rfl, ha, hl, hx⟩⟩
  · exact ⟨_, ty, .inr ⟨by decide, by unfold tupAt; dsimp only; rw [ha]⟩⟩
  · exact ⟨_, ty, .inr ⟨by decide, by unfold tupAt; dsimp only; rw [ha]⟩⟩
theorem tupAt_same {p : Addr} {H H' : Hp} {n : Nat} {v : V} (s : Same H H') (h : Dt p H n v) : tupAt H' v = tupAt H v := by
  obtain ⟨t, ty, ⟨m, a, xs, rfl, rfl, rfl, ha, _⟩ | ⟨hf, hn⟩⟩ := h.tupOr
  · rw [tupAt_tup ha, tupAt_tup (s _ _ ha)]
  · rw [hn]
    obtain ⟨t', ty', ⟨m, a, xs, rfl, rfl, rfl, ha, _⟩ | ⟨hf', hn'⟩⟩ := (h.same s).tupOr
    · exfalso
      have hn2 : tupAt H (.ref a) = none := hn
      rcases h.kind with ⟨q, _⟩ | ⟨b, q, _⟩ | ⟨i, q, _⟩ | ⟨x, q, _, _⟩ | ⟨m', a', xs', _, q, _, ha', _⟩ | ⟨m', a', xs', _, q, _, ha', _⟩ | ⟨a', q, _, ha'⟩
      · cases q
      · cases q
      · cases q
      · cases q
      · cases q; rw [tupAt_tup ha'] at hn2; cases hn2
      · cases q; rw [s _ _ ha'] at ha; cases ha
      · cases q; rw [s _ _ ha'] at ha; cases ha
    · exact hn'
/-- a tuple of at most m things, each one as told -/
def tupOf (H : Hp) (m : Nat) (φ : Hp → V → Bool) (v : V) : Bool := match tupAt H v with
  | some xs => decide (xs.length ≤ m) && xs.all (φ H)
  | none => false
/-- what is told of a thing lasts -/
def Stb (φ : Hp → V → Bool) : Prop := ∀ {p : Addr} {H H' : Hp} {n : Nat} {v : V}, Same H H' → Dt p H n v → φ H' v = φ H v
theorem all_congr {α : Type} {f g : α → Bool} : ∀ {l : List α}, (∀ x ∈ l, f x = g x) → l.all f = l.all g
  | [], _ => rfl
  | x :: r, h => by rw [List.all_cons, List.all_cons, h x (List.mem_cons_self), all_congr fun y hy => h y (List.mem_cons_of_mem _ hy)]
theorem stb_tup {m : Nat} {φ : Hp → V → Bool} (st : Stb φ) : Stb (fun H v => tupOf H m φ v) := by
  intro p H H' n v s h
  show tupOf H' m φ v = tupOf H m φ v
  unfold tupOf
  rw [tupAt_same s h]
  obtain ⟨t, ty, ⟨k, a, xs, rfl, rfl, rfl, ha, _, hx⟩ | ⟨hf, hn⟩⟩ := h.tupOr
  · rw [tupAt_tup ha]
    dsimp only
    rw [all_congr fun x hm => st s (hx x hm)]
  · rw [hn]
def spPred (φ : Hp → V → Bool) : Sp := fun vs H Q _ => ∃ (v : V) (p : Addr) (n : Nat), vs = [v] ∧ Dt p H n v ∧ ∀ H', Same H H' → Q (.bl (φ H v)) H'

section
variable {P : Program} {w : World} {K : PySem.W.Frag} {mg : Str → Option Value} {base : Heap}
/-! ### is_tuple_of -/
theorem sc_tuple_of : FnScope ["thing", "most", "is_one"] ["thing", "most", "is_one"] (defScope (top 45)) := ⟨rfl, rfl, rfl, by decide +kernel, rfl, by decide +kernel, by decide +kernel⟩
def spTupOf (P : Program) (w : World) (K : PySem.W.Frag) (mg : Str → Option Value) (base : Heap) (k : Nat) : Sp := fun vs H Q _ => ∃ (v : V) (m : Nat) (f : Addr) (fd : FuncData) (ps : List Str) (φ : Hp → V → Bool) (p : Addr) (n : Nat),
  vs = [v, .int m, .ref f] ∧ Dt p H n v ∧ FnOk P w K mg base CX0 k f fd ps (spPred φ) ∧ PySem.W.keepIn K (.ref f) = true ∧ Binds K fd ps [] ∧ Stb φ ∧ ∀ H', Same H H' → Q (.bl (tupOf H m φ v)) H'
theorem d_tuple_of {k : Nat} (T : Txt w K mg) (S : Src K mg "is_tuple_of" (top 45) ["thing", "most", "is_one"]) : Def P w K mg base (k + 1) "is_tuple_of" ["thing", "most", "is_one"] (spTupOf P w K mg base k) := by
  refine S.ok sc_tuple_of (fun vs H Q E h => ?_) (fun f0 cdv A outer s H vs Q E hr h => ?_)
  · obtain ⟨v, m, f, fd, ps, φ, p, n, rfl, _⟩ := h; rfl
  obtain ⟨v, m, f, fd, ps, φ, p, n, rfl, hv, F, hk, hb, st, q⟩ := h
  refine ⟨_, (pss_one (ps_ret (pe_and (pe_cB call_isi rfl T.z_isinstance bt_isinstance (pac (pv 0) (pac (pe_ty T.z_tuple bt_tuple rfl) pa_nil))) (pe_and (pe_cmpR op_le (pe_cB call_len_seq rfl T.z_len bt_len (pac (pv 0) pa_nil)) (pv 1) (nomark _)) (pe_one (pe_cB (call_all_bl rfl) rfl T.z_all bt_all (pac (pe_comp (N' := ["part", "is_one"]) (comp_scope (defScope (top 45)) (by rfl) (by decide +kernel) (by decide +kernel) (by decide +kernel) (by decide +kernel) (by decide +kernel) (by decide +kernel)) rfl (capt 1 [2] (by rfl) (by rfl) (by decide +kernel)) (pi_tup (pv 0)) (fun _ _ _ => pg_name (i := 0) (show (["part", "is_one"] : List Str).Nodup by decide +kernel) rfl (Or.inl rfl) (Or.inr rfl)) (fun _ _ _ => pifs_nil) (fun _ _ _ => (show PE _ _ (tCallF P w K mg base k (tVar 1) (tCons (tVar 0) tNil)) from pe_callF (pv 1) hr (pac (pv 0) pa_nil)))) pa_nil))))))), ?_⟩
  obtain ⟨t, ty, ⟨j, a, xs, rfl, rfl, rfl, ha, hl, hx⟩ | ⟨hf, hn⟩⟩ := hv.tupOr
  · refine ⟨_, rfl, _, "tuple", _, rfl, ty, by simp, _, rfl, ifT (by decide) ?_⟩
    refine ⟨_, rfl, a, _, rfl, .inr (SqT.of ha), _, rfl, _, _, rfl, rfl, _, rfl, ite2 (fun c => ?_) (fun c => ?_)⟩
    · refine ⟨_, rfl, a, rfl, ⟨xs, SqT.of ha⟩, walk_tup (te := tCallF P w K mg base k (tVar 1) (tCons (tVar 0) tNil)) (cs := [some (.ref f)]) (fun x => .bl (φ H x)) ha (by omega) (by rfl) (fun x H2 k2 hx2 s2 hk2 => ?_) (fun acc H' hna s' hl' => ?_)⟩
      · refine ⟨_, rfl, f, fd, ps, spPred φ, rfl, F, hk, hb, _, rfl, x, p, j, rfl, (hx x hx2).same s2, fun H3 s3 => ?_⟩
        rw [st s2 (hx x hx2)]
        exact hk2 H3 s3
      · refine ⟨acc, xs.map (φ H), rfl, SqL.of (by rw [List.map_map]; exact hl'), ?_⟩
        have e : tupOf H m φ (.ref a) = (xs.map (φ H)).all id := by
          unfold tupOf
          rw [tupAt_tup ha]
          dsimp only
          rw [decide_eq_true (by have := of_decide_eq_true c; omega), Bool.true_and, List.all_map]
          rfl
        rw [← e]
        exact q H' s'
    · have e : tupOf H m φ (.ref a) = false := by
        unfold tupOf
        rw [tupAt_tup ha]
        dsimp only
        rw [decide_eq_false (by have := of_decide_eq_false (Bool.eq_false_iff.mpr c); omega), Bool.false_and]
      rw [← e]
      exact q H (Same.refl H)
  · refine ⟨_, rfl, _, "tuple", _, rfl, ty, by simp, _, rfl, ifF hf ?_⟩
    have e : tupOf H m φ v = false := by unfold tupOf; rw [hn]
    rw [← e]
    exact q H (Same.refl H)

/-! ### is_pair -/
def pairV (H : Hp) (v : V) : Bool := match tupAt H v with
  | some xs => decide (xs.length = 2)
  | none => false
theorem sc_pair : FnScope ["thing"] ["thing"] (defScope (top 46)) := ⟨rfl, rfl, rfl, by decide +kernel, rfl, by decide +kernel, by decide +kernel⟩
def spPair : Sp := fun vs H Q _ => ∃ (v : V) (p : Addr) (n : Nat), vs = [v] ∧ Dt p H n v ∧ Q (.bl (pairV H v)) H
theorem d_pair (T : Txt w K mg) (S : Src K mg "is_pair" (top 46) ["thing"]) : Def P w K mg base 1 "is_pair" ["thing"] spPair := by
  refine S.ok sc_pair (fun vs H Q E h => ?_) (fun f0 cdv A outer s H vs Q E hr h => ?_)
  · obtain ⟨v, p, n, rfl, _⟩ := h; rfl
  obtain ⟨v, p, n, rfl, hv, q⟩ := h
  refine ⟨_, (pss_one (ps_ret (pe_and (pe_cB call_isi rfl T.z_isinstance bt_isinstance (pac (pv 0) (pac (pe_ty T.z_tuple bt_tuple rfl) pa_nil))) (pe_one (pe_cmpR op_eq (pe_cB call_len_seq rfl T.z_len bt_len (pac (pv 0) pa_nil)) pe_int (nomark _)))))), ?_⟩
  obtain ⟨t, ty, ⟨j, a, xs, rfl, rfl, rfl, ha, hl, hx⟩ | ⟨hf, hn⟩⟩ := hv.tupOr
  · refine ⟨_, rfl, _, "tuple", _, rfl, ty, by simp, _, rfl, ifT (by decide) ?_⟩
    refine ⟨_, rfl, a, _, rfl, .inr (SqT.of ha), rfl, ?_⟩
    have e : pairV H (.ref a) = decide (V.int (xs.length : Int) = V.int 2) := by
      unfold pairV
      rw [tupAt_tup ha]
      dsimp only
      by_cases h2 : xs.length = 2
      · rw [decide_eq_true h2, decide_eq_true (by rw [h2]; rfl)]
      · rw [decide_eq_false h2, decide_eq_false (by intro z; injection z with z; omega)]
    rw [e] at q
    exact q
  · refine ⟨_, rfl, _, "tuple", _, rfl, ty, by simp, _, rfl, ifF hf ?_⟩
    have e : pairV H v = false := by unfold pairV; rw [hn]
    rw [← e]
    exact q

theorem stb_num : Stb (fun _ x => numV x) := fun _ _ => rfl
theorem tup_num {p : Addr} {H H' : Hp} {n m : Nat} {v : V} (s : Same H H') (h : Dt p H n v) : tupOf H' m (fun _ x => numV x) v = tupOf H m (fun _ x => numV x) v := stb_tup stb_num s h
/-! ### names_of -/
def fstV (H : Hp) (v : V) : V := match tupAt H v with
  | some (y :: _) => y
  | _ => .non
theorem sc_names_of : FnScope ["things"] ["things"] (defScope (top 50)) := ⟨rfl, rfl, rfl, by decide +kernel, rfl, by decide +kernel, by decide +kernel⟩
def spNamesOf : Sp := fun vs H Q _ => ∃ (a : Addr) (xs : List V), vs = [.ref a] ∧ H a = some (.tup xs) ∧ xs.length ≤ 9100 ∧ (∀ x ∈ xs, ∃ b y ys, x = .ref b ∧ H b = some (.tup (y :: ys))) ∧
  ∀ acc H', H acc = none → Same H H' → H' acc = some (.lst (xs.map (fstV H))) → Q (.ref acc) H'
theorem d_names_of (T : Txt w K mg) (S : Src K mg "names_of" (top 50) ["things"]) : Def P w K mg base 1 "names_of" ["things"] spNamesOf := by
  refine S.ok sc_names_of (fun vs H Q E h => ?_) (fun f0 cdv A outer s H vs Q E hr h => ?_)
  · obtain ⟨a, xs, rfl, _⟩ := h; rfl
  obtain ⟨a, xs, rfl, ha, hl, hx, q⟩ := h
  refine ⟨_, (pss_one (ps_ret (pe_comp (N' := ["thing"]) (comp_scope (defScope (top 50)) (by rfl) (by decide +kernel) (by decide +kernel) (by decide +kernel) (by decide +kernel) (by decide +kernel) (by decide +kernel)) rfl (capt 1 [] (by rfl) (by rfl) (by decide +kernel)) (pi_tup (pv 0)) (fun _ _ _ => pg_name (i := 0) (show (["thing"] : List Str).Nodup by decide +kernel) rfl (Or.inl rfl) (Or.inr rfl)) (fun _ _ _ => pifs_nil) (fun _ _ _ => (pe_ix (show IxR _ (rIxT K) from ix_tup) (pv 0) pe_int (fun _ _ => rfl)))))), ?_⟩
  refine ⟨_, rfl, a, rfl, ⟨xs, SqT.of ha⟩, walk_tup (te := tOp (rIxT K) (tVar 0) (tC (.int 0))) (cs := []) (fstV H) ha (by omega) (by rfl) (fun x H2 k2 hx2 s2 hk2 => ?_) (fun acc H' hna s' hl' => q acc H' hna s' hl')⟩
  obtain ⟨b, y, ys, rfl, hb⟩ := hx x hx2
  have e : fstV H (.ref b) = y := by unfold fstV; rw [tupAt_tup hb]
  have z := hk2 H2 (Same.refl H2)
  rw [e] at z
  exact ⟨_, rfl, b, _, 0, _, rfl, rfl, SqT.of (s2 _ _ hb), atI_nat (j := 0) rfl, z⟩
end
end K05

set_option Elab.async false
set_option linter.all false
set_option maxRecDepth 100000
set_option maxHeartbeats 4000000
namespace K05
open PySem L2
seal L2.PE L2.PS L2.PSs L2.PT L2.PW L2.PA L2.PG L2.PGs L2.PI L2.PO L2.PIfs L2.PC L2.OpR L2.CallR L2.IxR L2.SlR L2.PSet L2.UnR

/-! ### what a value is -/
def inN (ns : List Str) : V → Bool
  | .str s => (ns.map V.str).any fun y => eqV y (.str s)
  | _ => false
theorem flat_strs (ns : List Str) : (ns.map V.str).all flatV = true := by
  rw [List.all_eq_true]
  intro x hx
  obtain ⟨y, _, rfl⟩ := List.mem_map.mp hx
  rfl
def isPt (bs ls : List Str) (rec : V → Bool) (kind : Str) (x : V) : Bool :=
  if kind = "number" then numV x else if kind = "box" then inN bs x else if kind = "list" then inN ls x else rec x
def isVal (H : Hp) (bs ls : List Str) : Nat → V → Bool
  | 0, _ => false
  | k + 1, v => match tupAt H v with
    | some (.str x :: rest) => match forms x with
      | some ks => decide (rest.length = ks.length) && (ks.zip rest).all fun p => isPt bs ls (isVal H bs ls k) p.1 p.2
      | none => false
    | _ => false
theorem isVal_cons {H : Hp} {bs ls : List Str} {k : Nat} {a : Addr} {x : Str} {rest : List V} (h : H a = some (.tup (.str x :: rest))) : isVal H bs ls (k + 1) (.ref a) = (match forms x with
      | some ks => decide (rest.length = ks.length) && (ks.zip rest).all fun p => isPt bs ls (isVal H bs ls k) p.1 p.2
      | none => false) := by
  show (match tupAt H (.ref a) with
    | some (.str x :: rest) => match forms x with
      | some ks => decide (rest.length = ks.length) && (ks.zip rest).all fun p => isPt bs ls (isVal H bs ls k) p.1 p.2
      | none => false
    | _ => false) = _
  rw [tupAt_tup h]
theorem isVal_nil {H : Hp} {bs ls : List Str} {k : Nat} {a : Addr} (h : H a = some (.tup [])) : isVal H bs ls k (.ref a) = false := by
  cases k with
  | zero => rfl
  | succ k =>
    show (match tupAt H (.ref a) with
      | some (.str x :: rest) => match forms x with
        | some ks => decide (rest.length = ks.length) && (ks.zip rest).all fun p => isPt bs ls (isVal H bs ls k) p.1 p.2
        | none => false
      | _ => false) = _
    rw [tupAt_tup h]
theorem isVal_odd {H : Hp} {bs ls : List Str} {k : Nat} {a : Addr} {y : V} {rest : List V} (h : H a = some (.tup (y :: rest))) (hy : ∀ x, y ≠ .str x) : isVal H bs ls k (.ref a) = false := by
  cases k with
  | zero => rfl
  | succ k =>
    show (match tupAt H (.ref a) with
      | some (.str x :: rest) => match forms x with
        | some ks => decide (rest.length = ks.length) && (ks.zip rest).all fun p => isPt bs ls (isVal H bs ls k) p.1 p.2
        | none => false
      | _ => false) = _
    rw [tupAt_tup h]
    cases y with
    | str x => exact absurd rfl (hy x)
    | _ => rfl
theorem isVal_none {H : Hp} {bs ls : List Str} {k : Nat} {v : V} (h : tupAt H v = none) : isVal H bs ls k v = false := by
  cases k with
  | zero => rfl
  | succ k =>
    show (match tupAt H v with
      | some (.str x :: rest) => match forms x with
        | some ks => decide (rest.length = ks.length) && (ks.zip rest).all fun p => isPt bs ls (isVal H bs ls k) p.1 p.2
        | none => false
      | _ => false) = _
    rw [h]
/-- what is tracked stays: so does the answer -/
theorem isVal_same {p : Addr} {H H' : Hp} {bs ls : List Str} (e : Same H H') : ∀ {k n : Nat} {v : V}, Dt p H n v → isVal H' bs ls k v = isVal H bs ls k v
  | 0, _, _, _ => rfl
  | k + 1, n, v, h => by
    rcases h.kind with ⟨rfl, ty⟩ | ⟨b, rfl, ty⟩ | ⟨i, rfl, ty⟩ | ⟨x, rfl, ty, hx⟩ | ⟨m, a, xs, _, rfl, ty, ha, _, hx⟩ | ⟨m, a, xs, _, rfl, ty, ha, _⟩ | ⟨a, rfl, ty, ha⟩
    · rfl
    · rfl
    · rfl
    · rfl
    · cases xs with
      | nil => rw [isVal_nil ha, isVal_nil (e _ _ ha)]
      | cons y rest =>
        by_cases hy : ∃ x, y = .str x
        · obtain ⟨x, rfl⟩ := hy
          rw [isVal_cons ha, isVal_cons (e _ _ ha)]
          cases forms x with
          | none => rfl
          | some ks =>
            dsimp only
            congr 1
            refine all_congr fun q hq => ?_
            have hm : q.2 ∈ rest := (List.of_mem_zip hq).2
            unfold isPt
            rw [isVal_same e (hx q.2 (List.mem_cons_of_mem _ hm))]
        · have hy' : ∀ x, y ≠ .str x := fun x z => hy ⟨x, z⟩
          rw [isVal_odd ha hy', isVal_odd (e _ _ ha) hy']
    · rw [isVal_none (H := H') (by unfold tupAt; dsimp only; rw [e _ _ ha]), isVal_none (H := H) (by unfold tupAt; dsimp only; rw [ha])]
    · rw [isVal_none (H := H') (by unfold tupAt; dsimp only; rw [e _ _ ha]), isVal_none (H := H) (by unfold tupAt; dsimp only; rw [ha])]
theorem forms_len {x : Str} {ks : List Str} (h : forms x = some ks) : 1 ≤ ks.length ∧ ks.length ≤ 2 := by
  unfold forms at h
  have go : ∀ {c : Prop} [Decidable c] {l : List Str} {r : Option (List Str)}, (if c then some l else r) = some ks → 1 ≤ l.length ∧ l.length ≤ 2 → (r = some ks → 1 ≤ ks.length ∧ ks.length ≤ 2) → 1 ≤ ks.length ∧ ks.length ≤ 2 := fun {c} _ {l} {r} h hl hr => by
    by_cases hc : c
    · rw [if_pos hc] at h
      injection h with h
      exact h ▸ hl
    · rw [if_neg hc] at h
      exact hr h
  have two : ∀ a b : Str, 1 ≤ [a, b].length ∧ [a, b].length ≤ 2 := fun _ _ => ⟨by simp, by simp⟩
  have one : ∀ a : Str, 1 ≤ [a].length ∧ [a].length ≤ 2 := fun _ => ⟨by simp, by simp⟩
  refine go h (one _) fun h => go h (one _) fun h => go h (two _ _) fun h => go h (two _ _) fun h => go h (two _ _) fun h => go h (two _ _) fun h => go h (two _ _) fun h => go h (two _ _) fun h => go h (two _ _) fun h => go h (one _) fun h => go h (two _ _) fun h => go h (one _) fun h => ?_
  cases h
theorem inN_nm {ns : List Str} {v : V} (h : ∀ x ∈ ns, nmS x = true) (hv : nmV v = false) : inN ns v = false := by
  cases v with
  | str s =>
    show (ns.map V.str).any _ = false
    rw [List.any_eq_false]
    intro y hy
    obtain ⟨z, hz, rfl⟩ := List.mem_map.mp hy
    intro e
    have e' : z = s := by
      have : (z == s) = true := e
      simpa using this
    have := h z hz
    rw [e'] at this
    have hv' : nmS s = false := hv
    rw [hv'] at this
    cases this
  | _ => rfl
theorem nm_str {v : V} (h : nmV v = true) : ∃ x, v = .str x := by
  cases v with
  | str s => exact ⟨s, rfl⟩
  | _ => cases h
theorem Same.seqT {K : PySem.W.Frag} {H H' : Hp} {a : Addr} {xs : List V} (e : Same H H') (h : SqT K H a xs) : SqT K H' a xs := by
  rcases h with (h | ⟨o, h⟩) | h
  · exact .inl (.inl (e _ _ h))
  · exact .inl (.inr ⟨o, e _ _ h⟩)
  · exact .inr h
theorem cut_tail (y : V) (ys : List V) : cutV (y :: ys) (some 1) none = ys := by
  unfold cutV
  have e1 : HT.sIx (y :: ys).length 0 (some 1) = 1 := by
    have := HT.sIx_nat (y :: ys).length 0 1
    rw [show (some (1 : Int)) = some ((1 : Nat) : Int) from rfl, this, List.length_cons]
    omega
  rw [e1, HT.sIx_none]
  simp

/-! ### the promises -/
def spWithin (k : Nat) : Sp := fun vs H Q _ => ∃ (v : V) (b l : Addr) (d : Int) (p : Addr) (n : Nat) (bs ls : List Str), vs = [v, .ref b, .ref l, .int d] ∧ d = (k : Int) ∧ Dt p H n v ∧ H b = some (.lst (bs.map V.str)) ∧ H l = some (.lst (ls.map V.str)) ∧ (∀ x ∈ bs, nmS x = true) ∧ (∀ x ∈ ls, nmS x = true) ∧
  ∀ H', Same H H' → Q (.bl (isVal H bs ls k v)) H'
def spPart (k : Nat) : Sp := fun vs H Q _ => ∃ (kind : Str) (v : V) (b l : Addr) (d : Int) (k' : Nat) (p : Addr) (n : Nat) (bs ls : List Str), vs = [.str kind, v, .ref b, .ref l, .int d] ∧ k = k' + 1 ∧ d = (k' : Int) ∧ Dt p H n v ∧ H b = some (.lst (bs.map V.str)) ∧ H l = some (.lst (ls.map V.str)) ∧
  (∀ x ∈ bs, nmS x = true) ∧ (∀ x ∈ ls, nmS x = true) ∧ ∀ H', Same H H' → Q (.bl (isPt bs ls (isVal H bs ls k') kind v)) H'

section
variable {P : Program} {w : World} {K : PySem.W.Frag} {mg : Str → Option Value} {base : Heap}
/-! ### is_part -/
theorem sc_is_part : FnScope ["kind", "part", "boxes", "lists", "depth"] ["kind", "part", "boxes", "lists", "depth"] (defScope (top 31)) := ⟨rfl, rfl, rfl, by decide +kernel, rfl, by decide +kernel, by decide +kernel⟩
theorem d_part {k j : Nat} (T : Txt w K mg) (D_is_name : Def P w K mg base 1 "is_name" ["thing"] spIsName) (D_is_number : Def P w K mg base 2 "is_number" ["thing"] spIsNum) (S : Src K mg "is_part" (top 31) ["kind", "part", "boxes", "lists", "depth"])
    (D_within : Def P w K mg base (j + 2) "is_value_within" ["thing", "boxes", "lists", "depth"] (spWithin k)) : Def P w K mg base (j + 3) "is_part" ["kind", "part", "boxes", "lists", "depth"] (spPart (k + 1)) := by
  refine S.ok sc_is_part (fun vs H Q E h => ?_) (fun f cdv A outer s H vs Q E hr h => ?_)
  · obtain ⟨kind, v, b, l, d, k', p, n, bs, ls, rfl, _⟩ := h; rfl
  obtain ⟨kind, v, b, l, d, k', p, n, bs, ls, rfl, hk, rfl, hv, hb, hl, hbs, hls, q⟩ := h
  obtain rfl : k = k' := by omega
  refine ⟨_, (pss_cons (ps_if (pt_cmpR op_eq (pv 0) pe_str (nomark _))
      (pss_one (ps_ret (pe_def (D_is_number.mono (Nat.le_add_left 2 _)) hr rfl (pac (pv 1) pa_nil)))) pss_nil)
      (pss_cons (ps_if (pt_cmpR op_eq (pv 0) pe_str (nomark _))
      (pss_one (ps_ret (pe_and (pe_def (D_is_name.mono (Nat.le_add_left 1 (_ + 1))) hr rfl (pac (pv 1) pa_nil)) (pe_one (pe_cmpR op_in_seq (pv 1) (pv 2) (by rfl)))))) pss_nil)
      (pss_cons (ps_if (pt_cmpR op_eq (pv 0) pe_str (nomark _))
      (pss_one (ps_ret (pe_and (pe_def (D_is_name.mono (Nat.le_add_left 1 (_ + 1))) hr rfl (pac (pv 1) pa_nil)) (pe_one (pe_cmpR op_in_seq (pv 1) (pv 3) (by rfl)))))) pss_nil)
      (pss_one (ps_ret (pe_def (D_within) hr rfl (pac (pv 1) (pac (pv 2) (pac (pv 3) (pac (pv 4) pa_nil)))))))))), ?_⟩
  have among : ∀ (ns : List Str) (c : Addr), H c = some (.lst (ns.map V.str)) → (∀ x ∈ ns, nmS x = true) → (∀ H', Same H H' → Q (.bl (inN ns v)) H') → ∀ H1, Same H H1 → (if nmV v = true then (∃ p' xs, V.ref c = .ref p' ∧ (SqL K H1 p' xs ∨ SqT K H1 p' xs) ∧ flatV v = true ∧ xs.all flatV = true ∧ Q (.bl (if false then !inV v xs else inV v xs)) H1) else Q (.bl false) H1) := fun ns c hc hns q' H1 s1 => by
    refine ite2 (fun z => ?_) (fun z => ?_)
    · obtain ⟨x, rfl⟩ := nm_str z
      exact ⟨c, _, rfl, .inl (SqL.of (s1 _ _ hc)), rfl, flat_strs ns, q' H1 s1⟩
    · have := q' H1 s1
      rw [inN_nm hns (Bool.eq_false_iff.mpr z)] at this
      exact this
  refine ⟨_, rfl, rfl, _, rfl, ite2 (fun c => ?_) (fun c => ?_)⟩
  · have c' : kind = "number" := by have := of_decide_eq_true c; injection this
    refine ⟨_, rfl, v, p, n, rfl, hv, ?_⟩
    have z := q H (Same.refl H)
    unfold isPt at z
    rw [if_pos c'] at z
    exact z
  have n1 : kind ≠ "number" := fun z => c (decide_eq_true (by rw [z]))
  refine ⟨_, rfl, rfl, _, rfl, ite2 (fun c => ?_) (fun c => ?_)⟩
  · have c' : kind = "box" := by have := of_decide_eq_true c; injection this
    unfold isPt at q
    rw [if_neg n1, if_pos c'] at q
    refine ⟨_, rfl, v, p, n, rfl, hv, fun H1 s1 => ⟨_, rfl, ?_⟩⟩
    have z := among bs b hb hbs q H1 s1
    refine ite2 (fun y => ?_) (fun y => ?_)
    · rw [if_pos y] at z
      exact ⟨_, rfl, _, rfl, z⟩
    · rw [if_neg y] at z
      exact z
  have n2 : kind ≠ "box" := fun z => c (decide_eq_true (by rw [z]))
  refine ⟨_, rfl, rfl, _, rfl, ite2 (fun c => ?_) (fun c => ?_)⟩
  · have c' : kind = "list" := by have := of_decide_eq_true c; injection this
    unfold isPt at q
    rw [if_neg n1, if_neg n2, if_pos c'] at q
    refine ⟨_, rfl, v, p, n, rfl, hv, fun H1 s1 => ⟨_, rfl, ?_⟩⟩
    have z := among ls l hl hls q H1 s1
    refine ite2 (fun y => ?_) (fun y => ?_)
    · rw [if_pos y] at z
      exact ⟨_, rfl, _, rfl, z⟩
    · rw [if_neg y] at z
      exact z
  have n3 : kind ≠ "list" := fun z => c (decide_eq_true (by rw [z]))
  unfold isPt at q
  rw [if_neg n1, if_neg n2, if_neg n3] at q
  exact ⟨_, rfl, _, rfl, _, rfl, _, rfl, v, b, l, _, p, n, bs, ls, rfl, rfl, hv, hb, hl, hbs, hls, q⟩
end
end K05

set_option Elab.async false
set_option linter.all false
set_option maxRecDepth 100000
set_option maxHeartbeats 4000000
namespace K05
open PySem L2
seal L2.PE L2.PS L2.PSs L2.PT L2.PW L2.PA L2.PG L2.PGs L2.PI L2.PO L2.PIfs L2.PC L2.OpR L2.CallR L2.IxR L2.SlR L2.PSet L2.UnR
section
variable {P : Program} {w : World} {K : PySem.W.Frag} {mg : Str → Option Value} {base : Heap}
/-! ### has_word, value_kinds -/
def wordL : List V → Bool
  | .str _ :: _ => true
  | _ => false
def wordV (H : Hp) (v : V) : Bool := match tupAt H v with
  | some xs => wordL xs
  | none => false
theorem sc_has_word : FnScope ["thing"] ["thing"] (defScope (top 14)) := ⟨rfl, rfl, rfl, by decide +kernel, rfl, by decide +kernel, by decide +kernel⟩
def spHasWord : Sp := fun vs H Q _ => ∃ (v : V) (p : Addr) (n : Nat), vs = [v] ∧ Dt p H n v ∧ Q (.bl (wordV H v)) H
theorem d_has_word (T : Txt w K mg) (S : Src K mg "has_word" (top 14) ["thing"]) : Def P w K mg base 1 "has_word" ["thing"] spHasWord := by
  refine S.ok sc_has_word (fun vs H Q E h => ?_) (fun f cdv A outer s H vs Q E hr h => ?_)
  · obtain ⟨v, p, n, rfl, _⟩ := h; rfl
  obtain ⟨v, p, n, rfl, hv, q⟩ := h
  refine ⟨_, (pss_one (ps_ret (pe_and (pe_cB call_isi rfl T.z_isinstance bt_isinstance (pac (pv 0) (pac (pe_ty T.z_tuple bt_tuple rfl) pa_nil))) (pe_and (pe_cmpR op_gt (pe_cB call_len_seq rfl T.z_len bt_len (pac (pv 0) pa_nil)) pe_int (nomark _)) (pe_one (pe_cB call_isi rfl T.z_isinstance bt_isinstance (pac (pe_ix ix_tup (pv 0) pe_int (fun _ _ => rfl)) (pac (pe_ty T.z_str bt_str rfl) pa_nil)))))))), ?_⟩
  obtain ⟨t, ty, ⟨m, a, xs, _, rfl, rfl, ha, hl10, hx⟩ | ⟨ht, hn⟩⟩ := hv.tupOr
  · refine ⟨_, rfl, _, "tuple", _, rfl, ty, by simp, _, rfl, ifT (by decide) ?_⟩
    refine ⟨_, rfl, a, xs, rfl, .inr (SqT.of ha), _, _, rfl, rfl, _, rfl, ?_⟩
    have e : wordV H (.ref a) = wordL xs := by unfold wordV; rw [tupAt_tup ha]
    cases xs with
    | nil =>
      refine ifF (by decide) ?_
      rw [e] at q
      exact q
    | cons y ys =>
      refine ifT (decide_eq_true (by rw [List.length_cons]; omega)) ?_
      obtain ⟨t, ty, ⟨x, rfl, rfl, _⟩ | ⟨hf, _, hno⟩⟩ := (hx y List.mem_cons_self).strOr
      · rw [e] at q
        exact ⟨_, rfl, a, _, 0, _, rfl, rfl, SqT.of ha, atI_nat (j := 0) rfl, _, "str", _, rfl, ty, by simp, q⟩
      · have e2 : wordL (y :: ys) = false := by
          cases y with
          | str z => exact absurd rfl (hno z)
          | _ => rfl
        rw [e, e2, ← hf] at q
        exact ⟨_, rfl, a, _, 0, _, rfl, rfl, SqT.of ha, atI_nat (j := 0) rfl, _, "str", _, rfl, ty, by simp, q⟩
  · refine ⟨_, rfl, _, "tuple", _, rfl, ty, by simp, _, rfl, ifF ht ?_⟩
    have e : wordV H v = false := by unfold wordV; rw [hn]
    rw [e] at q
    exact q
theorem sc_value_kinds : FnScope ["word"] ["word"] (defScope (top 15)) := ⟨rfl, rfl, rfl, by decide +kernel, rfl, by decide +kernel, by decide +kernel⟩
def spKinds (K : PySem.W.Frag) : Sp := fun vs H Q _ => ∃ (x : Str), vs = [.str x] ∧ (match forms x with
  | some ks => ∀ b, SqT K H b (ks.map V.str) → Q (.ref b) H
  | none => Q .non H)
theorem d_value_kinds (T : Txt w K mg) (S : Src K mg "value_kinds" (top 15) ["word"]) : Def P w K mg base 1 "value_kinds" ["word"] (spKinds K) := by
  obtain ⟨aF, mF, tab⟩ := T.tab
  refine S.ok sc_value_kinds (fun vs H Q E h => ?_) (fun f cdv A outer s H vs Q E hr h => ?_)
  · obtain ⟨x, rfl, _⟩ := h; rfl
  obtain ⟨x, rfl, q⟩ := h
  exact ⟨_, (pss_one (ps_ret (pe_tabget tab rfl mF (pv 0)))), _, rfl, x, rfl, q⟩
/-! ### is_value_within -/
theorem sc_within : FnScope ["thing", "boxes", "lists", "depth", "kinds"] ["thing", "boxes", "lists", "depth"] (defScope (top 30)) := ⟨rfl, rfl, rfl, by decide +kernel, rfl, by decide +kernel, by decide +kernel⟩
theorem all_map_id {α : Type} (f : α → Bool) (l : List α) : (l.map f).all id = l.all f := by
  rw [List.all_map]; rfl
theorem d_within {k j : Nat} (T : Txt w K mg) (D_has_word : Def P w K mg base 1 "has_word" ["thing"] spHasWord) (D_value_kinds : Def P w K mg base 1 "value_kinds" ["word"] (spKinds K)) (S : Src K mg "is_value_within" (top 30) ["thing", "boxes", "lists", "depth"])
    (D_part : Def P w K mg base (j + 1) "is_part" ["kind", "part", "boxes", "lists", "depth"] (spPart k)) : Def P w K mg base (j + 2) "is_value_within" ["thing", "boxes", "lists", "depth"] (spWithin k) := by
  refine S.ok sc_within (fun vs H Q E h => ?_) (fun f cdv A outer s H vs Q E hr h => ?_)
  · obtain ⟨v, b, l, d, p, n, bs, ls, rfl, _⟩ := h; rfl
  obtain ⟨v, b, l, d, p, n, bs, ls, rfl, rfl, hv, hb, hl, hbs, hls, q⟩ := h
  refine ⟨_, (pss_cons (ps_if (pt_cut (PW.pt (pw_or (pt_cmpR op_eq (pv 3) pe_int (nomark _)) (pw_or1 (pt_not (pt_val (pe_def (D_has_word.mono (Nat.le_add_left 1 _)) hr rfl (pac (pv 0) pa_nil))))))))
      (pss_one (ps_ret pe_bl)) pss_nil)
      (pss_cons (ps_set (i := 4) sc_within.nd rfl (Or.inl rfl) (pe_def (D_value_kinds.mono (Nat.le_add_left 1 _)) hr rfl (pac (pe_ix ix_tup (pv 0) pe_int (fun _ _ => rfl)) pa_nil)))
      (pss_cons (ps_if (pt_cut (PW.pt (pw_or (pt_cmpR op_isN (pv 4) pe_non (nomark _)) (pw_or1 (pt_cmpR op_ne (pe_cB call_len_seq rfl T.z_len bt_len (pac (pv 0) pa_nil)) (pe_op op_add pe_int (pe_cB call_len_seq rfl T.z_len bt_len (pac (pv 4) pa_nil))) (nomark _))))))
      (pss_one (ps_ret pe_bl)) pss_nil)
      (pss_one (ps_ret (pe_cB (call_all_bl rfl) rfl T.z_all bt_all (pac (pe_comp (N' := ["kind", "part", "boxes", "lists", "depth"]) (comp_scope (defScope (top 30)) (by rfl) (by decide +kernel) (by decide +kernel) (by decide +kernel) (by decide +kernel) (by decide +kernel) (by decide +kernel)) rfl (capt 2 [1, 2, 3] (by rfl) (by rfl) (by decide +kernel)) (pi_zip rfl T.z_zip (pac (pv 4) (pac (pe_slice sl_tupW (pv 0) (po_some pe_int) po_none) pa_nil))) (fun _ _ _ => (show PG _ _ (gTup K 2 (gCons (gName 0) (gCons (gName 1) gNil))) from pg_tup (n := 2) rfl (pgs_cons (pg_name (i := 0) (show (["kind", "part", "boxes", "lists", "depth"] : List Str).Nodup by decide +kernel) rfl (Or.inl rfl) (Or.inr rfl)) (pgs_cons (pg_name (i := 1) (show (["kind", "part", "boxes", "lists", "depth"] : List Str).Nodup by decide +kernel) rfl (Or.inl rfl) (Or.inr rfl)) pgs_nil)))) (fun _ _ _ => pifs_nil) (fun _ _ _ => (pe_def (D_part) hr rfl (pac (pv 0) (pac (pv 1) (pac (pv 2) (pac (pv 3) (pac (pe_op op_sub (pv 4) pe_int) pa_nil)))))))) pa_nil))))))), ?_⟩
  refine ⟨fun t H' => H = H' ∧ ((t = true ∧ isVal H bs ls k v = false) ∨ (t = false ∧ ∃ (k' m : Nat) (a : Addr) (x : Str) (ys : List V), k = k' + 1 ∧ v = .ref a ∧ H a = some (.tup (.str x :: ys)) ∧ (V.str x :: ys).length ≤ 9100 ∧ ∀ u ∈ V.str x :: ys, Dt p H m u)), ?_, ?_⟩
  · refine ⟨_, rfl, rfl, _, rfl, ite2 (fun c => ?_) (fun c => ?_)⟩
    · have c' := of_decide_eq_true c
      injection c' with c'
      obtain rfl : k = 0 := by omega
      exact ⟨rfl, .inl ⟨rfl, rfl⟩⟩
    cases k with
    | zero => exact absurd (decide_eq_true rfl) c
    | succ k' =>
    refine ⟨_, rfl, v, p, n, rfl, hv, _, rfl, rfl, ?_⟩
    obtain ⟨t, ty, ⟨m, a, xs, _, rfl, rfl, ha, hl10, hx⟩ | ⟨ht, hn⟩⟩ := hv.tupOr
    · have e : wordV H (.ref a) = wordL xs := by unfold wordV; rw [tupAt_tup ha]
      rw [e]
      cases xs with
      | nil => exact .inl ⟨rfl, isVal_nil ha⟩
      | cons y ys =>
        by_cases hy : ∃ x, y = .str x
        · obtain ⟨x, rfl⟩ := hy
          exact .inr ⟨rfl, k', m, a, x, ys, rfl, rfl, ha, hl10, hx⟩
        · have hno : ∀ x, y ≠ .str x := fun x z => hy ⟨x, z⟩
          refine .inl ⟨?_, isVal_odd ha hno⟩
          cases y with
          | str z => exact absurd rfl (hno z)
          | _ => rfl
    · have e : wordV H v = false := by unfold wordV; rw [hn]
      rw [e]
      exact .inl ⟨rfl, isVal_none hn⟩
  rintro t H' ⟨rfl, ⟨rfl, hn⟩ | ⟨rfl, k, m, a, x, ys, rfl, rfl, ha, hl10, hx⟩⟩
  · have z := q H (Same.refl H)
    rw [hn] at z
    exact ifT rfl z
  refine ifF rfl ?_
  refine ⟨_, rfl, a, _, 0, _, rfl, rfl, SqT.of ha, atI_nat (j := 0) rfl, x, rfl, ?_⟩
  have eV := isVal_cons (bs := bs) (ls := ls) (k := k) ha
  cases hfx : forms x with
  | none =>
    rw [hfx] at eV
    have z := q H (Same.refl H)
    rw [eV] at z
    refine ⟨fun t H' => H = H' ∧ t = true, ⟨_, rfl, rfl, _, rfl, ifT (by decide) ⟨rfl, rfl⟩⟩, ?_⟩
    rintro t H' ⟨rfl, rfl⟩
    exact ifT rfl z
  | some ks =>
  rw [hfx] at eV
  dsimp only at eV ⊢
  intro bk hk
  refine ⟨fun t H' => H = H' ∧ t = !decide (ys.length = ks.length), ?_, ?_⟩
  · refine ⟨_, rfl, rfl, _, rfl, ifF (decide_eq_false (by intro z; cases z)) ?_⟩
    refine ⟨_, rfl, a, _, rfl, .inr (SqT.of ha), _, rfl, bk, _, rfl, .inr hk, _, _, rfl, rfl, rfl, _, rfl, rfl, ?_⟩
    have e1 : ((V.str x :: ys).length : Int) = 1 + (ys.length : Int) := by rw [List.length_cons]; omega
    rw [e1, List.length_map]
    by_cases hlen : ys.length = ks.length
    · rw [decide_eq_true hlen, hlen, decide_eq_true rfl]
    · rw [decide_eq_false hlen, decide_eq_false]
      intro z; injection z with z; omega
  rintro t H' ⟨rfl, rfl⟩
  by_cases hlen : ys.length = ks.length
  case neg =>
    have z := q H (Same.refl H)
    rw [eV, decide_eq_false hlen, Bool.false_and] at z
    exact ifT (by rw [decide_eq_false hlen]; rfl) z
  refine ifF (by rw [decide_eq_true hlen]; rfl) ?_
  rw [decide_eq_true hlen, Bool.true_and] at eV
  have hks := forms_len hfx
  have l3 : (100 : Nat) < sizeLine := by decide
  refine ⟨_, rfl, _, rfl, _, rfl, a, _, rfl, ha, fun pt H1 s1 h1 => ?_⟩
  rw [cut_tail] at h1
  refine ⟨bk, pt, rfl, ⟨_, Same.seqT s1 hk⟩, ⟨_, SqT.of h1⟩, fun acc hacc => ?_⟩
  let f : Str × V → Bool := fun p => isPt bs ls (isVal H bs ls k) p.1 p.2
  refine ⟨fun i m σ2 zs H2 => m = ks.length - i ∧ i ≤ ks.length ∧ (∃ x0 x1, σ2 = [x0, x1, some (.ref b), some (.ref l), some (.int ((k + 1 : Nat) : Int))]) ∧ zs = (((ks.zip ys).take i).map f).map V.bl ∧ H2 acc = some (.lst zs) ∧ Same H1 H2,
    ⟨_, rfl, Nat.zero_le _, ⟨_, _, rfl⟩, rfl, upd_same, same_of_new hacc _⟩, ?_⟩
  rintro i _ σ2 zs H2 ⟨rfl, hi, ⟨x0, x1, rfl⟩, rfl, hac, sm⟩
  refine ⟨hac, ?_⟩
  have hkz : (ks.zip ys).length = ks.length := by rw [List.length_zip, hlen, Nat.min_self]
  by_cases hlt : i < ks.length
  · obtain ⟨ki, hki⟩ : ∃ ki, ks[i]? = some ki := ⟨_, List.getElem?_eq_getElem hlt⟩
    obtain ⟨yi, hyi⟩ : ∃ yi, ys[i]? = some yi := ⟨_, List.getElem?_eq_getElem (by omega)⟩
    have hki' : (ks.map V.str)[i]? = some (.str ki) := by rw [List.getElem?_map, hki]; rfl
    have hz : (ks.zip ys)[i]? = some (ki, yi) := by rw [List.getElem?_zip_eq_some]; exact ⟨hki, hyi⟩
    have hk2 := Same.seqT sm (Same.seqT s1 hk)
    have hy2 : SqT K H2 pt ys := SqT.of (sm _ _ h1)
    refine .inr ⟨⟨_, _, _, _, hk2, hy2, hki', hyi⟩, ?_, ?_⟩
    · rw [List.length_map, List.length_map, List.length_take]
      omega
    rintro v H3 ⟨Tp, hT, rfl, hyld⟩
    have e3 := hyld _ _ _ _ hk2 hy2 hki' hyi
    subst e3
    have s3 := same_of_new hT (.tup [.str ki, yi])
    have s13 := s1.trans (sm.trans s3)
    have hyD := hx yi (List.mem_cons_of_mem _ (List.mem_of_getElem? hyi))
    refine ⟨Tp, _, rfl, SqT.of upd_same, rfl, _, _, rfl, _, _, rfl, rfl, ?_⟩
    refine ⟨_, rfl, _, rfl, _, rfl, _, rfl, _, rfl, _, _, rfl, rfl, ?_⟩
    refine ⟨ki, yi, b, l, _, k, p, m, bs, ls, rfl, rfl, (by omega), hyD.same s13, s13 _ _ hb, s13 _ _ hl, hbs, hls, fun H4 s4 => ?_⟩
    have hac4 := s4 _ _ (s3 _ _ hac)
    have ef : isPt bs ls (isVal (upd H2 Tp (.tup [.str ki, yi])) bs ls k) ki yi = f (ki, yi) := by
      show isPt bs ls _ ki yi = isPt bs ls _ ki yi
      unfold isPt
      rw [isVal_same s13 hyD]
    rw [ef]
    refine ⟨hac4, _, (by omega : ks.length - (i + 1) < ks.length - i), rfl, hlt, ⟨_, _, rfl⟩, ?_, upd_same, fun b' o hb' => ?_⟩
    · rw [List.take_add_one, hz, List.map_append, List.map_append]; rfl
    · rw [upd_ne (ne_of_none hb' hacc)]; exact s4 _ _ (s3 _ _ (sm _ _ hb'))
  · obtain rfl : i = ks.length := by omega
    refine .inl ⟨⟨_, _, Same.seqT sm (Same.seqT s1 hk), SqT.of (sm _ _ h1), .inl (Nat.le_of_eq (List.length_map _))⟩, ?_⟩
    refine ⟨acc, _, rfl, SqL.of hac, ?_⟩
    have z := q H2 (s1.trans sm)
    rw [eV] at z
    rw [all_map_id, ← hkz, List.take_length]
    exact z
/-! ### is_value -/
theorem sc_is_value : FnScope ["thing", "boxes", "lists"] ["thing", "boxes", "lists"] (defScope (top 29)) := ⟨rfl, rfl, rfl, by decide +kernel, rfl, by decide +kernel, by decide +kernel⟩
def spIsVal : Sp := fun vs H Q _ => ∃ (v : V) (b l : Addr) (p : Addr) (n : Nat) (bs ls : List Str), vs = [v, .ref b, .ref l] ∧ Dt p H n v ∧ H b = some (.lst (bs.map V.str)) ∧ H l = some (.lst (ls.map V.str)) ∧ (∀ x ∈ bs, nmS x = true) ∧ (∀ x ∈ ls, nmS x = true) ∧
  ∀ H', Same H H' → Q (.bl (isVal H bs ls 4 v)) H'
theorem d_is_value {j : Nat} (T : Txt w K mg) (S : Src K mg "is_value" (top 29) ["thing", "boxes", "lists"])
    (D_within : Def P w K mg base j "is_value_within" ["thing", "boxes", "lists", "depth"] (spWithin 4)) : Def P w K mg base (j + 1) "is_value" ["thing", "boxes", "lists"] spIsVal := by
  obtain ⟨tm, v_DEEPEST⟩ := T.deep
  refine S.ok sc_is_value (fun vs H Q E h => ?_) (fun f cdv A outer s H vs Q E hr h => ?_)
  · obtain ⟨v, b, l, p, n, bs, ls, rfl, _⟩ := h; rfl
  obtain ⟨v, b, l, p, n, bs, ls, rfl, hv, hb, hl, hbs, hls, q⟩ := h
  refine ⟨_, (pss_one (ps_ret (pe_def (D_within) hr rfl (pac (pv 0) (pac (pv 1) (pac (pv 2) (pac (pe_glob (v := .int (4)) rfl v_DEEPEST ⟨_, rfl⟩) pa_nil))))))), ?_⟩
  exact ⟨_, rfl, _, rfl, _, rfl, v, b, l, _, p, n, bs, ls, rfl, rfl, hv, hb, hl, hbs, hls, q⟩
/-- one after the other -/
theorem d_value_all (T : Txt w K mg) (Sh : Src K mg "has_word" (top 14) ["thing"]) (Sk : Src K mg "value_kinds" (top 15) ["word"]) (D_is_name : Def P w K mg base 1 "is_name" ["thing"] spIsName) (D_is_number : Def P w K mg base 2 "is_number" ["thing"] spIsNum) (S1 : Src K mg "is_value" (top 29) ["thing", "boxes", "lists"])
    (S2 : Src K mg "is_value_within" (top 30) ["thing", "boxes", "lists", "depth"]) (S3 : Src K mg "is_part" (top 31) ["kind", "part", "boxes", "lists", "depth"]) : Def P w K mg base 11 "is_value" ["thing", "boxes", "lists"] spIsVal := by
  have p0 : Def P w K mg base 1 "is_part" ["kind", "part", "boxes", "lists", "depth"] (spPart 0) := S3.no fun vs H Q E h => by
    obtain ⟨_, _, _, _, _, k', _, _, _, _, _, hk, _⟩ := h
    omega
  have w0 := d_within T (d_has_word T Sh) (d_value_kinds T Sk) S2 p0
  have p1 := d_part T D_is_name D_is_number S3 w0
  have w1 := d_within T (d_has_word T Sh) (d_value_kinds T Sk) S2 p1
  have p2 := d_part T D_is_name D_is_number S3 w1
  have w2 := d_within T (d_has_word T Sh) (d_value_kinds T Sk) S2 p2
  have p3 := d_part T D_is_name D_is_number S3 w2
  have w3 := d_within T (d_has_word T Sh) (d_value_kinds T Sk) S2 p3
  have p4 := d_part T D_is_name D_is_number S3 w3
  have w4 := d_within T (d_has_word T Sh) (d_value_kinds T Sk) S2 p4
  exact d_is_value T S1 w4
end
end K05

set_option Elab.async false
set_option linter.all false
set_option maxRecDepth 100000
set_option maxHeartbeats 4000000
/-! Methods of own classes. -/
namespace L2
open PySem PySem.Spec PyProof.Rows
/-- a method as it stands behind the top -/
structure SrcM (K : PySem.W.Frag) (C : Addr) (x qual : Str) (st : Stmt) (ps : List Str) : Prop where
  ex : ∃ (f : Addr) (fd : FuncData), Fun K x qual st f fd ∧ Meth K C x f ∧ Binds K fd ps []
structure SrcI (K : PySem.W.Frag) (C : Addr) (qual : Str) (st : Stmt) (ps : List Str) : Prop where
  ex : ∃ (f : Addr) (fd : FuncData), Fun K "__init__" qual st f fd ∧ Mk K C f ∧ Binds K fd ps []
structure DefM (P : Program) (w : World) (K : PySem.W.Frag) (mg : Str → Option Value) (base : Heap) (CX : CXT) (k : Nat) (C : Addr) (x : Str) (ps : List Str) (sp : Sp) : Prop where
  ex : ∃ (f : Addr) (fd : FuncData), FnOk P w K mg base CX k f fd ps sp ∧ Meth K C x f ∧ Binds K fd ps []
structure DefI (P : Program) (w : World) (K : PySem.W.Frag) (mg : Str → Option Value) (base : Heap) (k : Nat) (x : Str) (C : Addr) (ps : List Str) (sp : Sp) : Prop where
  ex : ∃ (f : Addr) (fd : FuncData), FnOk P w K mg base CX0 k f fd ps sp ∧ Mk K C f ∧ Binds K fd ps [] ∧ mg x = some (.ref C)
section
variable {P : Program} {w : World} {K : PySem.W.Frag} {mg : Str → Option Value} {base : Heap} {x qual : Str} {st : Stmt} {ps N : List Str} {k j : Nat} {sp sp' : Sp} {C : Addr} {CX : CXT}
theorem SrcM.ok (S : SrcM K C x qual st ps) (F : FnScope N ps (defScope st)) (len : ∀ vs H Q E, sp vs H Q E → vs.length = ps.length)
    (hbody : ∀ (f : Addr) (cdv : Value) (A : Around) (outer : List Env) (s : Shared) (H : Hp) (vs : List V) (Q : VK) (E : XK), Room k (A.deeper (envOfC qual (defScope st) s.heap.objs.size f cdv)) → sp vs H Q E →
      ∃ t, PSs (cxOf CX0 P w K mg base N qual (defScope st) f cdv A outer s H E).nox (defBody st) t ∧ t { nx := fun _ H' => Q .non H', rt := Q } (start N vs) H) : DefM P w K mg base CX0 (k + 1) C x ps sp := by
  obtain ⟨f, fd, F0, hm, hb⟩ := S.ex
  exact ⟨f, fd, F0.ok F len (hbody f), hm, hb⟩
theorem SrcM.okX (S : SrcM K C x qual st ps) (F : FnScope N ps (defScope st)) (len : ∀ vs H Q E, sp vs H Q E → vs.length = ps.length)
    (hbody : ∀ (f : Addr) (cdv : Value) (A : Around) (outer : List Env) (s : Shared) (H : Hp) (vs : List V) (Q : VK) (E : XK), Room k (A.deeper (envOfC qual (defScope st) s.heap.objs.size f cdv)) → sp vs H Q E →
      ∃ t, PSs (cxOf (CX1 P w) P w K mg base N qual (defScope st) f cdv A outer s H E) (defBody st) t ∧ t { nx := fun _ H' => Q .non H', rt := Q } (start N vs) H) : DefM P w K mg base (CX1 P w) (k + 1) C x ps sp := by
  obtain ⟨f, fd, F0, hm, hb⟩ := S.ex
  obtain ⟨oc, od, kV, doc, pm, an, cdv, ct, osl, rfl, lk, hcd⟩ := F0.ex
  exact ⟨f, _, fn_of lk hcd F len fun A outer s H vs Q E hr hsp => hbody f cdv A outer s H vs Q E hr hsp, hm, hb⟩
theorem SrcI.ok (S : SrcI K C qual st ps) (hx : mg x = some (.ref C)) (F : FnScope N ps (defScope st)) (len : ∀ vs H Q E, sp vs H Q E → vs.length = ps.length)
    (hbody : ∀ (f : Addr) (cdv : Value) (A : Around) (outer : List Env) (s : Shared) (H : Hp) (vs : List V) (Q : VK) (E : XK), Room k (A.deeper (envOfC qual (defScope st) s.heap.objs.size f cdv)) → sp vs H Q E →
      ∃ t, PSs (cxOf CX0 P w K mg base N qual (defScope st) f cdv A outer s H E).nox (defBody st) t ∧ t { nx := fun _ H' => Q .non H', rt := Q } (start N vs) H) : DefI P w K mg base (k + 1) x C ps sp := by
  obtain ⟨f, fd, F0, hm, hb⟩ := S.ex
  exact ⟨f, fd, F0.ok F len (hbody f), hm, hb, hx⟩
theorem DefM.mono (D : DefM P w K mg base CX j C x ps sp) (h : j ≤ k) : DefM P w K mg base CX k C x ps sp := by
  obtain ⟨f, fd, F, r⟩ := D.ex
  exact ⟨f, fd, F.mono h, r⟩
theorem DefI.mono (D : DefI P w K mg base j x C ps sp) (h : j ≤ k) : DefI P w K mg base k x C ps sp := by
  obtain ⟨f, fd, F, r⟩ := D.ex
  exact ⟨f, fd, F.mono h, r⟩
end
section
variable {X : Cx} {k : Nat} {C : Addr} {ps : List Str} {sp : Sp} {CX : CXT} {E : XK} {m x : Str} {p pos apos : Pos} {e o : Expr} {es : List Expr} {ta : TE} {t : TA}
theorem pe_makeD (D : DefI X.prog X.w X.K X.mg X.base k x C ps sp) (hr : Room (k + 1) X.A) (hg : Gl X x) (ha : PA X (e :: es) t) (hdb : (x == ("__debug__" : Str)) = false := by decide) (hpl : (e :: es).all plainE = true := by rfl) :
    PE X (.Call (.Name x p) (e :: es) [] pos) (tMake C sp [] E0 t) := by
  obtain ⟨f, fd, F, M, hb, hm⟩ := D.ex
  rw [List.all_cons, Bool.and_eq_true] at hpl
  exact pe_make M F hr hg hm hb .nil pass0 ha hdb (star_cons hpl.1) (star_all hpl.2)
end
end L2

set_option Elab.async false
set_option linter.all false
set_option maxRecDepth 100000
set_option maxHeartbeats 1000000
namespace L2
open PySem PySem.Spec PyProof.Rows
theorem keys_miss : typeLookup (.type "list") "keys" = pure none := by rw [typeLookup_type, builtinLookup_eq_fast]; kernel_rfl
theorem entry_loop : entryFor table "dict.update.loop" = some Builtin.«dict.update.loop» := entryFor_of_tree (by kernel_rfl)
/-- a list has no keys -/
theorem noKeys_list {prog : Program} {w : World} {A : Around} {E : Value → Shared → Prop} {s : Shared} {a : Addr} {o : Obj} {xs : Array Value} {k : Nat} {Q : Option Value → Shared → Prop}
    (hx : s.heap.get? a = some o) (hc : o.cls = .type "list") (hdat : o.data = .seq xs k) (hd : o.dict = none) (hA : A.handled = none)
    (h : ∀ h' tk, (∀ b ob, s.heap.get? b = some ob → h'.get? b = some ob) → Q none { s with heap := h', toks := tk }) :
    wpAny (model prog w) A (getAttr? (.ref a) "keys") Q E s := by
  obtain ⟨c, dct, dat, sl⟩ := o
  simp only at hc hdat hd
  subst hc hdat hd
  obtain ⟨hp, g, d, tk, os⟩ := s
  have hT : ∀ tk', (⟨hp, g, d, tk', os⟩ : Shared).TypeIs (.ref a) "list" := fun _ => ⟨_, hx, rfl⟩
  have f1 := sub_AttributeError
  have f3 := F.slot_list_getattribute.lookup
  have f4 := F.slot_list_getattribute.bind (.ref a)
  have f5 := am_list_getattr_none
  unfold getAttr? getAttrBy? getAttrBy
  repeat (any_goals (first | assumption | exact hT _ | ((with_reducible show wpAny _ _ (call (Value.builtin "list.__getattribute__") _ _) _ _ _); refine call_meets F.slot_list_getattribute (hT _) am_entry_list_getattribute (F.args_list_getattribute_2 _ _) (meets_getattribute_miss_list a xs k sl "keys" _ keys_miss (by decide +kernel) (by size_fits)) ⟨hx, hA, fun h' tk' e hx' => ?_⟩) | wp_step))
  obtain ⟨t', u', he⟩ := hx'.there
  show wpAny _ _ (getattributeRaised _ _ _ _ _ _ _) _ _ _
  unfold getattributeRaised
  repeat (any_goals (first | assumption | wp_step))
  exact h _ _ hx'.keeps
theorem plain_loop : plainId "dict.update.loop" = true := by decide +kernel
/-- a pair as the loop reads it -/
def PairAt {P : Program} {w : World} {κ : Type} [DecidableEq κ] (knd : KeyKind P w κ) (h : Heap) (u : Value) (p : κ × Value) : Prop := ∃ t key, u = Value.ref t ∧ h.IsTuple t #[key, p.2] ∧ knd.is p.1 key = true
section
variable {P : Program} {w : World} {κ : Type} [DecidableEq κ] {knd : KeyKind P w κ} {A : Around}
/-- the loop of dict(pairs) -/
theorem loop_pairs {d it l : Addr} {its : Array Value} {ps : List (κ × Value)} {R : Result → Shared → Prop} (hh : A.handled = none) (hp : ∀ i : Nat, its[i]? = none ↔ ps[i]? = none) (hz : ps.length ≤ 1000) :
    ∀ (m i : Nat) (kvs : List (κ × Value)) (s : Shared), ps.length - i = m → s.heap.IsListIter it l i → s.heap.IsList l its → s.heap.DictOf knd d kvs → kvs.length ≤ i →
      (∀ (j : Nat) (u : Value) (p : κ × Value), its[j]? = some u → ps[j]? = some p → PairAt knd s.heap u p) →
      (∀ h' tk, h'.DictOf knd d (merged kvs (ps.drop i)) → (∀ b o, b ≠ d → b ≠ it → s.heap.get? b = some o → h'.get? b = some o) → R (.ok (.ret .none)) { s with heap := h', toks := tk }) →
      codeAny (model P w) A (.builtin "dict.update.loop" ⟨[.ref d, .ref it, rawInt i, .none], []⟩) R s := by
  intro m
  induction m with
  | zero =>
    intro i kvs s hm hit hl hd hk hps hR
    refine codeAny_builtin entry_loop ?_
    rw [Around.under_plainId plain_loop]
    unfold Builtin.«dict.update.loop»
    have hn : ps[i]? = none := by rw [List.getElem?_eq_none_iff]; omega
    have hx := (hp i).mpr hn
    have dit : d ≠ it := fun z => by
      subst z
      obtain ⟨o, e, c, dat⟩ := hit
      obtain ⟨o', es, ep, e', c', dd, _⟩ := hd
      rw [e] at e'
      cases e'
      rw [dat] at dd
      cases dd
    refine wpAny_bind (wpAny_pyNext_list_end hh hit hl hx fun h' eb => ?_)
    show wpAny _ _ (Builtin.Dict.addKeywords d [] >>= _) _ _ _
    refine wpAny_bind (wpAny_pure (wpAny_pure ?_))
    refine hR h' s.toks ?_ fun b o h1 h2 e => eb b o h2 e
    rw [List.drop_eq_nil_of_le (by omega)]
    exact hd.extBut eb dit
  | succ m ih =>
    intro i kvs s hm hit hl hd hk hps hR
    refine codeAny_builtin entry_loop ?_
    rw [Around.under_plainId plain_loop]
    unfold Builtin.«dict.update.loop»
    have hlt : i < ps.length := by omega
    obtain ⟨p, hpi⟩ : ∃ p, ps[i]? = some p := ⟨_, List.getElem?_eq_getElem hlt⟩
    have hni : its[i]? ≠ none := fun z => by rw [hp i, hpi] at z; cases z
    obtain ⟨u, hui⟩ := Option.ne_none_iff_exists'.mp hni
    obtain ⟨t, key, rfl, hT, hkey⟩ := hps i u p hui hpi
    have dit : d ≠ it := fun z => by
      subst z
      obtain ⟨o, e, c, dat⟩ := hit
      obtain ⟨o', es, ep, e', c', dd, _⟩ := hd
      rw [e] at e'
      cases e'
      rw [dat] at dd
      cases dd
    have dl : d ≠ l := fun z => by
      subst z
      obtain ⟨o, e, c, n, dat⟩ := hl
      obtain ⟨o', es, ep, e', c', dd, _⟩ := hd
      rw [e] at e'
      cases e'
      rw [dat] at dd
      cases dd
    have lit : l ≠ it := fun z => by
      subst z
      obtain ⟨o, e, c, n, dat⟩ := hl
      obtain ⟨o', e', c', dd⟩ := hit
      rw [e] at e'
      cases e'
      rw [dat] at dd
      cases dd
    have tupIt : ∀ {t : Addr} {xs : Array Value}, s.heap.IsTuple t xs → t ≠ it := fun hx z => by
      subst z
      obtain ⟨o, e, c, n, dat⟩ := hx
      obtain ⟨o', e', c', dd⟩ := hit
      rw [e] at e'
      cases e'
      rw [dat] at dd
      cases dd
    have tupD : ∀ {t : Addr} {xs : Array Value}, s.heap.IsTuple t xs → t ≠ d := fun hx z => by
      subst z
      obtain ⟨o, e, c, n, dat⟩ := hx
      obtain ⟨o', es, ep, e', c', dd, _⟩ := hd
      rw [e] at e'
      cases e'
      rw [dat] at dd
      cases dd
    have hd0 : ps.drop i = p :: ps.drop (i + 1) := by
      rw [List.drop_eq_getElem_cons hlt]
      congr 1
      rw [List.getElem?_eq_getElem hlt] at hpi
      injection hpi
    refine wpAny_bind (wpAny_pyNext_list_item hit hl hui fun h1 hit1 sb1 => ?_)
    have kT : ∀ {t : Addr} {xs : Array Value}, s.heap.IsTuple t xs → h1.IsTuple t xs := fun hx => by
      have ne := tupIt hx
      obtain ⟨o, e, r⟩ := hx
      exact ⟨o, (sb1.2 _ ne).trans e, r⟩
    have hd1 : h1.DictOf knd d kvs := hd.extBut sb1.extBut dit
    have hT1 := kT hT
    have hTy : Shared.TypeIs { s with heap := h1 } (.ref t) "tuple" := by obtain ⟨o, e, c, _⟩ := hT1; exact ⟨o, e, c⟩
    refine wpAny_bind (wpAny_holding (wpAny_bind (wpAny_tryCatch ?_)))
    unfold Builtin.Dict.pairItems
    refine wpAny_bind (wpAny_typeOf hTy ?_)
    rw [if_pos (by decide)]
    obtain ⟨o, e, c, n, dat⟩ := id hT1
    refine wpAny_bind ?_
    unfold seqItems?
    refine wpAny_bind (wpAny_load e ?_)
    rw [dat]
    refine wpAny_pure (wpAny_pure ?_)
    have l3 : (1000 : Nat) ≤ sizeLine := by decide
    refine wpAny_holding (wpAny_dictSet_pairs hkey hd1 (fun h2 hd2 sb2 => ?_) (by omega))
    refine wpAny_pure ⟨plainId_quiet plain_loop _, ?_⟩
    have e1 : rawInt ((i : Int) + 1) = rawInt ((i + 1 : Nat) : Int) := rfl
    refine ih (i + 1) (PySem.stored kvs p.1 p.2) { s with heap := h2, toks := s.toks + 1 } (by omega) ?_ ?_ hd2 ?_ ?_ fun h' tk hd' k' => ?_
    · obtain ⟨o, e, r⟩ := hit1
      exact ⟨o, (sb2.2 _ (Ne.symm dit)).trans e, r⟩
    · exact (hl.extBut sb1.extBut lit).extBut sb2.extBut (Ne.symm dl)
    · unfold PySem.stored
      split
      · rw [List.length_map]; omega
      · rw [List.length_append]; simp; omega
    · intro j u' p' hu' hp'
      obtain ⟨t', key', rfl, hT', hk'⟩ := hps j u' p' hu' hp'
      have nd := tupD hT'
      obtain ⟨o', e', r'⟩ := kT hT'
      exact ⟨t', key', rfl, ⟨o', (sb2.2 _ nd).trans e', r'⟩, hk'⟩
    · refine hR h' tk ?_ fun b ob h1' h2' eb => k' b ob h1' h2' ((sb2.2 _ h1').trans ((sb1.2 _ h2').trans eb))
      rw [hd0]
      exact hd'
/-- dict(a list of pairs) -/
theorem dict_pairs {l : Addr} {its : Array Value} {ps : List (κ × Value)} {Q : Value → Shared → Prop} {E : Value → Shared → Prop} {s : Shared} (hh : A.handled = none) (hl : PlainL s.heap l its) (hp : ∀ i : Nat, its[i]? = none ↔ ps[i]? = none) (hz : ps.length ≤ 1000)
    (hps : ∀ (j : Nat) (u : Value) (p : κ × Value), its[j]? = some u → ps[j]? = some p → PairAt knd s.heap u p)
    (h : ∀ h' tk, h'.DictOf knd s.heap.objs.size (merged [] ps) → (∀ b o, s.heap.get? b = some o → h'.get? b = some o) → Q (.ref s.heap.objs.size) { s with heap := h', toks := tk }) :
    wpAny (model P w) A (call (.type "dict") [.ref l]) Q E s := by
  refine callType_codes (Q₁ := fun obj s₁ => obj = .ref s.heap.objs.size ∧ s₁ = { s with heap := s.heap.push { cls := .type "dict", data := .dict #[] } }) F.kt_called_dict (F.kt_typeCall_dict_1 _) F.entry_dict_init (kt_code_dict_new _ ⟨rfl, rfl⟩) ?_
  rintro obj s₁ ⟨rfl, rfl⟩
  have hnew : (s.heap.push { cls := .type "dict", data := .dict #[] }).DictOf knd s.heap.objs.size [] := Heap.DictOf.new s.heap
  refine ⟨hnew.typeIs, F.args_dict_init_2 _ _, ?_⟩
  unfold Builtin.«dict.__init__»
  refine wpAny_bind ?_
  unfold Builtin.Dict.selfAndRest
  refine wpAny_bind (wpAny_notOrdered_dict hnew.typeIs ?_)
  show wpAny _ _ (pure (s.heap.objs.size, [Value.ref l])) _ _ _
  refine wpAny_pure ?_
  show wpAny _ _ (Builtin.Dict.updateFrom "dict.__init__" s.heap.objs.size (.ref l) [] .none) _ _ _
  unfold Builtin.Dict.updateFrom
  obtain ⟨o, n, e, c, dn, dat⟩ := id hl
  have e1 : (s.heap.push { cls := .type "dict", data := .dict #[] }).get? l = some o := Heap.get?_push_of_some _ e
  have hT : Shared.TypeIs { s with heap := s.heap.push { cls := .type "dict", data := .dict #[] } } (.ref l) "list" := ⟨o, e1, c⟩
  refine wpAny_bind (wpAny_typeOf hT ?_)
  rw [if_pos (by decide)]
  refine wpAny_bind (noKeys_list e1 c dat dn hh fun h1 tk1 k1 => ?_)
  rw [if_pos (by rfl)]
  refine wpAny_bind (wpAny_rule ?_)
  have hl1 : PlainL h1 l its := ⟨o, n, k1 _ _ e1, c, dn, dat⟩
  have hd1 : h1.DictOf knd s.heap.objs.size [] := by
    obtain ⟨o', es, ep, e', r⟩ := hnew
    exact ⟨o', es, ep, k1 _ _ e', r⟩
  refine wpAny_bind (wpAny_pyIter_list hl1.isList ?_)
  refine wpAny_pure ⟨plainId_quiet plain_loop _, ?_⟩
  have kp : ∀ b o, s.heap.get? b = some o → (h1.push { cls := .type "list_iterator", data := .fields #[.ref l, .int 0 0] }).get? b = some o := fun b o q => Heap.get?_push_of_some _ (k1 _ _ (Heap.get?_push_of_some _ q))
  refine loop_pairs (A := A.in1) (R := wants (fun r s₂ => r = Value.none ∧ Q (Value.ref s.heap.objs.size) s₂) E) (knd := knd) (d := s.heap.objs.size) (l := l) (its := its) hh hp hz ps.length 0 [] { s with heap := h1.push { cls := .type "list_iterator", data := .fields #[.ref l, .int 0 0] }, toks := tk1 } (by omega) ⟨_, Heap.get?_push_size _ rfl, rfl, rfl⟩ ?_ (hd1.push _) (Nat.le_refl _) (fun j u p hu hpj => ?_) fun h' tk hd' k' => ⟨rfl, ?_⟩
  · exact ⟨o, kp _ _ e, c, n, dat⟩
  · obtain ⟨t, key, rfl, ⟨o', e', r'⟩, hk⟩ := hps j u p hu hpj
    exact ⟨t, key, rfl, ⟨o', kp _ _ e', r'⟩, hk⟩
  · rw [List.drop_zero] at hd'
    refine h h' tk hd' fun b ob q => k' b ob (fun z => ?_) (fun z => ?_) (kp _ _ q)
    · have := Heap.lt_size q
      rw [z] at this
      exact Nat.lt_irrefl _ this
    · have := Heap.lt_size (k1 _ _ (Heap.get?_push_of_some { cls := .type "dict", data := .dict #[] } q))
      rw [z] at this
      exact Nat.lt_irrefl _ this
end
/-! ### the layer's rules -/
theorem Paired.at' {α β : Type} {F : α → β → Prop} : ∀ {xs : List α} {ys : List β} {i : Nat} {x : α} {y : β}, Paired F xs ys → xs[i]? = some x → ys[i]? = some y → F x y
  | _, _, 0, _, _, .cons h _, e1, e2 => by
    simp at e1 e2
    subst e1; subst e2
    exact h
  | _, _, i + 1, _, _, .cons _ h, e1, e2 => Paired.at' h (by simpa using e1) (by simpa using e2)
  | _, _, _, _, _, .nil, e1, _ => by simp at e1
theorem pair_ex {X : Cx} {pins : List (Addr × Obj)} {s : Shared} {σ : St} {H : Hp} (I : Inv X pins σ H s) {b : Addr} {k : Key} {v : V} (hb : H b = some (.tup [kV k, v])) : ∃ r, RelV v r ∧ PairAt (mixKind X.prog X.w) s.heap (.ref b) (k, r) := by
  obtain ⟨its, rv, tp, _⟩ := I.tuple (SqT.of hb)
  obtain ⟨key, r, e, rk, rr⟩ := Vals.two rv
  subst e
  exact ⟨r, rr, b, key, rfl, tp, kV_is rk⟩
theorem pairs_ex {X : Cx} {pins : List (Addr × Obj)} {s : Shared} {σ : St} {H : Hp} (I : Inv X pins σ H s) : ∀ {ts : List V} {kvs : List (Key × V)} {its : List Value}, Vals ts its → Paired (fun t (kv : Key × V) => ∃ b, t = V.ref b ∧ H b = some (.tup [kV kv.1, kv.2])) ts kvs →
      ∃ ps : List (Key × Value), KV kvs ps ∧ Paired (fun u p => PairAt (mixKind X.prog X.w) s.heap u p) its ps
  | _, _, _, .nil, .nil => ⟨[], .nil, .nil⟩
  | _, _, _, .cons r1 r2, .cons ⟨b, e, hb⟩ h2 => by
    subst e
    cases r1
    obtain ⟨ps, k1, k2⟩ := pairs_ex I r2 h2
    obtain ⟨r, rr, pa⟩ := pair_ex I hb
    exact ⟨(_, r) :: ps, .cons ⟨rfl, rr⟩ k1, .cons pa k2⟩
/-- dict([(k, v), ..]) of texts and any things -/
theorem call_dict_pairs {X : Cx} (hc : X.calm = true) : CallR X (.type "dict") (fun xs H Q => ∃ (l : Addr) (ts : List V) (kvs : List (Key × V)), xs = [.ref l] ∧ SqL X.K H l ts ∧ kvs.length ≤ 100 ∧ Paired (fun t (kv : Key × V) => ∃ b, t = V.ref b ∧ H b = some (.tup [kV kv.1, kv.2])) ts kvs ∧
    ∀ a, H a = none → Q (.ref a) (upd H a (.dK (mergeK [] kvs)))) := by
  intro pins s σ H xs us Q I r h
  obtain ⟨l, ts, kvs, rfl, hl, hz, hp, q⟩ := h
  obtain ⟨u, rfl, ru⟩ := vals1 r
  cases ru
  obtain ⟨its, rv, pl, _⟩ := I.list hl
  have hlen : its.length = kvs.length := by rw [← rv.length, hp.length]
  obtain ⟨ps, kv1, kv2⟩ := pairs_ex I rv hp
  have hpl : ps.length = kvs.length := kv1.length.symm
  have l3 : (1000 : Nat) ≤ sizeLine := by decide
  refine dict_pairs (knd := mixKind X.prog X.w) (its := its.toArray) (ps := ps) (I.ok.hd hc) pl (fun i => ?_) (by omega) (fun j u p hu hpj => ?_) fun h' tk hd' k' => ?_
  · rw [List.getElem?_toArray, List.getElem?_eq_none_iff, List.getElem?_eq_none_iff]; omega
  · rw [List.getElem?_toArray] at hu
    exact Paired.at' kv2 hu hpj
  · have rel : KV (mergeK [] kvs) (merged [] ps) := KV.merge kv1 .nil
    have hml := length_mergeK kvs []
    refine ⟨.ref s.heap.objs.size, _, I.laid (a := s.heap.objs.size) (o := .dK (mergeK [] kvs)) (t' := tk) k' (Nat.le_refl _) ?_, rfl, q _ (I.hok.fresh (Nat.le_refl _))⟩
    exact dk_new (by simp at hml; omega) (beq_eq_false_iff_ne.mpr (Ne.symm (Nat.ne_of_lt I.big))) rel hd'
/-- len(a set of texts) -/
theorem call_lenS {X : Cx} : CallR X (.builtin "len") (fun xs H Q => ∃ (a : Addr) (ws : List Str), xs = [.ref a] ∧ H a = some (.ext fun h => SetS X.prog X.w h a ws) ∧ Q (.int ws.length) H) := by
  intro pins s σ H xs us Q I r h
  obtain ⟨a, ws, rfl, ha, q⟩ := h
  obtain ⟨u, rfl, ru⟩ := vals1 r
  cases ru
  obtain ⟨o, es, ep, t, e, ex, hd, _, hp, _, hs, hf, _⟩ := (I.hok a _ ha).1
  have hl : es.size = ws.length := by
    have := hp.length_eq
    rw [List.length_map] at this
    simpa using this
  have hsc : (scanBound : Int) < 2 ^ 63 := by decide
  exact call_len_set e ex hd hf (by omega) ⟨.int ws.length, H, I.tok _, ⟨s.toks + 1, by rw [hl]⟩, q⟩
end L2

set_option Elab.async false
set_option linter.all false
set_option maxRecDepth 100000
set_option maxHeartbeats 4000000
/-! TABLE[x] of a table of the module; for over zip; a walk over one of two kinds. -/
namespace L2
open PySem PySem.Spec PyProof.Rows
def rTab (K : PySem.W.Frag) (a : Addr) (tab : Str → Option (List Str)) : R2 := fun x y H Q => x = .ref a ∧ ∃ k ks, y = .str k ∧ tab k = some ks ∧ ∀ b, SqT K H b (ks.map V.str) → Q (.ref b) H
theorem ix_tab {X : Cx} {a : Addr} {tab : Str → Option (List Str)} (T : TabK X.w X.K a tab) : IxR X (rTab X.K a tab) := by
  intro value slice pins s σ H x y v u Q I rx ry h hs
  obtain ⟨rfl, k, ks, rfl, hk, q⟩ := h
  cases rx
  obtain ⟨t, rfl⟩ := ry
  obtain ⟨es, m, lk, keys, look⟩ := T.ex
  have hm := PySem.W.mapOf_K (prog := X.prog) (w := X.w) I.kIn lk keys
  have lx := look k
  rw [hk] at lx
  obtain ⟨b, fb, o, its, m', l1, l2, l3, l4, l5⟩ := lx
  exact subscriptTail_builtinR hm.typeIs PySem.F.slot_dict_getitem.lookup (wpAny_getItem_of (knd := strKind X.prog X.w) (strKind_is X.prog X.w k t) hm fb ⟨rfl, ⟨.ref b, H, I.tok _, rfl, q b (.inr ⟨o, its, m', l1, l2, l3, l4, l5⟩)⟩⟩) hs
open PySem.AutoSeq1 in theorem extend_tupG (l : Addr) (items : Array Value) (n : Nat) (b : Addr) (items2 : Array Value) (n2 : Nat) (od : Option Addr) (osl : Array (Option Value)) (hs0 : ¬ (!items.isEmpty && Builtin.List.listTooLong (items.size + items2.size)) = true) (hs1 : items.size ≤ sizeLine) (hs2 : items.size + items2.size ≤ sizeLine + 1) :
    Meets (Builtin.«list.extend» ⟨[.ref l, .ref b], []⟩) (fun _ R s => s.heap.get? l = some { cls := .type "list", data := .seq items n } ∧ s.heap.get? b = some ⟨.type "tuple", od, .seq items2 n2, osl⟩ ∧
      R (.ok (.ret Value.none)) { s with heap := s.heap.update l (Obj.mapSeq fun x => x ++ items2), toks := s.toks }) :=
  .of_wp fun prog w A R s h => by
    obtain ⟨hp, g, d, tk, os⟩ := s
    obtain ⟨hl, hb, h⟩ := h
    have f1 := idx_int
    have f2 := PySem.AutoSeq1.sub_tuple_tuple
    have f3 := PySem.AutoSeq1.sub_list_list
    have f4 := PySem.AutoSeq1.sub_tuple_list
    have f5 := PySem.AutoSeq1.sub_list_tuple
    have hz' : (items ++ items2).size ≤ sizeLine + 1 := by rw [Array.size_append]; exact hs2
    wp_walk using (wpAny_updateSeq hl rfl (hz := hs1) (_hz' := hz')), wpAny_loadPart' hl, wpAny_loadPart' hb
    exact ⟨_, rfl, h⟩
end L2

set_option Elab.async false
set_option linter.all false
set_option maxRecDepth 100000
set_option maxHeartbeats 4000000
namespace K05
open PySem L2
seal L2.PE L2.PS L2.PSs L2.PT L2.PW L2.PA L2.PG L2.PGs L2.PI L2.PO L2.PIfs L2.PC L2.OpR L2.CallR L2.IxR L2.SlR L2.PSet L2.UnR
/-! ### what a box, a list, a function is -/
def boxV (H : Hp) (v : V) : Bool := match tupAt H v with
  | some [y, z] => nmV y && numV z
  | _ => false
def listV (H : Hp) (v : V) : Bool := match tupAt H v with
  | some [y, z] => nmV y && tupOf H 12 (fun _ x => numV x) z
  | _ => false
def funV (H : Hp) (v : V) : Bool := match tupAt H v with
  | some [x, ps, os, rs] => nmV x && (tupOf H 3 (fun _ x => nmV x) ps && (tupOf H 3 (fun _ x => nmV x) os && (tupAt H rs).isSome))
  | _ => false
theorem stb_nm : Stb (fun _ x => nmV x) := fun _ _ => rfl
theorem tup_nm {p : Addr} {H H' : Hp} {n m : Nat} {v : V} (s : Same H H') (h : Dt p H n v) : tupOf H' m (fun _ x => nmV x) v = tupOf H m (fun _ x => nmV x) v := stb_tup stb_nm s h
theorem stb_box : Stb boxV := by
  intro p H H' n v s h
  unfold boxV
  rw [tupAt_same s h]
theorem stb_list : Stb listV := by
  intro p H H' n v s h
  unfold listV
  rw [tupAt_same s h]
  obtain ⟨t, ty, ⟨k, a, xs, rfl, rfl, rfl, ha, _, hx⟩ | ⟨hf, hn⟩⟩ := h.tupOr
  · rw [tupAt_tup ha]
    match xs, hx with
    | [], _ => rfl
    | [_], _ => rfl
    | [y, z], hx =>
      dsimp only
      rw [tup_num s (hx z (by simp))]
    | _ :: _ :: _ :: _, _ => rfl
  · rw [hn]
theorem stb_fun : Stb funV := by
  intro p H H' n v s h
  unfold funV
  rw [tupAt_same s h]
  obtain ⟨t, ty, ⟨k, a, xs, rfl, rfl, rfl, ha, _, hx⟩ | ⟨hf, hn⟩⟩ := h.tupOr
  · rw [tupAt_tup ha]
    match xs, hx with
    | [], _ => rfl
    | [_], _ => rfl
    | [_, _], _ => rfl
    | [_, _, _], _ => rfl
    | [x, ps, os, rs], hx =>
      dsimp only
      rw [tup_nm s (hx ps (by simp)), tup_nm s (hx os (by simp)), tupAt_same s (hx rs (by simp))]
    | _ :: _ :: _ :: _ :: _ :: _, _ => rfl
  · rw [hn]
/-! ### texts of which none comes twice -/
theorem nodup_le : ∀ {l m : List Str}, l.Nodup → (∀ x ∈ l, x ∈ m) → l.length ≤ m.length
  | [], _, _, _ => Nat.zero_le _
  | x :: r, m, h, k => by
    have hx := k x List.mem_cons_self
    obtain ⟨h1, h2⟩ := List.nodup_cons.mp h
    have := nodup_le (l := r) (m := m.erase x) h2 fun y hy => (List.mem_erase_of_ne (fun e => h1 (by rw [← e]; exact hy))).mpr (k y (List.mem_cons_of_mem _ hy))
    rw [List.length_erase_of_mem hx] at this
    have hp : 0 < m.length := List.length_pos_of_mem hx
    rw [List.length_cons]
    omega
theorem twice : ∀ {m : List Str}, ¬ m.Nodup → ∃ x, x ∈ m ∧ x ∈ m.erase x
  | [], h => absurd List.nodup_nil h
  | y :: r, h => by
    by_cases hy : y ∈ r
    · exact ⟨y, List.mem_cons_self, by rw [List.erase_cons_head]; exact hy⟩
    · obtain ⟨x, h1, h2⟩ := twice (m := r) fun z => h (List.nodup_cons.mpr ⟨hy, z⟩)
      have ne : y ≠ x := fun e => hy (by rw [e]; exact h1)
      refine ⟨x, List.mem_cons_of_mem _ h1, ?_⟩
      rw [List.erase_cons_tail (by simpa using ne)]
      exact List.mem_cons_of_mem _ h2
theorem fold_len (ws : List Str) : decide ((foldT ws).length = ws.length) = decide ws.Nodup := by
  obtain ⟨n1, m1⟩ := foldT_facts ws
  have le := nodup_le n1 fun x hx => (m1 x).mp hx
  by_cases h : ws.Nodup
  · have ge := nodup_le h fun x hx => (m1 x).mpr hx
    rw [decide_eq_true h, decide_eq_true (by omega)]
  · rw [decide_eq_false h, decide_eq_false]
    intro e
    obtain ⟨x, h1, h2⟩ := twice h
    have hp : 0 < ws.length := List.length_pos_of_mem h1
    have : (foldT ws).length ≤ (ws.erase x).length := nodup_le n1 fun y hy => by
      by_cases e : y = x
      · rw [e]; exact h2
      · exact (List.mem_erase_of_ne e).mpr ((m1 y).mp hy)
    rw [List.length_erase_of_mem h1] at this
    omega
section
variable {P : Program} {w : World} {K : PySem.W.Frag} {mg : Str → Option Value} {base : Heap}
/-! ### row_kinds -/
theorem sc_row_kinds : FnScope ["word"] ["word"] (defScope (top 16)) := ⟨rfl, rfl, rfl, by decide +kernel, rfl, by decide +kernel, by decide +kernel⟩
def spRKinds (K : PySem.W.Frag) : Sp := fun vs H Q _ => ∃ (x : Str), vs = [.str x] ∧ (match rforms x with
  | some ks => ∀ b, SqT K H b (ks.map V.str) → Q (.ref b) H
  | none => Q .non H)
theorem d_row_kinds (T : Txt w K mg) (S : Src K mg "row_kinds" (top 16) ["word"]) : Def P w K mg base 1 "row_kinds" ["word"] (spRKinds K) := by
  obtain ⟨aF, mF, tab⟩ := T.rtab
  refine S.ok sc_row_kinds (fun vs H Q E h => ?_) (fun f cdv A outer s H vs Q E hr h => ?_)
  · obtain ⟨x, rfl, _⟩ := h; rfl
  obtain ⟨x, rfl, q⟩ := h
  exact ⟨_, (pss_one (ps_ret (pe_tabget tab rfl mF (pv 0)))), _, rfl, x, rfl, q⟩
/-! ### is_box, is_list -/
theorem two_or {α : Type} {f : V → V → Bool} {xs : List V} (h : ¬ xs.length = 2) : (match (some xs : Option (List V)) with
  | some [y, z] => f y z
  | _ => false) = false := by
  match xs, h with
  | [], _ => rfl
  | [_], _ => rfl
  | [_, _], h => exact absurd rfl h
  | _ :: _ :: _ :: _, _ => rfl
theorem sc_box : FnScope ["thing"] ["thing"] (defScope (top 47)) := ⟨rfl, rfl, rfl, by decide +kernel, rfl, by decide +kernel, by decide +kernel⟩
theorem d_box (T : Txt w K mg) (D_is_name : Def P w K mg base 1 "is_name" ["thing"] spIsName) (D_is_number : Def P w K mg base 2 "is_number" ["thing"] spIsNum) (D_is_pair : Def P w K mg base 1 "is_pair" ["thing"] spPair)
    (S : Src K mg "is_box" (top 47) ["thing"]) : Def P w K mg base 3 "is_box" ["thing"] (spPred boxV) := by
  refine S.ok sc_box (fun vs H Q E h => ?_) (fun f0 cdv A outer s H vs Q E hr h => ?_)
  · obtain ⟨v, p, n, rfl, _⟩ := h; rfl
  obtain ⟨v, p, n, rfl, hv, q⟩ := h
  refine ⟨_, (pss_one (ps_ret (pe_and (pe_def (D_is_pair.mono (by decide)) hr rfl (pac (pv 0) pa_nil)) (pe_and (pe_def (D_is_name.mono (by decide)) hr rfl (pac (pe_ix ix_tup (pv 0) pe_int (fun _ _ => rfl)) pa_nil)) (pe_one (pe_def (D_is_number.mono (by decide)) hr rfl (pac (pe_ix ix_tup (pv 0) pe_int (fun _ _ => rfl)) pa_nil))))))), ?_⟩
  refine ⟨_, rfl, v, p, n, rfl, hv, _, rfl, ite2 (fun c => ?_) (fun c => ?_)⟩
  · obtain ⟨t, ty, ⟨j, a, xs, rfl, rfl, rfl, ha, hl, hx⟩ | ⟨hf, hn⟩⟩ := hv.tupOr
    case inr => unfold pairV at c; rw [hn] at c; cases c
    have c2 : xs.length = 2 := by unfold pairV at c; rw [tupAt_tup ha] at c; exact of_decide_eq_true c
    match xs, c2, hx, ha with
    | [y, z], _, hx, ha =>
    have eA : boxV H (.ref a) = (nmV y && numV z) := by unfold boxV; rw [tupAt_tup ha]
    refine ⟨_, rfl, a, _, 0, _, rfl, rfl, SqT.of ha, atI_nat (j := 0) rfl, y, p, j, rfl, hx y (by simp), fun H1 s1 => ?_⟩
    refine ⟨_, rfl, ite2 (fun d => ?_) (fun d => ?_)⟩
    · refine ⟨_, rfl, a, _, 1, _, rfl, rfl, SqT.of (s1 _ _ ha), atI_nat (j := 1) rfl, z, p, j, rfl, (hx z (by simp)).same s1, ?_⟩
      rw [d, Bool.true_and] at eA
      rw [← eA]
      exact q H1 s1
    · rw [Bool.eq_false_iff.mpr d, Bool.false_and] at eA
      rw [← eA]
      exact q H1 s1
  · have e : boxV H v = false := by
      unfold boxV pairV at *
      cases h : tupAt H v with
      | none => rfl
      | some xs =>
        rw [h] at c
        exact two_or (α := Nat) fun z => c (decide_eq_true z)
    rw [← e]
    exact q H (Same.refl H)
theorem sc_list : FnScope ["thing"] ["thing"] (defScope (top 48)) := ⟨rfl, rfl, rfl, by decide +kernel, rfl, by decide +kernel, by decide +kernel⟩
theorem d_list (T : Txt w K mg) (D_is_name : Def P w K mg base 1 "is_name" ["thing"] spIsName) (D_is_number : Def P w K mg base 2 "is_number" ["thing"] spIsNum) (D_is_pair : Def P w K mg base 1 "is_pair" ["thing"] spPair)
    (D_is_tuple_of : Def P w K mg base 3 "is_tuple_of" ["thing", "most", "is_one"] (spTupOf P w K mg base 2)) (S : Src K mg "is_list" (top 48) ["thing"]) : Def P w K mg base 4 "is_list" ["thing"] (spPred listV) := by
  obtain ⟨tm, v_MOST_THINGS⟩ := T.cthings
  obtain ⟨fn, fd, F, hfn, hkn, hbn⟩ := D_is_number.ex
  refine S.ok sc_list (fun vs H Q E h => ?_) (fun f0 cdv A outer s H vs Q E hr h => ?_)
  · obtain ⟨v, p, n, rfl, _⟩ := h; rfl
  obtain ⟨v, p, n, rfl, hv, q⟩ := h
  refine ⟨_, (pss_one (ps_ret (pe_and (pe_def (D_is_pair.mono (by decide)) hr rfl (pac (pv 0) pa_nil)) (pe_and (pe_def (D_is_name.mono (by decide)) hr rfl (pac (pe_ix ix_tup (pv 0) pe_int (fun _ _ => rfl)) pa_nil)) (pe_one (pe_def (D_is_tuple_of) hr rfl (pac (pe_ix ix_tup (pv 0) pe_int (fun _ _ => rfl)) (pac (pe_glob (v := .int (12)) rfl v_MOST_THINGS ⟨_, rfl⟩) (pac (pe_glob (v := .ref fn) rfl hfn rfl) pa_nil))))))))), ?_⟩
  refine ⟨_, rfl, v, p, n, rfl, hv, _, rfl, ite2 (fun c => ?_) (fun c => ?_)⟩
  · obtain ⟨t, ty, ⟨j, a, xs, rfl, rfl, rfl, ha, hl, hx⟩ | ⟨hf, hn⟩⟩ := hv.tupOr
    case inr => unfold pairV at c; rw [hn] at c; cases c
    have c2 : xs.length = 2 := by unfold pairV at c; rw [tupAt_tup ha] at c; exact of_decide_eq_true c
    match xs, c2, hx, ha with
    | [y, z], _, hx, ha =>
    have eA : listV H (.ref a) = (nmV y && tupOf H 12 (fun _ x => numV x) z) := by unfold listV; rw [tupAt_tup ha]
    refine ⟨_, rfl, a, _, 0, _, rfl, rfl, SqT.of ha, atI_nat (j := 0) rfl, y, p, j, rfl, hx y (by simp), fun H1 s1 => ?_⟩
    refine ⟨_, rfl, ite2 (fun d => ?_) (fun d => ?_)⟩
    · refine ⟨_, rfl, a, _, 1, _, rfl, rfl, SqT.of (s1 _ _ ha), atI_nat (j := 1) rfl, z, 12, fn, fd, _, fun _ x => numV x, p, j, rfl, (hx z (by simp)).same s1, F.imp (fun vs H Q E h => ?_), hkn, hbn, stb_num, fun H2 s2 => ?_⟩
      · obtain ⟨v, p, n, e, hv, q⟩ := h
        exact ⟨v, p, n, e, hv, q H (Same.refl H)⟩
      · rw [tup_num s1 (hx z (by simp))]
        rw [d, Bool.true_and] at eA
        rw [← eA]
        exact q H2 (s1.trans s2)
    · rw [Bool.eq_false_iff.mpr d, Bool.false_and] at eA
      rw [← eA]
      exact q H1 s1
  · have e : listV H v = false := by
      unfold listV pairV at *
      cases h : tupAt H v with
      | none => rfl
      | some xs =>
        rw [h] at c
        exact two_or (α := Nat) fun z => c (decide_eq_true z)
    rw [← e]
    exact q H (Same.refl H)
/-! ### is_function -/
theorem sc_fun : FnScope ["thing"] ["thing"] (defScope (top 49)) := ⟨rfl, rfl, rfl, by decide +kernel, rfl, by decide +kernel, by decide +kernel⟩
theorem d_fun (T : Txt w K mg) (D_is_name : Def P w K mg base 1 "is_name" ["thing"] spIsName)
    (D_is_tuple_of : Def P w K mg base 2 "is_tuple_of" ["thing", "most", "is_one"] (spTupOf P w K mg base 1)) (S : Src K mg "is_function" (top 49) ["thing"]) : Def P w K mg base 3 "is_function" ["thing"] (spPred funV) := by
  obtain ⟨tm, v_MOST_NAMES⟩ := T.cnames
  obtain ⟨fn, fd, F, hfn, hkn, hbn⟩ := D_is_name.ex
  refine S.ok sc_fun (fun vs H Q E h => ?_) (fun f0 cdv A outer s H vs Q E hr h => ?_)
  · obtain ⟨v, p, n, rfl, _⟩ := h; rfl
  obtain ⟨v, p, n, rfl, hv, q⟩ := h
  refine ⟨_, (pss_cons (ps_if (pt_cut (PW.pt (pw_or (pt_not (pt_val (pe_cB call_isi rfl T.z_isinstance bt_isinstance (pac (pv 0) (pac (pe_ty T.z_tuple bt_tuple rfl) pa_nil))))) (pw_or (pt_cmpR op_ne (pe_cB call_len_seq rfl T.z_len bt_len (pac (pv 0) pa_nil)) pe_int (nomark _)) (pw_or1 (pt_not (pt_val (pe_def (D_is_name.mono (by decide)) hr rfl (pac (pe_ix ix_tup (pv 0) pe_int (fun _ _ => rfl)) pa_nil)))))))))
      (pss_one (ps_ret pe_bl)) pss_nil)
      (pss_cons (ps_if (pt_cut (PW.pt (pw_or (pt_not (pt_val (pe_def (D_is_tuple_of) hr rfl (pac (pe_ix ix_tup (pv 0) pe_int (fun _ _ => rfl)) (pac (pe_glob (v := .int (3)) rfl v_MOST_NAMES ⟨_, rfl⟩) (pac (pe_glob (v := .ref fn) rfl hfn rfl) pa_nil)))))) (pw_or1 (pt_not (pt_val (pe_def (D_is_tuple_of) hr rfl (pac (pe_ix ix_tup (pv 0) pe_int (fun _ _ => rfl)) (pac (pe_glob (v := .int (3)) rfl v_MOST_NAMES ⟨_, rfl⟩) (pac (pe_glob (v := .ref fn) rfl hfn rfl) pa_nil))))))))))
      (pss_one (ps_ret pe_bl)) pss_nil)
      (pss_one (ps_ret (pe_cB call_isi rfl T.z_isinstance bt_isinstance (pac (pe_ix ix_tup (pv 0) pe_int (fun _ _ => rfl)) (pac (pe_ty T.z_tuple bt_tuple rfl) pa_nil))))))), ?_⟩
  refine ⟨fun t H' => Same H H' ∧ ((t = true ∧ funV H v = false) ∨ (t = false ∧ ∃ (j : Nat) (a : Addr) (x ps os rs : V), v = .ref a ∧ H a = some (.tup [x, ps, os, rs]) ∧ nmV x = true ∧ ∀ y ∈ [x, ps, os, rs], Dt p H j y)), ?_, ?_⟩
  · obtain ⟨t, ty, ⟨j, a, xs, rfl, rfl, rfl, ha, hl, hx⟩ | ⟨hf, hn⟩⟩ := hv.tupOr
    case inr => exact ⟨_, rfl, _, "tuple", _, rfl, ty, by simp, _, rfl, ifT (by rw [hf]; rfl) ⟨Same.refl H, .inl ⟨rfl, by unfold funV; rw [hn]⟩⟩⟩
    refine ⟨_, rfl, _, "tuple", _, rfl, ty, by simp, _, rfl, ifF (by decide) ?_⟩
    refine ⟨_, rfl, a, _, rfl, .inr (SqT.of ha), rfl, _, rfl, ?_⟩
    by_cases c4 : xs.length = 4
    case neg =>
      refine ifT ?_ ⟨Same.refl H, .inl ⟨rfl, ?_⟩⟩
      · rw [decide_eq_false (by intro z; injection z with z; omega)]; rfl
      · unfold funV
        rw [tupAt_tup ha]
        match xs, c4 with
        | [], _ => rfl
        | [_], _ => rfl
        | [_, _], _ => rfl
        | [_, _, _], _ => rfl
        | [_, _, _, _], h => exact absurd rfl h
        | _ :: _ :: _ :: _ :: _ :: _, _ => rfl
    match xs, c4, hx, ha with
    | [x, ps, os, rs], _, hx, ha =>
    refine ifF (by rw [decide_eq_true (show V.int (([x, ps, os, rs].length : Nat) : Int) = V.int 4 from rfl)]; rfl) ?_
    refine ⟨_, rfl, a, _, 0, _, rfl, rfl, SqT.of ha, atI_nat (j := 0) rfl, x, p, j, rfl, hx x (by simp), fun H1 s1 => ?_⟩
    refine ⟨_, rfl, s1, ?_⟩
    cases hm : nmV x with
    | false => exact .inl ⟨rfl, by unfold funV; rw [tupAt_tup ha]; dsimp only; rw [hm, Bool.false_and]⟩
    | true => exact .inr ⟨rfl, j, a, x, ps, os, rs, rfl, ha, hm, hx⟩
  rintro t H1 ⟨s1, ⟨rfl, e⟩ | ⟨rfl, j, a, x, ps, os, rs, rfl, ha, hm, hx⟩⟩
  · rw [← e]
    exact ifT rfl (q H1 s1)
  refine ifF rfl ?_
  have eF : funV H (.ref a) = (tupOf H 3 (fun _ x => nmV x) ps && (tupOf H 3 (fun _ x => nmV x) os && (tupAt H rs).isSome)) := by unfold funV; rw [tupAt_tup ha]; dsimp only; rw [hm, Bool.true_and]
  have Fp : FnOk P w K mg base CX0 1 fn fd ["thing"] (spPred fun _ x => nmV x) := F
  refine ⟨fun t H' => Same H H' ∧ t = !(tupOf H 3 (fun _ x => nmV x) ps && tupOf H 3 (fun _ x => nmV x) os), ?_, ?_⟩
  · refine ⟨_, rfl, a, _, 1, _, rfl, rfl, SqT.of (s1 _ _ ha), atI_nat (j := 1) rfl, ps, 3, fn, fd, _, fun _ x => nmV x, p, j, rfl, (hx ps (by simp)).same s1, Fp, hkn, hbn, stb_nm, fun H2 s2 => ?_⟩
    rw [tup_nm s1 (hx ps (by simp))]
    have s12 := s1.trans s2
    refine ⟨_, rfl, ?_⟩
    cases hp : tupOf H 3 (fun _ x => nmV x) ps with
    | false => exact ifT rfl ⟨s12, rfl⟩
    | true =>
      refine ifF rfl ?_
      refine ⟨_, rfl, a, _, 2, _, rfl, rfl, SqT.of (s12 _ _ ha), atI_nat (j := 2) rfl, os, 3, fn, fd, _, fun _ x => nmV x, p, j, rfl, (hx os (by simp)).same s12, Fp, hkn, hbn, stb_nm, fun H3 s3 => ?_⟩
      rw [tup_nm s12 (hx os (by simp))]
      exact ⟨_, rfl, s12.trans s3, by rw [Bool.true_and]⟩
  rintro t H2 ⟨s2, rfl⟩
  cases hb : (tupOf H 3 (fun _ x => nmV x) ps && tupOf H 3 (fun _ x => nmV x) os) with
  | false =>
    refine ifT rfl ?_
    have e : funV H (.ref a) = false := by rw [eF, ← Bool.and_assoc, hb, Bool.false_and]
    rw [← e]
    exact q H2 s2
  | true =>
    refine ifF rfl ?_
    rw [eF, ← Bool.and_assoc, hb, Bool.true_and] at q
    have hrs := (hx rs (by simp)).same s2
    obtain ⟨t, ty, ⟨j', b, xs, _, rfl, rfl, hb', _, _⟩ | ⟨hf, hn⟩⟩ := hrs.tupOr
    · refine ⟨_, rfl, a, _, 3, _, rfl, rfl, SqT.of (s2 _ _ ha), atI_nat (j := 3) rfl, _, "tuple", _, rfl, ty, by simp, ?_⟩
      have := q H2 s2
      rw [← tupAt_same s2 (hx _ (by simp)), tupAt_tup hb'] at this
      exact this
    · refine ⟨_, rfl, a, _, 3, _, rfl, rfl, SqT.of (s2 _ _ ha), atI_nat (j := 3) rfl, _, "tuple", _, rfl, ty, by simp, ?_⟩
      have := q H2 s2
      rw [← tupAt_same s2 (hx _ (by simp)), hn] at this
      rw [hf]
      exact this
/-! ### own_names, are_unlike -/
theorem bt_set : bootBuiltins "set" = some (.type "set") := by decide +kernel
theorem bt_dict : bootBuiltins "dict" = some (.type "dict") := by decide +kernel
theorem sc_own : FnScope ["function"] ["function"] (defScope (top 51)) := ⟨rfl, rfl, rfl, by decide +kernel, rfl, by decide +kernel, by decide +kernel⟩
def spOwn : Sp := fun vs H Q _ => ∃ (a pa oa : Addr) (x r : V) (ps os : List V), vs = [.ref a] ∧ H a = some (.tup [x, .ref pa, .ref oa, r]) ∧ H pa = some (.tup ps) ∧ H oa = some (.tup os) ∧ ps.length ≤ 9100 ∧ os.length ≤ 9100 ∧
  ∀ l H', H l = none → Same H H' → H' l = some (.lst (ps ++ os)) → Q (.ref l) H'
theorem d_own (T : Txt w K mg) (S : Src K mg "own_names" (top 51) ["function"]) : Def P w K mg base 1 "own_names" ["function"] spOwn := by
  refine S.ok sc_own (fun vs H Q E h => ?_) (fun f0 cdv A outer s H vs Q E hr h => ?_)
  · obtain ⟨a, pa, oa, x, r, ps, os, rfl, _⟩ := h; rfl
  obtain ⟨a, pa, oa, x, r, ps, os, rfl, ha, hp, ho, lp, lo, q⟩ := h
  refine ⟨_, (pss_one (ps_ret (pe_op op_cat (pe_cT call_list_of rfl T.z_list bt_list (pac (pe_ix ix_tup (pv 0) pe_int (fun _ _ => rfl)) pa_nil)) (pe_cT call_list_of rfl T.z_list bt_list (pac (pe_ix ix_tup (pv 0) pe_int (fun _ _ => rfl)) pa_nil))))), ?_⟩
  have l3 : (100000 : Nat) < sizeLine := by rw [sizeLine_eq]; decide
  refine ⟨_, rfl, a, _, 1, _, rfl, rfl, SqT.of ha, atI_nat (j := 1) rfl, pa, _, rfl, .inr (SqT.of hp), fun u1 h1 => ?_⟩
  have s1 := same_of_new h1 (.lst ps)
  refine ⟨_, rfl, a, _, 2, _, rfl, rfl, SqT.of (s1 _ _ ha), atI_nat (j := 2) rfl, oa, _, rfl, .inr (SqT.of (s1 _ _ ho)), fun u2 h2 => ?_⟩
  have s2 := same_of_new h2 (.lst os)
  refine ⟨u1, u2, ps, os, rfl, rfl, s2 _ _ upd_same, upd_same, by omega, fun u3 h3 => ?_⟩
  have s3 := same_of_new h3 (.lst (ps ++ os))
  exact q u3 _ (s1.free (s2.free h3)) (s1.trans (s2.trans s3)) upd_same
theorem sc_unlike : FnScope ["names"] ["names"] (defScope (top 52)) := ⟨rfl, rfl, rfl, by decide +kernel, rfl, by decide +kernel, by decide +kernel⟩
def spUnlike : Sp := fun vs H Q _ => ∃ (l : Addr) (ws : List Str), vs = [.ref l] ∧ H l = some (.lst (ws.map V.str)) ∧ ws.length < 64 ∧ ∀ H', Same H H' → Q (.bl (decide ws.Nodup)) H'
theorem d_unlike (T : Txt w K mg) (S : Src K mg "are_unlike" (top 52) ["names"]) : Def P w K mg base 1 "are_unlike" ["names"] spUnlike := by
  refine S.ok sc_unlike (fun vs H Q E h => ?_) (fun f0 cdv A outer s H vs Q E hr h => ?_)
  · obtain ⟨l, ws, rfl, _⟩ := h; rfl
  obtain ⟨l, ws, rfl, hl, hz, q⟩ := h
  refine ⟨_, (pss_one (ps_ret (pe_cmpR op_eq (pe_cB call_lenS rfl T.z_len bt_len (pac (pe_cT (call_set_texts rfl) rfl T.z_set bt_set (pac (pv 0) pa_nil)) pa_nil)) (pe_cB call_len_seq rfl T.z_len bt_len (pac (pv 0) pa_nil)) (nomark _)))), ?_⟩
  obtain ⟨n1, m1⟩ := foldT_facts ws
  have le := nodup_le n1 fun x hx => (m1 x).mp hx
  refine ⟨_, rfl, l, ws, rfl, SqL.of hl, by omega, fun a ha => ?_⟩
  refine ⟨a, _, rfl, upd_same, _, rfl, l, _, rfl, .inl (SqL.of ((same_of_new ha _) _ _ hl)), rfl, ?_⟩
  have z := q _ (same_of_new ha (.ext fun h => SetS P w h a (foldT ws)))
  rw [← fold_len] at z
  have e : decide (V.int ((foldT ws).length : Int) = V.int (((ws.map V.str).length : Nat) : Int)) = decide ((foldT ws).length = ws.length) := by
    rw [List.length_map]
    by_cases h : (foldT ws).length = ws.length
    · rw [decide_eq_true h, h, decide_eq_true rfl]
    · rw [decide_eq_false h, decide_eq_false]
      intro z; injection z with z; omega
  rw [e]
  exact z
end
end K05

set_option Elab.async false
set_option linter.all false
set_option maxRecDepth 100000
set_option maxHeartbeats 4000000
namespace K05
open PySem L2
seal L2.PE L2.PS L2.PSs L2.PT L2.PW L2.PA L2.PG L2.PGs L2.PI L2.PO L2.PIfs L2.PC L2.OpR L2.CallR L2.IxR L2.SlR L2.PSet L2.UnR
/-! ### what a row is -/
abbrev Kvs := List (Key × V)
def fnB (kvs : Kvs) : V → Bool
  | .str x => (valV kvs (Sum.inr x)).isSome
  | _ => false
def rowsB (H : Hp) (rec : V → Bool) (v : V) : Bool := match tupAt H v with
  | some xs => xs.all rec
  | none => false
def rPt (H : Hp) (bs ls : List Str) (kvs : Kvs) (rec : V → Bool) (kind : Str) (v : V) : Bool :=
  if kind = "rows" then rowsB H rec v else if kind = "value" then isVal H bs ls 4 v else if kind = "values" then rowsB H (isVal H bs ls 4) v else
  nmV v && (if kind = "box" then inN bs v else if kind = "list" then inN ls v else if kind = "function" then fnB kvs v else decide (kind = "door"))
def callB (H : Hp) (kvs : Kvs) : List V → Bool
  | [_, .str f, v] => match tupAt H v with
    | some xs => decide (valV kvs (Sum.inr f) = some (V.int (xs.length : Int)))
    | none => false
  | _ => false
def rBody (H : Hp) (bs ls : List Str) (kvs : Kvs) (r : Bool) (rec : V → Bool) (x : Str) (rest : List V) : Bool := match rforms x with
  | some ks => decide (rest.length = ks.length) && (!(decide (x = "return") && !r) && (((ks.zip rest).all fun p => rPt H bs ls kvs rec p.1 p.2) && (!decide (x = "call") || callB H kvs rest)))
  | none => false
def isRw (H : Hp) (bs ls : List Str) (kvs : Kvs) (r : Bool) : Nat → V → Bool
  | 0, _ => false
  | k + 1, v => match tupAt H v with
    | some (.str x :: rest) => rBody H bs ls kvs r (isRw H bs ls kvs r k) x rest
    | _ => false
theorem isRw_cons {H : Hp} {bs ls : List Str} {kvs : Kvs} {r : Bool} {k : Nat} {a : Addr} {x : Str} {rest : List V} (h : H a = some (.tup (.str x :: rest))) : isRw H bs ls kvs r (k + 1) (.ref a) = rBody H bs ls kvs r (isRw H bs ls kvs r k) x rest := by
  show (match tupAt H (.ref a) with
    | some (.str x :: rest) => rBody H bs ls kvs r (isRw H bs ls kvs r k) x rest
    | _ => false) = _
  rw [tupAt_tup h]
theorem isRw_not {H : Hp} {bs ls : List Str} {kvs : Kvs} {r : Bool} {k : Nat} {v : V} (h : wordV H v = false) : isRw H bs ls kvs r k v = false := by
  cases k with
  | zero => rfl
  | succ k =>
    show (match tupAt H v with
      | some (.str x :: rest) => rBody H bs ls kvs r (isRw H bs ls kvs r k) x rest
      | _ => false) = _
    unfold wordV at h
    cases e : tupAt H v with
    | none => rfl
    | some xs =>
      rw [e] at h
      cases xs with
      | nil => rfl
      | cons y ys =>
        cases y with
        | str x => cases h
        | _ => rfl
theorem rowsB_same {p : Addr} {H H' : Hp} {n : Nat} {v : V} {f g : V → Bool} (e : Same H H') (h : Dt p H n v) (hf : ∀ m z, Dt p H m z → f z = g z) : rowsB H' f v = rowsB H g v := by
  unfold rowsB
  rw [tupAt_same e h]
  obtain ⟨t, ty, ⟨m, a, xs, _, rfl, rfl, ha, _, hx⟩ | ⟨_, hn⟩⟩ := h.tupOr
  · rw [tupAt_tup ha]
    exact all_congr fun z hz => hf m z (hx z hz)
  · rw [hn]
theorem rPt_same {p : Addr} {H H' : Hp} {n : Nat} {v : V} {bs ls : List Str} {kvs : Kvs} {f g : V → Bool} (e : Same H H') (h : Dt p H n v) (hf : ∀ m z, Dt p H m z → f z = g z) (kind : Str) : rPt H' bs ls kvs f kind v = rPt H bs ls kvs g kind v := by
  unfold rPt
  rw [rowsB_same e h hf, isVal_same e h, rowsB_same e h fun m z hz => isVal_same e hz]
theorem callB_same {p : Addr} {H H' : Hp} {m : Nat} {kvs : Kvs} {rest : List V} (e : Same H H') (h : ∀ z ∈ rest, Dt p H m z) : callB H' kvs rest = callB H kvs rest := by
  match rest, h with
  | [], _ => rfl
  | [_], _ => rfl
  | [_, b], _ => cases b <;> rfl
  | [a, b, v], h =>
    cases b with
    | str f =>
      show (match tupAt H' v with
        | some xs => decide (valV kvs (Sum.inr f) = some (V.int (xs.length : Int)))
        | none => false) = (match tupAt H v with
        | some xs => decide (valV kvs (Sum.inr f) = some (V.int (xs.length : Int)))
        | none => false)
      rw [tupAt_same e (h v (by simp))]
    | _ => rfl
  | a :: b :: c :: d :: r, _ => cases b <;> rfl
theorem isRw_same {p : Addr} {H H' : Hp} {bs ls : List Str} {kvs : Kvs} {r : Bool} (e : Same H H') : ∀ {k n : Nat} {v : V}, Dt p H n v → isRw H' bs ls kvs r k v = isRw H bs ls kvs r k v
  | 0, _, _, _ => rfl
  | k + 1, n, v, h => by
    obtain ⟨t, ty, ⟨m, a, xs, _, rfl, rfl, ha, _, hx⟩ | ⟨_, hn⟩⟩ := h.tupOr
    · cases xs with
      | nil => rw [isRw_not (H := H) (by unfold wordV; rw [tupAt_tup ha]; rfl), isRw_not (H := H') (by unfold wordV; rw [tupAt_tup (e _ _ ha)]; rfl)]
      | cons y ys =>
        by_cases hy : ∃ x, y = .str x
        · obtain ⟨x, rfl⟩ := hy
          rw [isRw_cons ha, isRw_cons (e _ _ ha)]
          unfold rBody
          cases rforms x with
          | none => rfl
          | some ks =>
            dsimp only
            rw [callB_same e fun z hz => hx z (List.mem_cons_of_mem _ hz)]
            rw [all_congr (l := ks.zip ys) fun q hq => rPt_same (f := isRw H' bs ls kvs r k) (g := isRw H bs ls kvs r k) e (hx q.2 (List.mem_cons_of_mem _ (List.of_mem_zip hq).2)) (fun m z hz => isRw_same e hz) q.1]
        · have hw : ∀ H2 : Hp, H2 a = some (.tup (y :: ys)) → wordV H2 (.ref a) = false := fun H2 h2 => by
            unfold wordV
            rw [tupAt_tup h2]
            cases y with
            | str x => exact absurd ⟨x, rfl⟩ hy
            | _ => rfl
          rw [isRw_not (hw H ha), isRw_not (hw H' (e _ _ ha))]
    · rw [isRw_not (H := H) (by unfold wordV; rw [hn]), isRw_not (H := H') (by unfold wordV; rw [tupAt_same e h, hn])]
/-! ### the scope -/
structure SCl (K : PySem.W.Frag) (mg : Str → Option Value) (C : Addr) : Prop where
  m : mg "Scope" = some (.ref C)
  cl : L2.Cls K C
  nB : NoAttr K C "boxes"
  nL : NoAttr K C "lists"
  nP : NoAttr K C "param_counts"
  nR : NoAttr K C "may_return"
abbrev sf (b l d : Addr) (r : Bool) : List (Str × V) := [("boxes", .ref b), ("lists", .ref l), ("param_counts", .ref d), ("may_return", .bl r)]
structure ScAt (C : Addr) (H : Hp) (sc : Addr) (bs ls : List Str) (kvs : Kvs) (r : Bool) : Prop where
  at_ : ∃ dx b l d, H sc = some (.ins C dx (sf b l d r)) ∧ H b = some (.lst (bs.map V.str)) ∧ H l = some (.lst (ls.map V.str)) ∧ H d = some (.dK kvs)
  hb : ∀ x ∈ bs, nmS x = true
  hl : ∀ x ∈ ls, nmS x = true
  hk : ∀ f u, valV kvs (Sum.inr f) = some u → ∃ n : Int, u = .int n
theorem ScAt.same {C : Addr} {H H' : Hp} {sc : Addr} {bs ls : List Str} {kvs : Kvs} {r : Bool} (h : ScAt C H sc bs ls kvs r) (s : Same H H') : ScAt C H' sc bs ls kvs r := by
  obtain ⟨⟨dx, b, l, d, h1, h2, h3, h4⟩, a, b', c⟩ := h
  exact ⟨⟨dx, b, l, d, s _ _ h1, s _ _ h2, s _ _ h3, s _ _ h4⟩, a, b', c⟩
def scl (j : Nat) : Stmt := inClass (top 40) j
section
variable {P : Program} {w : World} {K : PySem.W.Frag} {mg : Str → Option Value} {base : Heap} {CS : Addr}
theorem sc_init : FnScope ["self", "boxes", "lists", "param_counts", "may_return"] ["self", "boxes", "lists", "param_counts", "may_return"] (defScope (scl 0)) := ⟨rfl, rfl, rfl, by decide +kernel, rfl, by decide +kernel, by decide +kernel⟩
def spInit (C : Addr) : Sp := fun vs H Q _ => ∃ (x dx b l d : Addr) (r : Bool), vs = [.ref x, .ref b, .ref l, .ref d, .bl r] ∧ H x = some (.ins C dx []) ∧ Q .non (L2.upd H x (.ins C dx (sf b l d r)))
theorem d_init (Z : SCl K mg CS) (S : SrcI K CS "Scope.__init__" (scl 0) ["self", "boxes", "lists", "param_counts", "may_return"]) : DefI P w K mg base 1 "Scope" CS ["self", "boxes", "lists", "param_counts", "may_return"] (spInit CS) := by
  refine S.ok Z.m sc_init (fun vs H Q E h => ?_) (fun f cdv A outer s H vs Q E hr h => ?_)
  · obtain ⟨x, dx, b, l, d, r, rfl, _⟩ := h; rfl
  obtain ⟨x, dx, b, l, d, r, rfl, hx, q⟩ := h
  refine ⟨_, (pss_cons (ps_fld (pv 0) (pv 1) rfl)
      (pss_cons (ps_fld (pv 0) (pv 2) rfl)
      (pss_cons (ps_fld (pv 0) (pv 3) rfl)
      (pss_one (ps_fld (pv 0) (pv 4) rfl))))), ?_⟩
  refine ⟨_, rfl, _, rfl, x, CS, dx, _, rfl, hx, Z.cl, Z.nB, (by show 0 < 1000; decide), ?_⟩
  refine ⟨_, rfl, _, rfl, x, CS, dx, _, rfl, upd_same, Z.cl, Z.nL, (by show 1 < 1000; decide), ?_⟩
  refine ⟨_, rfl, _, rfl, x, CS, dx, _, rfl, upd_same, Z.cl, Z.nP, (by show 2 < 1000; decide), ?_⟩
  refine ⟨_, rfl, _, rfl, x, CS, dx, _, rfl, upd_same, Z.cl, Z.nR, (by show 3 < 1000; decide), ?_⟩
  rw [upd_upd, upd_upd, upd_upd]
  exact q
/-! ### are_rows, is_row_part, is_row: with k deep to go -/
def spRow (C : Addr) (k : Nat) : Sp := fun vs H Q _ => ∃ (v : V) (sc : Addr) (d : Int) (p : Addr) (n : Nat) (bs ls : List Str) (kvs : Kvs) (r : Bool), vs = [v, .ref sc, .int d] ∧ d + (k : Int) = 6 ∧ Dt p H n v ∧ ScAt C H sc bs ls kvs r ∧
  ∀ H', Same H H' → Q (.bl (isRw H bs ls kvs r k v)) H'
def spARows (C : Addr) (k : Nat) : Sp := fun vs H Q _ => ∃ (v : V) (sc : Addr) (d : Int) (p : Addr) (n : Nat) (bs ls : List Str) (kvs : Kvs) (r : Bool), vs = [v, .ref sc, .int d] ∧ d + (k : Int) = 6 ∧ Dt p H n v ∧ ScAt C H sc bs ls kvs r ∧
  ∀ H', Same H H' → Q (.bl (rowsB H (isRw H bs ls kvs r k) v)) H'
def spRPart (C : Addr) (k : Nat) : Sp := fun vs H Q _ => ∃ (kind : Str) (v : V) (sc : Addr) (d : Int) (k' : Nat) (p : Addr) (n : Nat) (bs ls : List Str) (kvs : Kvs) (r : Bool), vs = [.str kind, v, .ref sc, .int d] ∧ k = k' + 1 ∧ d + (k : Int) = 6 ∧ Dt p H n v ∧ ScAt C H sc bs ls kvs r ∧
  ∀ H', Same H H' → Q (.bl (rPt H bs ls kvs (isRw H bs ls kvs r k') kind v)) H'
theorem sc_are : FnScope ["rows", "scope", "depth", "row"] ["rows", "scope", "depth"] (defScope (top 53)) := ⟨rfl, rfl, rfl, by decide +kernel, rfl, by decide +kernel, by decide +kernel⟩
theorem all_take {f : V → Bool} {xs : List V} {i : Nat} {x : V} (h : xs[i]? = some x) (a : (xs.take i).all f = true) (b : f x = true) : (xs.take (i + 1)).all f = true := by
  rw [List.take_add_one, h, List.all_append, a, Bool.true_and]
  simp [b]
theorem all_not {f : V → Bool} {xs : List V} {x : V} (h : x ∈ xs) (b : f x = false) : xs.all f = false := by
  rw [List.all_eq_false]
  exact ⟨x, h, by rw [b]; exact Bool.false_ne_true⟩
theorem d_are {k j : Nat} (T : Txt w K mg) (S : Src K mg "are_rows" (top 53) ["rows", "scope", "depth"]) (D_is_row : Def P w K mg base j "is_row" ["row", "scope", "depth"] (spRow CS k)) : Def P w K mg base (j + 1) "are_rows" ["rows", "scope", "depth"] (spARows CS k) := by
  refine S.ok sc_are (fun vs H Q E h => ?_) (fun f cdv A outer s H vs Q E hr h => ?_)
  · obtain ⟨v, sc, d, p, n, bs, ls, kvs, r, rfl, _⟩ := h; rfl
  obtain ⟨v, sc, d, p, n, bs, ls, kvs, r, rfl, hd, hv, hS, q⟩ := h
  refine ⟨_, (pss_cons (ps_if (pt_not (pt_val (pe_cB call_isi rfl T.z_isinstance bt_isinstance (pac (pv 0) (pac (pe_ty T.z_tuple bt_tuple rfl) pa_nil)))))
      (pss_one (ps_ret pe_bl)) pss_nil)
      (pss_cons (ps_for PassesOwn.never rfl (pi_tup (pv 0)) (pg_name (i := 3) sc_are.nd rfl (Or.inl rfl))
      (pss_one (ps_if (pt_not (pt_val (pe_def (D_is_row) hr rfl (pac (pv 3) (pac (pv 1) (pac (pv 2) pa_nil))))))
      (pss_one (ps_ret pe_bl)) pss_nil)))
      (pss_one (ps_ret pe_bl)))), ?_⟩
  obtain ⟨t, ty, ⟨m, a, xs, _, rfl, rfl, ha, hl, hx⟩ | ⟨hf, hn⟩⟩ := hv.tupOr
  case inr =>
    refine ⟨_, rfl, _, "tuple", _, rfl, ty, by simp, _, rfl, ifT (by rw [hf]; rfl) ?_⟩
    have e : rowsB H (isRw H bs ls kvs r k) v = false := by unfold rowsB; rw [hn]
    rw [e] at q
    exact q H (Same.refl H)
  refine ⟨_, rfl, _, "tuple", _, rfl, ty, by simp, _, rfl, ifF (by decide) ?_⟩
  have eR : rowsB H (isRw H bs ls kvs r k) (.ref a) = xs.all (isRw H bs ls kvs r k) := by unfold rowsB; rw [tupAt_tup ha]
  rw [eR] at q
  refine ⟨_, rfl, a, rfl, ⟨_, SqT.of ha⟩, for_tup (xs := xs) (fun i σ H' => ∃ x3, σ = [some (.ref a), some (.ref sc), some (.int d), x3] ∧ Same H H' ∧ (xs.take i).all (isRw H bs ls kvs r k) = true) ⟨_, rfl, Same.refl H, rfl⟩ ?_ ?_ ?_⟩
  · rintro i σ H' _ ⟨x3, rfl, s1, _⟩
    exact SqT.of (s1 _ _ ha)
  · rintro i x σ H' hxi ⟨x3, rfl, s1, hall⟩
    have hxm := List.mem_of_getElem? hxi
    have hD := hx x hxm
    refine ⟨_, rfl, _, rfl, _, rfl, x, sc, d, p, m, bs, ls, kvs, r, rfl, hd, hD.same s1, hS.same s1, fun H2 s2 => ?_⟩
    rw [isRw_same s1 hD]
    refine ⟨_, rfl, ?_⟩
    cases hb : isRw H bs ls kvs r k x with
    | false =>
      refine ifT rfl ?_
      rw [all_not hxm hb] at q
      exact q H2 (s1.trans s2)
    | true => exact ifF rfl ⟨_, rfl, s1.trans s2, all_take hxi hall hb⟩
  · rintro σ H' ⟨x3, rfl, s1, hall⟩
    rw [List.take_length] at hall
    rw [hall] at q
    exact q H' s1
end
end K05

set_option Elab.async false
set_option linter.all false
set_option maxRecDepth 100000
set_option maxHeartbeats 4000000
namespace K05
open PySem L2
seal L2.PE L2.PS L2.PSs L2.PT L2.PW L2.PA L2.PG L2.PGs L2.PI L2.PO L2.PIfs L2.PC L2.OpR L2.CallR L2.IxR L2.SlR L2.PSet L2.UnR
section
variable {P : Program} {w : World} {K : PySem.W.Frag} {mg : Str → Option Value} {base : Heap} {CS : Addr}
theorem sc_rpart : FnScope ["kind", "part", "scope", "depth"] ["kind", "part", "scope", "depth"] (defScope (top 55)) := ⟨rfl, rfl, rfl, by decide +kernel, rfl, by decide +kernel, by decide +kernel⟩
theorem ne_kind {x y : Str} (c : ¬ decide (V.str x = V.str y) = true) : x ≠ y := fun z => c (decide_eq_true (by rw [z]))
theorem eq_kind {x y : Str} (c : decide (V.str x = V.str y) = true) : x = y := by have := of_decide_eq_true c; injection this
theorem d_rpart {k j : Nat} (T : Txt w K mg) (Z : SCl K mg CS) (D_is_name : Def P w K mg base 1 "is_name" ["thing"] spIsName) (D_is_value : Def P w K mg base 11 "is_value" ["thing", "boxes", "lists"] spIsVal) (S : Src K mg "is_row_part" (top 55) ["kind", "part", "scope", "depth"])
    (D_are_rows : Def P w K mg base (j + 11) "are_rows" ["rows", "scope", "depth"] (spARows CS k)) : Def P w K mg base (j + 12) "is_row_part" ["kind", "part", "scope", "depth"] (spRPart CS (k + 1)) := by
  refine S.ok sc_rpart (fun vs H Q E h => ?_) (fun f cdv A outer s H vs Q E hr h => ?_)
  · obtain ⟨kind, v, sc, d, k', p, n, bs, ls, kvs, r, rfl, _⟩ := h; rfl
  obtain ⟨kind, v, sc, d, k', p, n, bs, ls, kvs, r, rfl, hk, hd, hv, hS, q⟩ := h
  obtain rfl : k = k' := by omega
  refine ⟨_, (pss_cons (ps_if (pt_cmpR op_eq (pv 0) pe_str (nomark _))
      (pss_one (ps_ret (pe_def (D_are_rows) hr rfl (pac (pv 1) (pac (pv 2) (pac (pe_op op_add (pv 3) pe_int) pa_nil)))))) pss_nil)
      (pss_cons (ps_if (pt_cmpR op_eq (pv 0) pe_str (nomark _))
      (pss_one (ps_ret (pe_def (D_is_value.mono (Nat.le_add_left 11 _)) hr rfl (pac (pv 1) (pac (pe_fld (pv 2) rfl) (pac (pe_fld (pv 2) rfl) pa_nil)))))) pss_nil)
      (pss_cons (ps_if (pt_cmpR op_eq (pv 0) pe_str (nomark _))
      (pss_one (ps_ret (pe_and (pe_cB call_isi rfl T.z_isinstance bt_isinstance (pac (pv 1) (pac (pe_ty T.z_tuple bt_tuple rfl) pa_nil))) (pe_one (pe_cB (call_all_bl rfl) rfl T.z_all bt_all (pac (pe_comp (N' := ["one", "scope"]) (comp_scope (defScope (top 55)) (by rfl) (by decide +kernel) (by decide +kernel) (by decide +kernel) (by decide +kernel) (by decide +kernel) (by decide +kernel)) rfl (capt 1 [2] (by rfl) (by rfl) (by decide +kernel)) (pi_tup (pv 1)) (fun _ _ _ => pg_name (i := 0) (show (["one", "scope"] : List Str).Nodup by decide +kernel) rfl (Or.inl rfl) (Or.inr rfl)) (fun _ _ _ => pifs_nil) (fun _ _ _ => (pe_def (D_is_value.mono (Nat.le_add_left 11 _)) hr rfl (pac (pv 0) (pac (show PE _ _ (tFld K (tVar 1) "boxes") from pe_fld (pv 1) rfl) (pac (show PE _ _ (tFld K (tVar 1) "lists") from pe_fld (pv 1) rfl) pa_nil)))))) pa_nil)))))) pss_nil)
      (pss_cons (ps_if (pt_not (pt_val (pe_def (D_is_name.mono (Nat.le_add_left 1 _)) hr rfl (pac (pv 1) pa_nil))))
      (pss_one (ps_ret pe_bl)) pss_nil)
      (pss_cons (ps_if (pt_cmpR op_eq (pv 0) pe_str (nomark _))
      (pss_one (ps_ret (pe_cmpR op_in_seq (pv 1) (pe_fld (pv 2) rfl) (by rfl)))) pss_nil)
      (pss_cons (ps_if (pt_cmpR op_eq (pv 0) pe_str (nomark _))
      (pss_one (ps_ret (pe_cmpR op_in_seq (pv 1) (pe_fld (pv 2) rfl) (by rfl)))) pss_nil)
      (pss_cons (ps_if (pt_cmpR op_eq (pv 0) pe_str (nomark _))
      (pss_one (ps_ret (pe_cmp (pc_din (hu_of hr) (pv 1) (pe_fld (pv 2) rfl))))) pss_nil)
      (pss_one (ps_ret (pe_cmpR op_eq (pv 0) pe_str (nomark _))))))))))), ?_⟩
  obtain ⟨⟨dx, b, l, dd, hsc, hb, hl, hdd⟩, hbs, hls, hkk⟩ := id hS
  unfold rPt at q
  refine ⟨_, rfl, rfl, _, rfl, ite2 (fun c => ?_) (fun c => ?_)⟩
  · rw [if_pos (eq_kind c)] at q
    exact ⟨_, rfl, _, rfl, _, rfl, _, _, rfl, rfl, v, sc, d + 1, p, n, bs, ls, kvs, r, rfl, by omega, hv, hS, q⟩
  rw [if_neg (ne_kind c)] at q
  refine ⟨_, rfl, rfl, _, rfl, ite2 (fun c => ?_) (fun c => ?_)⟩
  · rw [if_pos (eq_kind c)] at q
    refine ⟨_, rfl, _, rfl, sc, CS, dx, _, _, rfl, hsc, Z.cl, Z.nB, rfl, ?_⟩
    refine ⟨_, rfl, sc, CS, dx, _, _, rfl, hsc, Z.cl, Z.nL, rfl, ?_⟩
    exact ⟨v, b, l, p, n, bs, ls, rfl, hv, hb, hl, hbs, hls, q⟩
  rw [if_neg (ne_kind c)] at q
  refine ⟨_, rfl, rfl, _, rfl, ite2 (fun c => ?_) (fun c => ?_)⟩
  · rw [if_pos (eq_kind c)] at q
    obtain ⟨t, ty, ⟨m, a, xs, _, rfl, rfl, ha, hl9, hx⟩ | ⟨hf, hn⟩⟩ := hv.tupOr
    case inr =>
      refine ⟨_, rfl, _, "tuple", _, rfl, ty, by simp, _, rfl, ifF hf ?_⟩
      have e : rowsB H (isVal H bs ls 4) v = false := by unfold rowsB; rw [hn]
      rw [e] at q
      exact q H (Same.refl H)
    refine ⟨_, rfl, _, "tuple", _, rfl, ty, by simp, _, rfl, ifT (by decide) ?_⟩
    refine ⟨_, rfl, a, rfl, ⟨xs, SqT.of ha⟩, walk_tup (te := tDef spIsVal (tCons (tVar 0) (tCons (tFld K (tVar 1) "boxes") (tCons (tFld K (tVar 1) "lists") tNil)))) (cs := [some (.ref sc)]) (fun x => .bl (isVal H bs ls 4 x)) ha (by omega) (by rfl) (fun x H2 k2 hx2 s2 hk2 => ?_) (fun acc H' hna s' hl' => ?_)⟩
    · refine ⟨_, rfl, _, rfl, sc, CS, dx, _, _, rfl, s2 _ _ hsc, Z.cl, Z.nB, rfl, ?_⟩
      refine ⟨_, rfl, sc, CS, dx, _, _, rfl, s2 _ _ hsc, Z.cl, Z.nL, rfl, ?_⟩
      refine ⟨x, b, l, p, m, bs, ls, rfl, (hx x hx2).same s2, s2 _ _ hb, s2 _ _ hl, hbs, hls, fun H3 s3 => ?_⟩
      rw [isVal_same s2 (hx x hx2)]
      exact hk2 H3 s3
    · refine ⟨acc, xs.map (isVal H bs ls 4), rfl, SqL.of (by rw [List.map_map]; exact hl'), ?_⟩
      have e : rowsB H (isVal H bs ls 4) (.ref a) = (xs.map (isVal H bs ls 4)).all id := by
        unfold rowsB
        rw [tupAt_tup ha, List.all_map]
        rfl
      rw [← e]
      exact q H' s'
  rw [if_neg (ne_kind c)] at q
  refine ⟨_, rfl, v, p, n, rfl, hv, fun H1 s1 => ⟨_, rfl, ?_⟩⟩
  cases hm : nmV v with
  | false =>
    rw [hm, Bool.false_and] at q
    exact ifT rfl (q H1 s1)
  | true =>
  refine ifF rfl ?_
  rw [hm, Bool.true_and] at q
  obtain ⟨x, rfl⟩ := nm_str hm
  have hsc1 := s1 _ _ hsc
  refine ⟨_, rfl, rfl, _, rfl, ite2 (fun c => ?_) (fun c => ?_)⟩
  · rw [if_pos (eq_kind c)] at q
    exact ⟨_, rfl, _, rfl, sc, CS, dx, _, _, rfl, hsc1, Z.cl, Z.nB, rfl, b, _, rfl, .inl (SqL.of (s1 _ _ hb)), rfl, flat_strs bs, q H1 s1⟩
  rw [if_neg (ne_kind c)] at q
  refine ⟨_, rfl, rfl, _, rfl, ite2 (fun c => ?_) (fun c => ?_)⟩
  · rw [if_pos (eq_kind c)] at q
    exact ⟨_, rfl, _, rfl, sc, CS, dx, _, _, rfl, hsc1, Z.cl, Z.nL, rfl, l, _, rfl, .inl (SqL.of (s1 _ _ hl)), rfl, flat_strs ls, q H1 s1⟩
  rw [if_neg (ne_kind c)] at q
  refine ⟨_, rfl, rfl, _, rfl, ite2 (fun c => ?_) (fun c => ?_)⟩
  · rw [if_pos (eq_kind c)] at q
    exact ⟨_, rfl, _, rfl, sc, CS, dx, _, _, rfl, hsc1, Z.cl, Z.nP, rfl, dd, _, rfl, DGet.k (k := Sum.inr x) (s1 _ _ hdd), q H1 s1⟩
  rw [if_neg (ne_kind c)] at q
  refine ⟨_, rfl, rfl, ?_⟩
  have e : decide (V.str kind = V.str "door") = decide (kind = "door") := by
    by_cases h : kind = "door"
    · rw [decide_eq_true h, h, decide_eq_true rfl]
    · rw [decide_eq_false h, decide_eq_false]
      intro z; injection z with z; exact h z
  rw [e]
  exact q H1 s1
end
end K05

set_option Elab.async false
set_option linter.all false
set_option maxRecDepth 100000
set_option maxHeartbeats 4000000
namespace K05
open PySem L2
seal L2.PE L2.PS L2.PSs L2.PT L2.PW L2.PA L2.PG L2.PGs L2.PI L2.PO L2.PIfs L2.PC L2.OpR L2.CallR L2.IxR L2.SlR L2.PSet L2.UnR
theorem rforms_len {x : Str} {ks : List Str} (h : rforms x = some ks) : ks.length ≤ 3 := by
  unfold rforms at h
  have go : ∀ {c : Prop} [Decidable c] {l : List Str} {r : Option (List Str)}, (if c then some l else r) = some ks → l.length ≤ 3 → (r = some ks → ks.length ≤ 3) → ks.length ≤ 3 := fun {c} _ {l} {r} h hl hr => by
    by_cases hc : c
    · rw [if_pos hc] at h
      injection h with h
      exact h ▸ hl
    · rw [if_neg hc] at h
      exact hr h
  refine go h (by simp) fun h => go h (by simp) fun h => go h (by simp) fun h => go h (by simp) fun h => go h (by simp) fun h => go h (by simp) fun h => go h (by simp) fun h => go h (by simp) fun h => go h (by simp) fun h => go h (by simp) fun h => go h (by simp) fun h => go h (by simp) fun h => ?_
  cases h
theorem three : ∀ {ys : List V}, ys.length = 3 → ∃ a b c, ys = [a, b, c]
  | [a, b, c], _ => ⟨a, b, c, rfl⟩
  | [], h => by simp at h
  | [_], h => by simp at h
  | [_, _], h => by simp at h
  | _ :: _ :: _ :: _ :: _, h => by simp at h
section
variable {P : Program} {w : World} {K : PySem.W.Frag} {mg : Str → Option Value} {base : Heap} {CS : Addr}
theorem sc_row : FnScope ["row", "scope", "depth", "kinds"] ["row", "scope", "depth"] (defScope (top 54)) := ⟨rfl, rfl, rfl, by decide +kernel, rfl, by decide +kernel, by decide +kernel⟩
theorem d_row {k j : Nat} (T : Txt w K mg) (Z : SCl K mg CS) (D_has_word : Def P w K mg base 1 "has_word" ["thing"] spHasWord) (D_row_kinds : Def P w K mg base 1 "row_kinds" ["word"] (spRKinds K)) (S : Src K mg "is_row" (top 54) ["row", "scope", "depth"])
    (D_part : Def P w K mg base (j + 1) "is_row_part" ["kind", "part", "scope", "depth"] (spRPart CS k)) : Def P w K mg base (j + 2) "is_row" ["row", "scope", "depth"] (spRow CS k) := by
  obtain ⟨tm, v_DEEPEST_ROW⟩ := T.cdeep
  refine S.ok sc_row (fun vs H Q E h => ?_) (fun f cdv A outer s H vs Q E hr h => ?_)
  · obtain ⟨v, sc, d, p, n, bs, ls, kvs, r, rfl, _⟩ := h; rfl
  obtain ⟨v, sc, d, p, n, bs, ls, kvs, r, rfl, hd, hv, hS, q⟩ := h
  refine ⟨_, (pss_cons (ps_if (pt_cut (PW.pt (pw_or (pt_cmpR op_gt (pv 2) (pe_glob (v := .int (5)) rfl v_DEEPEST_ROW ⟨_, rfl⟩) (nomark _)) (pw_or1 (pt_not (pt_val (pe_def (D_has_word.mono (Nat.le_add_left 1 _)) hr rfl (pac (pv 0) pa_nil))))))))
      (pss_one (ps_ret pe_bl)) pss_nil)
      (pss_cons (ps_set (i := 3) sc_row.nd rfl (Or.inl rfl) (pe_def (D_row_kinds.mono (Nat.le_add_left 1 _)) hr rfl (pac (pe_ix ix_tup (pv 0) pe_int (fun _ _ => rfl)) pa_nil)))
      (pss_cons (ps_if (pt_cut (PW.pt (pw_or (pt_cmpR op_isN (pv 3) pe_non (nomark _)) (pw_or1 (pt_cmpR op_ne (pe_cB call_len_seq rfl T.z_len bt_len (pac (pv 0) pa_nil)) (pe_op op_add pe_int (pe_cB call_len_seq rfl T.z_len bt_len (pac (pv 3) pa_nil))) (nomark _))))))
      (pss_one (ps_ret pe_bl)) pss_nil)
      (pss_cons (ps_if (pt_cut (PW.pt (pw_and (pt_cmpR op_eq (pe_ix ix_tup (pv 0) pe_int (fun _ _ => rfl)) pe_str (nomark _)) (pw_and1 (pt_not (pt_val (pe_fld (pv 1) rfl)))))))
      (pss_one (ps_ret pe_bl)) pss_nil)
      (pss_cons (ps_if (pt_not (pt_val (pe_cB (call_all_bl rfl) rfl T.z_all bt_all (pac (pe_comp (N' := ["kind", "part", "scope", "depth"]) (comp_scope (defScope (top 54)) (by rfl) (by decide +kernel) (by decide +kernel) (by decide +kernel) (by decide +kernel) (by decide +kernel) (by decide +kernel)) rfl (capt 2 [1, 2] (by rfl) (by rfl) (by decide +kernel)) (pi_zip rfl T.z_zip (pac (pv 3) (pac (pe_slice sl_tupW (pv 0) (po_some pe_int) po_none) pa_nil))) (fun _ _ _ => (show PG _ _ (gTup K 2 (gCons (gName 0) (gCons (gName 1) gNil))) from pg_tup (n := 2) rfl (pgs_cons (pg_name (i := 0) (show (["kind", "part", "scope", "depth"] : List Str).Nodup by decide +kernel) rfl (Or.inl rfl) (Or.inr rfl)) (pgs_cons (pg_name (i := 1) (show (["kind", "part", "scope", "depth"] : List Str).Nodup by decide +kernel) rfl (Or.inl rfl) (Or.inr rfl)) pgs_nil)))) (fun _ _ _ => pifs_nil) (fun _ _ _ => (pe_def (D_part) hr rfl (pac (pv 0) (pac (pv 1) (pac (pv 2) (pac (pv 3) pa_nil))))))) pa_nil))))
      (pss_one (ps_ret pe_bl)) pss_nil)
      (pss_one (ps_ret (pe_or (pe_cmpR op_ne (pe_ix ix_tup (pv 0) pe_int (fun _ _ => rfl)) pe_str (nomark _)) (pe_one (pe_cmpR op_eq (pe_cB call_len_seq rfl T.z_len bt_len (pac (pe_ix ix_tup (pv 0) pe_int (fun _ _ => rfl)) pa_nil)) (pe_dget (hu_of hr) (pe_fld (pv 1) rfl) (pe_ix ix_tup (pv 0) pe_int (fun _ _ => rfl)) (fun _ _ => rfl)) (nomark _))))))))))), ?_⟩
  obtain ⟨⟨dx, b, l, dd, hsc, hb, hl, hdd⟩, hbs, hls, hkk⟩ := id hS
  refine ⟨fun t H' => H = H' ∧ ((t = true ∧ isRw H bs ls kvs r k v = false) ∨ (t = false ∧ ∃ (k' m : Nat) (a : Addr) (x : Str) (ys : List V), k = k' + 1 ∧ v = .ref a ∧ H a = some (.tup (.str x :: ys)) ∧ (V.str x :: ys).length ≤ 9100 ∧ ∀ u ∈ V.str x :: ys, Dt p H m u)), ?_, ?_⟩
  · refine ⟨_, rfl, _, _, rfl, rfl, _, rfl, ite2 (fun c => ?_) (fun c => ?_)⟩
    · have c' := of_decide_eq_true c
      obtain rfl : k = 0 := by omega
      exact ⟨rfl, .inl ⟨rfl, rfl⟩⟩
    have c' := of_decide_eq_false (Bool.eq_false_iff.mpr c)
    obtain ⟨k', rfl⟩ : ∃ k', k = k' + 1 := ⟨k - 1, by omega⟩
    refine ⟨_, rfl, v, p, n, rfl, hv, _, rfl, rfl, ?_⟩
    obtain ⟨t, ty, ⟨m, a, xs, _, rfl, rfl, ha, hl10, hx⟩ | ⟨ht, hn⟩⟩ := hv.tupOr
    · have e : wordV H (.ref a) = wordL xs := by unfold wordV; rw [tupAt_tup ha]
      cases hw : wordV H (.ref a) with
      | false => exact .inl ⟨rfl, isRw_not hw⟩
      | true =>
        rw [e] at hw
        cases xs with
        | nil => cases hw
        | cons y ys =>
          cases y with
          | str x => exact .inr ⟨rfl, k', m, a, x, ys, rfl, rfl, ha, hl10, hx⟩
          | _ => cases hw
    · have e : wordV H v = false := by unfold wordV; rw [hn]
      rw [e]
      exact .inl ⟨rfl, isRw_not e⟩
  rintro t H' ⟨rfl, ⟨rfl, hn⟩ | ⟨rfl, k, m, a, x, ys, rfl, rfl, ha, hl10, hx⟩⟩
  · have z := q H (Same.refl H)
    rw [hn] at z
    exact ifT rfl z
  refine ifF rfl ?_
  refine ⟨_, rfl, a, _, 0, _, rfl, rfl, SqT.of ha, atI_nat (j := 0) rfl, x, rfl, ?_⟩
  have eV := isRw_cons (bs := bs) (ls := ls) (kvs := kvs) (r := r) (k := k) ha
  unfold rBody at eV
  cases hfx : rforms x with
  | none =>
    rw [hfx] at eV
    have z := q H (Same.refl H)
    rw [eV] at z
    refine ⟨fun t H' => H = H' ∧ t = true, ⟨_, rfl, rfl, _, rfl, ifT (by decide) ⟨rfl, rfl⟩⟩, ?_⟩
    rintro t H' ⟨rfl, rfl⟩
    exact ifT rfl z
  | some ks =>
  rw [hfx] at eV
  dsimp only at eV ⊢
  intro bk hk
  refine ⟨fun t H' => H = H' ∧ t = !decide (ys.length = ks.length), ?_, ?_⟩
  · refine ⟨_, rfl, rfl, _, rfl, ifF (decide_eq_false (by intro z; cases z)) ?_⟩
    refine ⟨_, rfl, a, _, rfl, .inr (SqT.of ha), _, rfl, bk, _, rfl, .inr hk, _, _, rfl, rfl, rfl, _, rfl, rfl, ?_⟩
    have e1 : ((V.str x :: ys).length : Int) = 1 + (ys.length : Int) := by rw [List.length_cons]; omega
    rw [e1, List.length_map]
    by_cases hlen : ys.length = ks.length
    · rw [decide_eq_true hlen, hlen, decide_eq_true rfl]
    · rw [decide_eq_false hlen, decide_eq_false]
      intro z; injection z with z; omega
  rintro t H' ⟨rfl, rfl⟩
  by_cases hlen : ys.length = ks.length
  case neg =>
    have z := q H (Same.refl H)
    rw [eV, decide_eq_false hlen, Bool.false_and] at z
    exact ifT (by rw [decide_eq_false hlen]; rfl) z
  refine ifF (by rw [decide_eq_true hlen]; rfl) ?_
  rw [decide_eq_true hlen, Bool.true_and] at eV
  have hks := rforms_len hfx
  have l3 : (100 : Nat) < sizeLine := by decide
  have dx1 : ∀ y : Str, decide (V.str x = V.str y) = decide (x = y) := fun y => by
    by_cases h : x = y
    · rw [decide_eq_true h, h, decide_eq_true rfl]
    · rw [decide_eq_false h, decide_eq_false]
      intro z; injection z with z; exact h z
  refine ⟨fun t H' => H = H' ∧ t = (decide (x = "return") && !r), ?_, ?_⟩
  · refine ⟨_, rfl, a, _, 0, _, rfl, rfl, SqT.of ha, atI_nat (j := 0) rfl, rfl, _, rfl, ?_⟩
    rw [dx1]
    refine ite2 (fun c => ?_) (fun c => ?_)
    · exact ⟨_, rfl, sc, CS, dx, _, _, rfl, hsc, Z.cl, Z.nR, rfl, _, rfl, rfl, by rw [c, Bool.true_and]⟩
    · exact ⟨rfl, by rw [Bool.eq_false_iff.mpr c, Bool.false_and]⟩
  rintro t H' ⟨rfl, rfl⟩
  cases hret : (decide (x = "return") && !r) with
  | true =>
    rw [hret] at eV
    have z := q H (Same.refl H)
    rw [eV] at z
    exact ifT rfl z
  | false =>
  refine ifF rfl ?_
  rw [hret] at eV
  rw [Bool.not_false, Bool.true_and] at eV
  refine ⟨_, rfl, _, rfl, 1, rfl, a, _, rfl, ha, fun pt H1 s1 h1 => ?_⟩
  rw [cut_tail] at h1
  refine ⟨bk, pt, rfl, ⟨_, Same.seqT s1 hk⟩, ⟨_, SqT.of h1⟩, fun acc hacc => ?_⟩
  let f : Str × V → Bool := fun p => rPt H bs ls kvs (isRw H bs ls kvs r k) p.1 p.2
  refine ⟨fun i m σ2 zs H2 => m = ks.length - i ∧ i ≤ ks.length ∧ (∃ x0 x1, σ2 = [x0, x1, some (.ref sc), some (.int d)]) ∧ zs = (((ks.zip ys).take i).map f).map V.bl ∧ H2 acc = some (.lst zs) ∧ Same H1 H2,
    ⟨_, rfl, Nat.zero_le _, ⟨_, _, rfl⟩, rfl, upd_same, same_of_new hacc _⟩, ?_⟩
  rintro i _ σ2 zs H2 ⟨rfl, hi, ⟨x0, x1, rfl⟩, rfl, hac, sm⟩
  refine ⟨hac, ?_⟩
  have hkz : (ks.zip ys).length = ks.length := by rw [List.length_zip, hlen, Nat.min_self]
  by_cases hlt : i < ks.length
  · obtain ⟨ki, hki⟩ : ∃ ki, ks[i]? = some ki := ⟨_, List.getElem?_eq_getElem hlt⟩
    obtain ⟨yi, hyi⟩ : ∃ yi, ys[i]? = some yi := ⟨_, List.getElem?_eq_getElem (by omega)⟩
    have hki' : (ks.map V.str)[i]? = some (.str ki) := by rw [List.getElem?_map, hki]; rfl
    have hz : (ks.zip ys)[i]? = some (ki, yi) := by rw [List.getElem?_zip_eq_some]; exact ⟨hki, hyi⟩
    have hk2 := Same.seqT sm (Same.seqT s1 hk)
    have hy2 : SqT K H2 pt ys := SqT.of (sm _ _ h1)
    refine .inr ⟨⟨_, _, _, _, hk2, hy2, hki', hyi⟩, ?_, ?_⟩
    · rw [List.length_map, List.length_map, List.length_take]
      omega
    rintro v H3 ⟨Tp, hT, rfl, hyld⟩
    have e3 := hyld _ _ _ _ hk2 hy2 hki' hyi
    subst e3
    have s3 := same_of_new hT (.tup [.str ki, yi])
    have s13 := s1.trans (sm.trans s3)
    have hyD := hx yi (List.mem_cons_of_mem _ (List.mem_of_getElem? hyi))
    refine ⟨Tp, _, rfl, SqT.of upd_same, rfl, _, _, rfl, _, _, rfl, rfl, ?_⟩
    refine ⟨_, rfl, _, rfl, _, rfl, _, rfl, ki, yi, sc, d, k, p, m, bs, ls, kvs, r, rfl, rfl, hd, hyD.same s13, hS.same s13, fun H4 s4 => ?_⟩
    have hac4 := s4 _ _ (s3 _ _ hac)
    have ef : rPt (upd H2 Tp (.tup [.str ki, yi])) bs ls kvs (isRw (upd H2 Tp (.tup [.str ki, yi])) bs ls kvs r k) ki yi = f (ki, yi) := rPt_same s13 hyD (fun m z hz => isRw_same s13 hz) ki
    rw [ef]
    refine ⟨hac4, _, (by omega : ks.length - (i + 1) < ks.length - i), rfl, hlt, ⟨_, _, rfl⟩, ?_, upd_same, fun b' o hb' => ?_⟩
    · rw [List.take_add_one, hz, List.map_append, List.map_append]; rfl
    · rw [upd_ne (ne_of_none hb' hacc)]; exact s4 _ _ (s3 _ _ (sm _ _ hb'))
  obtain rfl : i = ks.length := by omega
  refine .inl ⟨⟨_, _, Same.seqT sm (Same.seqT s1 hk), SqT.of (sm _ _ h1), .inl (Nat.le_of_eq (List.length_map _))⟩, ?_⟩
  refine ⟨acc, _, rfl, SqL.of hac, _, rfl, ?_⟩
  have s12 := s1.trans sm
  have eall : (((ks.zip ys).take ks.length).map f).all id = (ks.zip ys).all f := by rw [all_map_id, ← hkz, List.take_length]
  rw [eall]
  cases hall : (ks.zip ys).all f with
  | false =>
    have hall' : ((ks.zip ys).all fun p => rPt H bs ls kvs (isRw H bs ls kvs r k) p.1 p.2) = false := hall
    rw [hall', Bool.false_and] at eV
    rw [eV] at q
    exact ifT rfl (q H2 s12)
  | true =>
  refine ifF rfl ?_
  have hall' : ((ks.zip ys).all fun p => rPt H bs ls kvs (isRw H bs ls kvs r k) p.1 p.2) = true := hall
  rw [hall', Bool.true_and] at eV
  rw [eV] at q
  have z := q H2 s12
  refine ⟨_, rfl, a, _, 0, _, rfl, rfl, SqT.of (s12 _ _ ha), atI_nat (j := 0) rfl, rfl, _, rfl, ?_⟩
  rw [dx1]
  by_cases hc : x = "call"
  case neg =>
    rw [decide_eq_false hc] at z ⊢
    exact ifT rfl z
  subst hc
  rw [decide_eq_true rfl] at z ⊢
  refine ifF rfl ?_
  rw [Bool.not_true, Bool.false_or] at z
  -- the parts of a call
  have hks3 : ks = (["box", "function", "values"] : List Str) := by
    have : rforms "call" = some (["box", "function", "values"] : List Str) := rfl
    rw [this] at hfx
    injection hfx with e
    exact e.symm
  subst hks3
  obtain ⟨y0, y1, y2, rfl⟩ := three hlen
  have h3 : rPt H bs ls kvs (isRw H bs ls kvs r k) "box" y0 = true ∧ rPt H bs ls kvs (isRw H bs ls kvs r k) "function" y1 = true ∧ rPt H bs ls kvs (isRw H bs ls kvs r k) "values" y2 = true := by
    have := hall'
    simp only [List.zip_cons_cons, List.zip_nil_right, List.all_cons, List.all_nil, Bool.and_true, Bool.and_eq_true] at this
    exact this
  have f1 : nmV y1 = true ∧ fnB kvs y1 = true := by
    have := h3.2.1
    unfold rPt at this
    rw [if_neg (by decide), if_neg (by decide), if_neg (by decide), if_neg (by decide), if_neg (by decide), if_pos rfl, Bool.and_eq_true] at this
    exact this
  have f2 : rowsB H (isVal H bs ls 4) y2 = true := by
    have := h3.2.2
    unfold rPt at this
    rw [if_neg (by decide), if_neg (by decide), if_pos rfl] at this
    exact this
  obtain ⟨g, rfl⟩ := nm_str f1.1
  obtain ⟨u, hu⟩ := Option.isSome_iff_exists.mp (show (valV kvs (Sum.inr g)).isSome = true from f1.2)
  obtain ⟨N, rfl⟩ := hkk g u hu
  obtain ⟨t, ty, ⟨m2, a2, xs, _, rfl, rfl, ha2, _, _⟩ | ⟨_, hn⟩⟩ := (hx y2 (by simp)).tupOr
  case inr => unfold rowsB at f2; rw [hn] at f2; cases f2
  refine ⟨_, rfl, a, _, 3, _, rfl, rfl, SqT.of (s12 _ _ ha), atI_nat (j := 3) rfl, a2, _, rfl, .inr (SqT.of (s12 _ _ ha2)), ?_⟩
  refine ⟨_, rfl, sc, CS, dx, _, _, rfl, s12 _ _ hsc, Z.cl, Z.nP, rfl, ?_⟩
  refine ⟨_, rfl, a, _, 2, _, rfl, rfl, SqT.of (s12 _ _ ha), atI_nat (j := 2) rfl, dd, V.int N, rfl, by rw [← hu]; exact DGet.k (k := Sum.inr g) (s12 _ _ hdd), rfl, ?_⟩
  have ec : callB H kvs [y0, .str g, .ref a2] = decide (V.int (xs.length : Int) = V.int N) := by
    show (match tupAt H (.ref a2) with
      | some xs => decide (valV kvs (Sum.inr g) = some (V.int (xs.length : Int)))
      | none => false) = _
    rw [tupAt_tup ha2, hu]
    dsimp only
    by_cases h : (xs.length : Int) = N
    · rw [h, decide_eq_true rfl, decide_eq_true rfl]
    · rw [decide_eq_false (by intro z; injection z with z; injection z with z; exact h z.symm), decide_eq_false (by intro z; injection z with z; exact h z)]
  rw [← ec]
  exact z
end
end K05

set_option Elab.async false
set_option linter.all false
set_option maxRecDepth 100000
set_option maxHeartbeats 4000000
namespace K05
open PySem L2
seal L2.PE L2.PS L2.PSs L2.PT L2.PW L2.PA L2.PG L2.PGs L2.PI L2.PO L2.PIfs L2.PC L2.OpR L2.CallR L2.IxR L2.SlR L2.PSet L2.UnR
/-! ### rows and those within them -/
def rowsAt (H : Hp) : V → List V
  | .ref b => match H b with
    | some (.tup bs) => bs
    | _ => []
  | _ => []
theorem rowsAt_tup {H : Hp} {b : Addr} {bs : List V} (h : H b = some (.tup bs)) : rowsAt H (.ref b) = bs := by unfold rowsAt; dsimp only; rw [h]
/-- the parts that are rows, among the first i -/
def prt : List Str → List V → Nat → List V
  | k :: ks, v :: vs, i + 1 => (if k = "rows" then [v] else []) ++ prt ks vs i
  | _, _, _ => []
theorem prt_zero (ks : List Str) (vs : List V) : prt ks vs 0 = [] := by cases ks <;> cases vs <;> rfl
theorem prt_succ : ∀ {ks : List Str} {vs : List V} {i : Nat} {k : Str} {v : V}, ks[i]? = some k → vs[i]? = some v → prt ks vs (i + 1) = prt ks vs i ++ (if k = "rows" then [v] else [])
  | k :: ks, v :: vs, 0, _, _, h1, h2 => by
    simp at h1 h2
    subst h1; subst h2
    show (if k = "rows" then [v] else []) ++ prt ks vs 0 = _
    rw [prt_zero, List.append_nil]
    rfl
  | k :: ks, v :: vs, i + 1, k', v', h1, h2 => by
    show (if k = "rows" then [v] else []) ++ prt ks vs (i + 1) = ((if k = "rows" then [v] else []) ++ prt ks vs i) ++ _
    rw [prt_succ (k := k') (v := v') (by simpa using h1) (by simpa using h2), List.append_assoc]
  | [], _, _, _, _, h1, _ => by simp at h1
  | _ :: _, [], _, _, _, _, h2 => by simp at h2
theorem prt_len : ∀ {ks : List Str} {vs : List V} {i : Nat}, (prt ks vs i).length ≤ i
  | [], _, _ => by simp [prt]
  | _ :: _, [], _ => by simp [prt]
  | _ :: _, _ :: _, 0 => by simp [prt]
  | k :: ks, v :: vs, i + 1 => by
    show ((if k = "rows" then [v] else []) ++ prt ks vs i).length ≤ i + 1
    have := prt_len (ks := ks) (vs := vs) (i := i)
    rw [List.length_append]
    by_cases e : k = "rows"
    · rw [if_pos e]; simp; omega
    · rw [if_neg e]; simp; omega
theorem prt_mem : ∀ {ks : List Str} {vs : List V} {i : Nat} {x : V}, x ∈ prt ks vs i → ∃ j : Nat, ks[j]? = some "rows" ∧ vs[j]? = some x
  | [], _, _, _, h => by simp [prt] at h
  | _ :: _, [], _, _, h => by simp [prt] at h
  | _ :: _, _ :: _, 0, _, h => by simp [prt] at h
  | k :: ks, v :: vs, i + 1, x, h => by
    rcases List.mem_append.mp (show x ∈ (if k = "rows" then [v] else []) ++ prt ks vs i from h) with h | h
    · by_cases e : k = "rows"
      · rw [if_pos e] at h
        simp at h
        subst h
        exact ⟨0, by simp [e], by simp⟩
      · rw [if_neg e] at h
        simp at h
    · obtain ⟨j, h1, h2⟩ := prt_mem h
      exact ⟨j + 1, by simpa using h1, by simpa using h2⟩
/-- tuples stay -/
def TK (H H' : Hp) : Prop := ∀ a xs, H a = some (.tup xs) → H' a = some (.tup xs)
theorem TK.trans {H H1 H2 : Hp} (a : TK H H1) (b : TK H1 H2) : TK H H2 := fun c xs h => b c xs (a c xs h)
theorem TK.of {H H' : Hp} (s : Same H H') : TK H H' := fun c xs h => s c _ h
/-- all but the list at T stays -/
def But (T : Addr) (H H' : Hp) : Prop := ∀ c o, c ≠ T → H c = some o → H' c = some o
theorem But.tk {T : Addr} {H H' : Hp} {us : List V} (b : But T H H') (h : H T = some (.lst us)) : TK H H' := fun c xs hc => b c _ (ne_of hc h (by intro z; cases z)) hc
theorem But.trans {T : Addr} {H H1 H2 : Hp} (a : But T H H1) (b : But T H1 H2) : But T H H2 := fun c o hc h => b c o hc (a c o hc h)
theorem But.of {T : Addr} {H H' : Hp} (s : Same H H') : But T H H' := fun c o _ h => s c o h
/-- a row, by its form alone, k deep at most -/
def RwOk (H : Hp) : Nat → V → Prop
  | 0, _ => False
  | k + 1, v => ∃ (a : Addr) (x : Str) (rest : List V) (ks : List Str), v = .ref a ∧ H a = some (.tup (.str x :: rest)) ∧ rforms x = some ks ∧ rest.length = ks.length ∧
    ∀ b ∈ prt ks rest ks.length, ∃ (c : Addr) (bs : List V), b = .ref c ∧ H c = some (.tup bs) ∧ ∀ y ∈ bs, RwOk H k y
theorem RwOk.tk {H H' : Hp} (t : TK H H') : ∀ {k : Nat} {v : V}, RwOk H k v → RwOk H' k v
  | 0, _, h => h
  | k + 1, v, ⟨a, x, rest, ks, e, h1, h2, h3, h4⟩ => ⟨a, x, rest, ks, e, t _ _ h1, h2, h3, fun b hb => by
      obtain ⟨c, bs, e, hc, hy⟩ := h4 b hb
      exact ⟨c, bs, e, t _ _ hc, fun y hy' => (hy y hy').tk t⟩⟩
/-- the rows within a row -/
def inner (H : Hp) (v : V) : List V := match tupAt H v with
  | some (.str x :: rest) => match rforms x with
    | some ks => (prt ks rest ks.length).flatMap (rowsAt H)
    | none => []
  | _ => []
theorem inner_eq {H : Hp} {a : Addr} {x : Str} {rest : List V} {ks : List Str} (h : H a = some (.tup (.str x :: rest))) (hk : rforms x = some ks) : inner H (.ref a) = (prt ks rest ks.length).flatMap (rowsAt H) := by
  unfold inner
  rw [tupAt_tup h]
  dsimp only
  rw [hk]
/-- how many rows these are, with all within -/
def cnt (H : Hp) : Nat → List V → Nat
  | 0, _ => 0
  | k + 1, rows => (rows.map fun v => 1 + cnt H k (inner H v)).sum
theorem cnt_nil (H : Hp) (k : Nat) : cnt H k [] = 0 := by cases k <;> rfl
theorem cnt_cons (H : Hp) (k : Nat) (v : V) (r : List V) : cnt H (k + 1) (v :: r) = 1 + cnt H k (inner H v) + cnt H (k + 1) r := by
  show ((v :: r).map fun v => 1 + cnt H k (inner H v)).sum = _
  rw [List.map_cons, List.sum_cons]
  rfl
theorem cnt_app (H : Hp) (k : Nat) (a b : List V) : cnt H k (a ++ b) = cnt H k a + cnt H k b := by
  cases k with
  | zero => rfl
  | succ k =>
    show ((a ++ b).map _).sum = (a.map _).sum + (b.map _).sum
    rw [List.map_append, List.sum_append]
theorem inner_tk {H H' : Hp} (t : TK H H') {k : Nat} {v : V} (h : RwOk H (k + 1) v) : inner H' v = inner H v := by
  obtain ⟨a, x, rest, ks, rfl, h1, h2, h3, h4⟩ := h
  rw [inner_eq h1 h2, inner_eq (t _ _ h1) h2]
  have go : ∀ {l : List V}, (∀ b ∈ l, ∃ (c : Addr) (bs : List V), b = .ref c ∧ H c = some (.tup bs)) → l.flatMap (rowsAt H') = l.flatMap (rowsAt H) := by
    intro l
    induction l with
    | nil => intro _; rfl
    | cons b r ih =>
      intro hl
      obtain ⟨c, bs, rfl, hc⟩ := hl b List.mem_cons_self
      rw [List.flatMap_cons, List.flatMap_cons, rowsAt_tup hc, rowsAt_tup (t _ _ hc), ih fun y hy => hl y (List.mem_cons_of_mem _ hy)]
  exact go fun b hb => by
    obtain ⟨c, bs, e, hc, _⟩ := h4 b hb
    exact ⟨c, bs, e, hc⟩
theorem inner_ok {H : Hp} {k : Nat} {v : V} (h : RwOk H (k + 1) v) : ∀ y ∈ inner H v, RwOk H k y := by
  obtain ⟨a, x, rest, ks, rfl, h1, h2, h3, h4⟩ := h
  rw [inner_eq h1 h2]
  intro y hy
  obtain ⟨b, hb, hyb⟩ := List.mem_flatMap.mp hy
  obtain ⟨c, bs, rfl, hc, hy'⟩ := h4 b hb
  rw [rowsAt_tup hc] at hyb
  exact hy' y hyb
theorem cnt_tk {H H' : Hp} (t : TK H H') : ∀ {k : Nat} {rows : List V}, (∀ v ∈ rows, RwOk H k v) → cnt H' k rows = cnt H k rows
  | 0, _, _ => rfl
  | k + 1, [], _ => by rw [cnt_nil, cnt_nil]
  | k + 1, v :: r, h => by
    have hv := h v List.mem_cons_self
    rw [cnt_cons, cnt_cons, inner_tk t hv, cnt_tk t (inner_ok hv), cnt_tk t (rows := r) fun y hy => h y (List.mem_cons_of_mem _ hy)]
termination_by k rows => (k, rows.length)
/-- what is_row says gives the form -/
theorem isRw_ok {p : Addr} {H : Hp} {bs ls : List Str} {kvs : Kvs} {r : Bool} : ∀ {k n : Nat} {v : V}, Dt p H n v → isRw H bs ls kvs r k v = true → RwOk H k v
  | 0, _, _, _, h => by cases h
  | k + 1, n, v, hD, h => by
    obtain ⟨t, ty, ⟨m, a, xs, _, rfl, rfl, ha, _, hx⟩ | ⟨_, hn⟩⟩ := hD.tupOr
    · cases xs with
      | nil => rw [isRw_not (by unfold wordV; rw [tupAt_tup ha]; rfl)] at h; cases h
      | cons y ys =>
        by_cases hy : ∃ x, y = .str x
        · obtain ⟨x, rfl⟩ := hy
          rw [isRw_cons ha] at h
          unfold rBody at h
          cases hf : rforms x with
          | none => rw [hf] at h; cases h
          | some ks =>
            rw [hf] at h
            dsimp only at h
            rw [Bool.and_eq_true, Bool.and_eq_true, Bool.and_eq_true] at h
            obtain ⟨h1, _, h3, _⟩ := h
            have hl := of_decide_eq_true h1
            refine ⟨a, x, ys, ks, rfl, ha, hf, hl, fun b hb => ?_⟩
            obtain ⟨j, j1, j2⟩ := prt_mem hb
            have hz : (("rows" : Str), b) ∈ ks.zip ys := List.mem_of_getElem? (i := j) (by rw [List.getElem?_zip_eq_some]; exact ⟨j1, j2⟩)
            have hp := List.all_eq_true.mp h3 _ hz
            have hp2 : rPt H bs ls kvs (isRw H bs ls kvs r k) "rows" b = true := hp
            unfold rPt at hp2
            rw [if_pos rfl] at hp2
            have hbD := hx b (List.mem_cons_of_mem _ (List.mem_of_getElem? j2))
            obtain ⟨t, ty, ⟨m2, c, bs2, _, rfl, rfl, hc, _, hx2⟩ | ⟨_, hn⟩⟩ := hbD.tupOr
            · unfold rowsB at hp2
              rw [tupAt_tup hc] at hp2
              exact ⟨c, bs2, rfl, hc, fun y hy => isRw_ok (hx2 y hy) (List.all_eq_true.mp hp2 y hy)⟩
            · unfold rowsB at hp2
              rw [hn] at hp2
              cases hp2
        · rw [isRw_not (by
            unfold wordV
            rw [tupAt_tup ha]
            cases y with
            | str x => exact absurd ⟨x, rfl⟩ hy
            | _ => rfl)] at h
          cases h
    · rw [isRw_not (by unfold wordV; rw [hn])] at h
      cases h
section
variable {P : Program} {w : World} {K : PySem.W.Frag} {mg : Str → Option Value} {base : Heap}
/-! ### parts_within -/
theorem sc_parts : FnScope ["row"] ["row"] (defScope (top 17)) := ⟨rfl, rfl, rfl, by decide +kernel, rfl, by decide +kernel, by decide +kernel⟩
def spParts : Sp := fun vs H Q _ => ∃ (a : Addr) (x : Str) (rest : List V) (ks : List Str), vs = [.ref a] ∧ H a = some (.tup (.str x :: rest)) ∧ rforms x = some ks ∧ rest.length = ks.length ∧ ∀ p H', Same H H' → H p = none → H' p = some (.lst (prt ks rest ks.length)) → Q (.ref p) H'
theorem d_parts (T : Txt w K mg) (S : Src K mg "parts_within" (top 17) ["row"]) : Def P w K mg base 1 "parts_within" ["row"] spParts := by
  obtain ⟨aF, mF, tab⟩ := T.rtab
  refine S.ok sc_parts (fun vs H Q E h => ?_) (fun f cdv A outer s H vs Q E hr h => ?_)
  · obtain ⟨a, x, rest, ks, rfl, _⟩ := h; rfl
  obtain ⟨a, wd, rest, ks, rfl, ha, hks, hlen, q⟩ := h
  have hks3 := rforms_len hks
  refine ⟨_, (pss_one (ps_ret (pe_comp (N' := ["kind", "part"]) (comp_scope (defScope (top 17)) (by rfl) (by decide +kernel) (by decide +kernel) (by decide +kernel) (by decide +kernel) (by decide +kernel) (by decide +kernel)) rfl (capt 2 [] (by rfl) (by rfl) (by decide +kernel)) (pi_zip rfl T.z_zip (pac (pe_ix (ix_tab tab) (pe_glob (v := .ref aF) rfl mF rfl) (pe_ix ix_tup (pv 0) pe_int (fun _ _ => rfl)) (fun _ _ => rfl)) (pac (pe_slice sl_tupW (pv 0) (po_some pe_int) po_none) pa_nil))) (fun _ _ _ => (show PG _ _ (gTup K 2 (gCons (gName 0) (gCons (gName 1) gNil))) from pg_tup (n := 2) rfl (pgs_cons (pg_name (i := 0) (show (["kind", "part"] : List Str).Nodup by decide +kernel) rfl (Or.inl rfl) (Or.inr rfl)) (pgs_cons (pg_name (i := 1) (show (["kind", "part"] : List Str).Nodup by decide +kernel) rfl (Or.inl rfl) (Or.inr rfl)) pgs_nil)))) (fun _ _ _ => pifs_one (pt_cmpR op_eq (pv 0) pe_str (nomark _))) (fun _ _ _ => (pv 1))))), ?_⟩
  have l3 : (100 : Nat) < sizeLine := by decide
  refine ⟨_, rfl, a, _, 0, _, rfl, rfl, SqT.of ha, atI_nat (j := 0) rfl, rfl, wd, ks, rfl, hks, fun bk hbk => ?_⟩
  refine ⟨_, rfl, 1, rfl, a, _, rfl, ha, fun pt H1 s1 h1 => ?_⟩
  rw [cut_tail] at h1
  refine ⟨bk, pt, rfl, ⟨_, Same.seqT s1 hbk⟩, ⟨_, SqT.of h1⟩, fun acc hacc => ?_⟩
  refine ⟨fun i m σ2 zs H2 => m = ks.length - i ∧ i ≤ ks.length ∧ (∃ x0 x1, σ2 = [x0, x1]) ∧ zs = prt ks rest i ∧ H2 acc = some (.lst zs) ∧ Same H1 H2,
    ⟨_, rfl, Nat.zero_le _, ⟨_, _, rfl⟩, (prt_zero _ _).symm, upd_same, same_of_new hacc _⟩, ?_⟩
  rintro i _ σ2 zs H2 ⟨rfl, hi, ⟨x0, x1, rfl⟩, rfl, hac, sm⟩
  refine ⟨hac, ?_⟩
  by_cases hlt : i < ks.length
  · obtain ⟨ki, hki⟩ : ∃ ki, ks[i]? = some ki := ⟨_, List.getElem?_eq_getElem hlt⟩
    obtain ⟨yi, hyi⟩ : ∃ yi, rest[i]? = some yi := ⟨_, List.getElem?_eq_getElem (by omega)⟩
    have hki' : (ks.map V.str)[i]? = some (.str ki) := by rw [List.getElem?_map, hki]; rfl
    have hk2 := Same.seqT sm (Same.seqT s1 hbk)
    have hy2 : SqT K H2 pt rest := SqT.of (sm _ _ h1)
    refine .inr ⟨⟨_, _, _, _, hk2, hy2, hki', hyi⟩, ?_, ?_⟩
    · have := prt_len (ks := ks) (vs := rest) (i := i)
      omega
    rintro v H3 ⟨Tp, hT, rfl, hyld⟩
    have e3 := hyld _ _ _ _ hk2 hy2 hki' hyi
    subst e3
    have s3 := same_of_new hT (.tup [.str ki, yi])
    refine ⟨Tp, _, rfl, SqT.of upd_same, rfl, _, _, rfl, _, _, rfl, rfl, ?_⟩
    refine ⟨_, rfl, rfl, _, rfl, ?_⟩
    have es := prt_succ hki hyi
    have hac3 := s3 _ _ hac
    by_cases ck : ki = "rows"
    · refine ifT (decide_eq_true (by rw [ck])) ?_
      rw [if_pos ck] at es
      refine ⟨_, rfl, hac3, _, (by omega : ks.length - (i + 1) < ks.length - i), rfl, hlt, ⟨_, _, rfl⟩, es.symm, upd_same, fun b' o' hb' => ?_⟩
      rw [upd_ne (ne_of_none hb' hacc)]
      exact s3 _ _ (sm _ _ hb')
    · refine ifF (decide_eq_false fun z => ck (by injection z)) ?_
      rw [if_neg ck, List.append_nil] at es
      exact ⟨_, (by omega : ks.length - (i + 1) < ks.length - i), rfl, hlt, ⟨_, _, rfl⟩, es.symm, hac3, fun b' o' hb' => s3 _ _ (sm _ _ hb')⟩
  · obtain rfl : i = ks.length := by omega
    refine .inl ⟨⟨_, _, Same.seqT sm (Same.seqT s1 hbk), SqT.of (sm _ _ h1), .inl (by rw [List.length_map]; exact Nat.le_refl _)⟩, ?_⟩
    exact q acc H2 (s1.trans sm) (s1.free hacc) hac
/-! ### add_rows -/
theorem sc_add : FnScope ["triples", "rows", "around", "row", "number", "part"] ["triples", "rows", "around"] (defScope (top 21)) := ⟨rfl, rfl, rfl, by decide +kernel, rfl, by decide +kernel, by decide +kernel⟩
def spAdd (d : Nat) : Sp := fun vs H Q _ => ∃ (t r : Addr) (a : Int) (us rows : List V), vs = [.ref t, .ref r, .int a] ∧ H t = some (.lst us) ∧ H r = some (.tup rows) ∧ (∀ x ∈ rows, RwOk H d x) ∧ us.length + cnt H d rows ≤ 1000000 ∧
  ∀ H' new, But t H H' → H' t = some (.lst (us ++ new)) → new.length = cnt H d rows → Q .non H'
def spAddL (d : Nat) : Sp := fun vs H Q E => ∃ d', d = d' + 1 ∧ spAdd d' vs H Q E
theorem d_add1 {d j : Nat} (T : Txt w K mg) (D_within : Def P w K mg base 1 "parts_within" ["row"] spParts) (S : Src K mg "add_rows" (top 21) ["triples", "rows", "around"]) (IH : Def P w K mg base (j + 1) "add_rows" ["triples", "rows", "around"] (spAddL d)) :
    Def P w K mg base (j + 2) "add_rows" ["triples", "rows", "around"] (spAdd d) := by
  refine S.ok sc_add (fun vs H Q E h => ?_) (fun f cdv A outer s H vs Q E hr h => ?_)
  · obtain ⟨t, r, a, us, rows, rfl, _⟩ := h; rfl
  obtain ⟨t, r, a, us, rows, rfl, ht, hrw, hR, hB, q⟩ := h
  refine ⟨_, (pss_one (ps_for PassesOwn.never rfl (pi_tup (pv 1)) (pg_name (i := 3) sc_add.nd rfl (Or.inl rfl))
      (pss_cons (ps_set (i := 4) sc_add.nd rfl (Or.inl rfl) (pe_cB call_len_seq rfl T.z_len bt_len (pac (pv 0) pa_nil)))
      (pss_cons (ps_expr (pe_bm PySem.F.plainAttrs_list PySem.F.slot_list_append PySem.F.type_list_append mt_append (pv 0) (pac (pe_tup (pac (pv 4) (pac (pv 3) (pac (pv 2) pa_nil)))) pa_nil)))
      (pss_one (ps_for PassesOwn.never rfl (pi_list (pe_def (D_within.mono (Nat.le_add_left 1 _)) hr rfl (pac (pv 3) pa_nil))) (pg_name (i := 5) sc_add.nd rfl (Or.inl rfl))
      (pss_one (ps_expr (pe_def (IH) hr rfl (pac (pv 0) (pac (pv 5) (pac (pv 4) pa_nil)))))))))))), ?_⟩
  have l3 : (1000100 : Nat) < sizeLine := by decide
  refine ⟨_, rfl, r, rfl, ⟨_, SqT.of hrw⟩, ?_⟩
  have rt : r ≠ t := ne_of hrw ht (by intro z; cases z)
  have split : ∀ i, cnt H d rows = cnt H d (rows.take i) + cnt H d (rows.drop i) := fun i => by rw [← cnt_app, List.take_append_drop]
  refine for_tup (xs := rows) (fun i σ H' => ∃ (new : List V) (x3 x4 x5 : Option V), σ = [some (.ref t), some (.ref r), some (.int a), x3, x4, x5] ∧ But t H H' ∧ H' t = some (.lst (us ++ new)) ∧ new.length = cnt H d (rows.take i)) ?_ ?_ ?_ ?_
  · exact ⟨[], _, _, _, rfl, fun _ _ _ h => h, by rw [List.append_nil]; exact ht, by rw [List.take_zero, cnt_nil]; rfl⟩
  · rintro i σ H' hi ⟨new, x3, x4, x5, rfl, hb, _⟩
    exact SqT.of (hb r _ rt hrw)
  · rintro i x σ H' hxi ⟨new, x3, x4, x5, rfl, hb, hT, hTr⟩
    have hx := hR x (List.mem_of_getElem? hxi)
    obtain ⟨d', rfl⟩ : ∃ d', d = d' + 1 := by
      cases d with
      | zero => exact hx.elim
      | succ d' => exact ⟨d', rfl⟩
    have tkH := But.tk hb ht
    have htake : cnt H (d' + 1) (rows.take (i + 1)) = cnt H (d' + 1) (rows.take i) + (1 + cnt H d' (inner H x)) := by
      rw [List.take_add_one, hxi, cnt_app]
      show _ + cnt H (d' + 1) [x] = _
      rw [cnt_cons, cnt_nil]
      omega
    have hsub : cnt H d' (inner H x) + 1 + cnt H (d' + 1) (rows.take i) ≤ cnt H (d' + 1) rows := by
      have := split (i + 1)
      omega
    have hlen : (us ++ new).length = us.length + cnt H (d' + 1) (rows.take i) := by rw [List.length_append, hTr]
    refine ⟨_, rfl, t, _, rfl, .inl (SqL.of hT), ?_⟩
    refine ⟨_, rfl, .inl ⟨rfl, _, SqL.of hT⟩, _, rfl, _, rfl, _, rfl, (by show 3 ≤ sizeLine; omega), fun u hu => ?_⟩
    have su := same_of_new hu (.tup [.int ((us ++ new).length : Int), x, .int a])
    refine ⟨t, _, _, rfl, rfl, su _ _ hT, (by omega), ?_⟩
    generalize hN : ((us ++ new).length : Int) = N at su ⊢
    have b2 : But t H' (upd (upd H' u (.tup [.int N, x, .int a])) t (.lst ((us ++ new) ++ [.ref u]))) := fun c o hc h => by rw [upd_ne hc]; exact su _ _ h
    have hT2 : upd (upd H' u (.tup [.int N, x, .int a])) t (.lst ((us ++ new) ++ [.ref u])) t = some (.lst ((us ++ new) ++ [.ref u])) := upd_same
    generalize upd (upd H' u (.tup [.int N, x, .int a])) t (.lst ((us ++ new) ++ [.ref u])) = H2 at *
    have tk2 := tkH.trans (But.tk b2 hT)
    obtain ⟨xa, wd, rest, ks, rfl, hxa, hks, hkl, hpr⟩ := id (RwOk.tk tk2 hx)
    refine ⟨_, rfl, xa, wd, rest, ks, rfl, hxa, hks, hkl, fun p H3 s3 hp0 h3 => ?_⟩
    have hpt : p ≠ t := fun z => by rw [z, hT2] at hp0; cases hp0
    have hT3 := s3 _ _ hT2
    have einn : inner H2 (.ref xa) = (prt ks rest ks.length).flatMap (rowsAt H2) := inner_eq hxa hks
    have ecn : cnt H2 d' (inner H2 (.ref xa)) = cnt H d' (inner H (.ref xa)) := by rw [inner_tk tk2 hx, cnt_tk tk2 (inner_ok hx)]
    rw [einn] at ecn
    generalize prt ks rest ks.length = ps at h3 hpr ecn
    refine ⟨p, rfl, ⟨_, SqL.of h3⟩, ?_⟩
    have split2 : ∀ i, cnt H2 d' (ps.flatMap (rowsAt H2)) = cnt H2 d' ((ps.take i).flatMap (rowsAt H2)) + cnt H2 d' ((ps.drop i).flatMap (rowsAt H2)) := fun i => by rw [← cnt_app, ← List.flatMap_append, List.take_append_drop]
    refine for_list (xs := ps) (fun i2 σ H4 => ∃ (new2 : List V) (y5 : Option V), σ = [some (.ref t), some (.ref r), some (.int a), some (.ref xa), some (.int N), y5] ∧ But t H3 H4 ∧ H4 t = some (.lst (((us ++ new) ++ [.ref u]) ++ new2)) ∧ new2.length = cnt H2 d' ((ps.take i2).flatMap (rowsAt H2))) ?_ ?_ ?_ ?_
    · exact ⟨[], _, rfl, fun _ _ _ h => h, by rw [List.append_nil]; exact hT3, by rw [List.take_zero, List.flatMap_nil, cnt_nil]; rfl⟩
    · rintro i2 σ H4 _ ⟨new2, y5, rfl, b4, _⟩
      exact SqL.of (b4 p _ hpt h3)
    · rintro i2 v σ H4 hvi ⟨new2, y5, rfl, b4, hT4, hTr4⟩
      have hvm := List.mem_of_getElem? hvi
      obtain ⟨b, bs, rfl, hb2, hbs⟩ := hpr v hvm
      have tk24 : TK H2 H4 := (TK.of s3).trans (But.tk b4 hT3)
      have htk2 : cnt H2 d' ((ps.take (i2 + 1)).flatMap (rowsAt H2)) = cnt H2 d' ((ps.take i2).flatMap (rowsAt H2)) + cnt H2 d' bs := by
        rw [List.take_add_one, hvi, List.flatMap_append, cnt_app]
        show _ + cnt H2 d' ([V.ref b].flatMap (rowsAt H2)) = _
        rw [List.flatMap_cons, List.flatMap_nil, List.append_nil, rowsAt_tup hb2]
      have hs2 := split2 (i2 + 1)
      have ecb : cnt H4 d' bs = cnt H2 d' bs := cnt_tk tk24 hbs
      have hlen4 : (((us ++ new) ++ [V.ref u]) ++ new2).length = us.length + cnt H (d' + 1) (rows.take i) + 1 + cnt H2 d' ((ps.take i2).flatMap (rowsAt H2)) := by
        rw [List.length_append, List.length_append, hlen, hTr4]; rfl
      refine ⟨_, rfl, _, rfl, _, rfl, d', rfl, t, b, N, ((us ++ new) ++ [V.ref u]) ++ new2, bs, rfl, hT4, tk24 _ _ hb2, fun y hy => (hbs y hy).tk tk24, ?_, fun H5 new3 b5 h5 t5 => ?_⟩
      · rw [hlen4, ecb]
        omega
      · exact ⟨new2 ++ new3, _, rfl, But.trans b4 b5, by rw [h5]; simp, by rw [List.length_append, hTr4, t5, ecb, htk2]⟩
    · rintro σ H4 ⟨new2, y5, rfl, b4, hT4, hTr4⟩
      rw [List.take_length] at hTr4
      exact ⟨new ++ (.ref u :: new2), _, _, _, rfl, But.trans hb (But.trans b2 (But.trans (But.of (T := t) s3) b4)), by rw [hT4]; simp, by rw [List.length_append, List.length_cons, hTr, hTr4, htake, ecn]; omega⟩
  · rintro σ H' ⟨new, x3, x4, x5, rfl, hb, hT, hTr⟩
    rw [List.take_length] at hTr
    exact q H' new hb hT hTr
theorem d_add (T : Txt w K mg) (D_within : Def P w K mg base 1 "parts_within" ["row"] spParts) (S : Src K mg "add_rows" (top 21) ["triples", "rows", "around"]) : ∀ d : Nat, Def P w K mg base (d + 2) "add_rows" ["triples", "rows", "around"] (spAdd d)
  | 0 => d_add1 T D_within S (S.no fun vs H Q E h => by obtain ⟨k', hk, _⟩ := h; omega)
  | d + 1 => d_add1 T D_within S ((d_add T D_within S d).imp fun vs H Q E h => by
      obtain ⟨k', hk, h⟩ := h
      obtain rfl : d = k' := by omega
      exact h)
end
end K05

set_option Elab.async false
set_option linter.all false
set_option maxRecDepth 100000
set_option maxHeartbeats 4000000
/-! The try statement; defs called by a handler. -/
namespace L2
open PySem PySem.Spec PyProof.Rows

/-- what a handler's suite wants: the name behind it goes -/
def goneEnds (i : Nat) (D : Ends) : Ends := { nx := fun σ H => D.nx (σ.set i none) H, rt := D.rt, bk := fun σ H => D.bk (σ.set i none) H, ct := fun σ H => D.ct (σ.set i none) H }
section
variable {X : Cx} {pins : List (Addr × Obj)} {D : Ends} {f : Flow} {s : Shared}
theorem SP.ofPn {E : Value → Shared → Prop} (ok : X.Ok) (h : SP { X with pn := X.pn ++ pins, xe := E } [] D f s) : SP X pins D f s := by
  cases f with
  | next => obtain ⟨σ', H', I, q⟩ := h; exact ⟨σ', H', I.ofPn ok, q⟩
  | brk => obtain ⟨σ', H', I, q⟩ := h; exact ⟨σ', H', I.ofPn ok, q⟩
  | cont => obtain ⟨σ', H', I, q⟩ := h; exact ⟨σ', H', I.ofPn ok, q⟩
  | ret u => obtain ⟨v, σ', H', I, r, q⟩ := h; exact ⟨v, σ', H', I.ofPn ok, r, q⟩
end

/-! ### a def called while an exception is handled -/
structure RoomH (k : Nat) (A : Around) (a : Addr) : Prop where
  hd : A.handled = some (.ref a)
  dp : A.depth + 3 * k + 5 < recursionLimit
  un : A.units + 16 * k + 200 < cLine
theorem Room.hand {k : Nat} {A : Around} (r : Room k A) (a : Addr) : RoomH k (A.mark (some (.ref a))) a := ⟨rfl, r.dp, r.un⟩
theorem RoomH.deeper {k : Nat} {A : Around} {a : Addr} (r : RoomH (k + 1) A a) (env : Env) : RoomH k (A.deeper env) a :=
  ⟨r.hd, by have := r.dp; show A.depth + 1 + 3 * k + 5 < _; omega, by have := r.un; show A.units + 3 + 16 * k + 200 < _; omega⟩
/-- a def's body that runs while the exception at a is handled -/
abbrev cxH (P : Program) (w : World) (K : PySem.W.Frag) (mg : Str → Option Value) (base : Heap) (N : List Str) (qual : Str) (scope : Scope) (f : Addr) (cd : Value) (A : Around) (outer : List Env) (s : Shared) (H : Hp) (a : Addr) (oe : Obj) : Cx :=
  { (cxOf CX0 P w K mg base N qual scope f cd A outer s H E0).nox with calm := false, pn := [(a, oe)] }
structure DefH (P : Program) (w : World) (K : PySem.W.Frag) (mg : Str → Option Value) (base : Heap) (k : Nat) (x : Str) (ps : List Str) (sp : Addr → Addr → Sp) : Prop where
  ex : ∃ (f : Addr) (fd : FuncData), (∀ (A : Around) (outer : List Env) (s : Shared) (H : Hp) (args : Args) (us : List Value) (vs : List V) (Q : VK) (a C t : Addr) (tb : Value), RoomH k A a → Env0 P w K mg base A outer s H → s.heap.get? a = some (exo C t tb) → H a = none →
      a ∉ frs outer → BindsTo s fd args (ps.zip us) → Vals vs us → sp a C vs H Q E0 → codeAny (model P w) A (.call (.ref f) args) (CR CX0 outer P w H s Q E0) s) ∧
    (∀ a C vs H Q E, sp a C vs H Q E → vs.length = ps.length) ∧ mg x = some (.ref f) ∧ PySem.W.keepIn K (.ref f) = true ∧ Binds K fd ps []
section
variable {P : Program} {w : World} {K : PySem.W.Frag} {mg : Str → Option Value} {base : Heap} {x : Str} {st : Stmt} {ps N : List Str} {k : Nat} {sp : Addr → Addr → Sp}
theorem Src.okH (S : Src K mg x st ps) (F : FnScope N ps (defScope st)) (len : ∀ a C vs H Q E, sp a C vs H Q E → vs.length = ps.length)
    (hbody : ∀ (f : Addr) (cdv : Value) (A : Around) (outer : List Env) (s : Shared) (H : Hp) (vs : List V) (Q : VK) (a C t : Addr) (tb : Value), RoomH k (A.deeper (envOfC x (defScope st) s.heap.objs.size f cdv)) a → sp a C vs H Q E0 →
      Hd (cxH P w K mg base N x (defScope st) f cdv A outer s H a (exo C t tb)) a C →
      ∃ tt, PSs (cxH P w K mg base N x (defScope st) f cdv A outer s H a (exo C t tb)) (defBody st) tt ∧ tt { nx := fun _ H' => Q .non H', rt := Q } (start N vs) H) : DefH P w K mg base (k + 1) x ps sp := by
  obtain ⟨f, fd, F0, hm, hb⟩ := S.ex
  obtain ⟨oc, od, kV, doc, pm, an, cdv, ct, osl, rfl, lk, hcd⟩ := F0.ex
  refine ⟨f, _, fun A outer s H args us vs Q a C t tb hr e0 hea hna hfa hbt r hsp => ?_, len, hm, F0.kp, hb⟩
  have hl := len _ _ _ _ _ _ hsp
  have KX : K.In s.heap := e0.mod.kin.keeps fun b o e => (e0.bs b o e).1
  have lim : s.heap.NoLimit := e0.mod.nolimit.keeps fun b o e => (e0.bs b o e).1
  have hkind : ∀ y ∈ ps.zip us, (defScope st).names.lookup y.1 = some .local ∨ ((defScope st).names.lookup y.1 = some .cell ∧ ((cellsFrom (s.heap.objs.size + 1) (defScope st).names []).lookup y.1).isSome = true) := fun ⟨n, v⟩ hy => by
    rcases F.par n (List.of_mem_zip hy).1 with q | q
    · exact .inl q
    · exact .inr ⟨q, PySem.W.cellsFrom_some _ _ _ (.inl q)⟩
  refine codeAny_call_function (by have := hr.dp; omega) (KX _ _ lk) rfl F.co F.gen rfl (PySem.W.codeRec_of KX hcd) (hbt _ _ _ _ ?_)
  refine wpAny_newFunctionEnv_cells F.kind hkind fun env he s1 y => ?_
  subst he
  refine ⟨lim.keeps y.toInCall.keep, codeAny_func ?_⟩
  have J0 : Inv (cxOf CX0 P w K mg base N x (defScope st) f cdv { A with handled := none } outer s H E0) [] (start N vs) H s1 := inv_start F rfl ⟨e0.frames, e0.mod, e0.bs, e0.bsz, e0.funs, e0.frf, e0.hok, e0.bare⟩ hl r y
  have hlt : a < s.heap.objs.size := Heap.lt_size hea
  have I : Inv (cxH P w K mg base N x (defScope st) f cdv A outer s H a (exo C t tb)) [] (start N vs) H s1 := by
    refine ⟨⟨J0.ok.mod, J0.ok.kind, J0.ok.glob, J0.ok.blt, J0.ok.above, J0.ok.inj, J0.ok.has, J0.ok.cab, fun z => (Bool.false_ne_true z).elim, J0.ok.frames, J0.ok.stk, J0.ok.exf, J0.ok.bs, J0.ok.bsz, J0.ok.noex, J0.ok.exfs, J0.ok.funs, J0.ok.frf⟩, J0.os, J0.bare, J0.base, J0.loc, J0.cell, J0.free, J0.freeC, fun p hp => ?_, J0.hok, J0.len⟩
    have e : p = (a, exo C t tb) := by simpa using hp
    subst e
    exact ⟨y.toInCall.keep _ _ hea, hna, Nat.ne_of_lt (Nat.lt_of_lt_of_le hlt J0.ok.above), hfa, by intro v z; cases z⟩
  obtain ⟨tt, ht, hq⟩ := hbody f cdv A outer s H vs Q a C t tb (hr.deeper _) hsp ⟨hr.hd, t, tb, by simp⟩
  refine wpAny_mono (ht [] s1 (start N vs) H _ I hq) (fun fl s' hs => ?_) fun e s' hs => hs.elim
  cases fl with
  | ret u =>
    obtain ⟨v, σ', H', J, rv, q⟩ := hs
    exact ⟨v, H', J.os, J.bare, J.base, J.hok, rv, q⟩
  | next =>
    obtain ⟨σ', H', J, q⟩ := hs
    exact ⟨.non, H', J.os, J.bare, J.base, J.hok, rfl, q⟩
  | brk =>
    obtain ⟨_, _, _, q⟩ := hs
    exact False.elim q
  | cont =>
    obtain ⟨_, _, _, q⟩ := hs
    exact False.elim q
end
theorem DefH.mono {P : Program} {w : World} {K : PySem.W.Frag} {mg : Str → Option Value} {base : Heap} {x : Str} {ps : List Str} {j k : Nat} {sp : Addr → Addr → Sp} (D : DefH P w K mg base j x ps sp) (h : j ≤ k) : DefH P w K mg base k x ps sp := by
  obtain ⟨f, fd, run, r⟩ := D.ex
  exact ⟨f, fd, fun A outer s H args us vs Q a C t tb hr => run A outer s H args us vs Q a C t tb ⟨hr.hd, by have := hr.dp; omega, by have := hr.un; omega⟩, r⟩
theorem pe_defH {X : Cx} {k : Nat} {x : Str} {ps : List Str} {sp : Addr → Addr → Sp} {a C : Addr} {p pos : Pos} {e : Expr} {es : List Expr} {t : TA} (D : DefH X.prog X.w X.K X.mg X.base k x ps sp) (hh : Hd X a C) (hr : RoomH k X.A a) (hg : Gl X x) (ha : PA X (e :: es) t)
    (hdb : (x == ("__debug__" : Str)) = false := by decide) (hpl : (e :: es).all plainE = true := by rfl) : PE X (.Call (.Name x p) (e :: es) [] pos) (tDef (sp a C) t) := by
  obtain ⟨f, fd, run, len, hm, hk, hb⟩ := D.ex
  intro pins s σ H Q I h
  rw [List.all_cons, Bool.and_eq_true] at hpl
  refine wpAny_Call_Name_kw (ld_glob I hg hm ?_ hdb)
  refine PySem.W.callWith_K (h₀ := X.base) I.ok.mod.kin hk (thn (ha pos pins s σ H _ I h) fun us s1 ⟨vs, H1, I1, r, q⟩ => ⟨I1.kIn, ?_⟩) (star_cons hpl.1) (star_all hpl.2)
  obtain ⟨t0, tb, hpn⟩ := hh.pn
  obtain ⟨z1, z2, z3, z4, _⟩ := I1.pin (a, exo C t0 tb) (List.mem_append_left _ hpn)
  have hl : us.length = ps.length := by rw [← r.length]; exact len _ _ _ _ _ _ q
  have nf : a ∉ frs X.stack := fun z => by
    rcases List.mem_cons.mp (I1.stkSub a z) with e | e
    · exact z3 e
    · exact z4 e
  refine wpAny_call (codeAny_mono (run X.A X.stack s1 H1 ⟨us, []⟩ us vs Q a C t0 tb hr I1.env0 z1 z2 nf (by have w := hb s1 us I1.kIn (by simpa using hl); simpa using w) r q) fun res s' hq => ?_)
  cases res with
  | error e => exact hq.elim
  | ok fl =>
    cases fl with
    | ret u => exact I1.after hq
    | next => exact False.elim hq
    | brk => exact False.elim hq
    | cont => exact False.elim hq

/-! ### for over a tuple while an exception is handled -/
theorem ps_forH {X : Cx} {tg l : Expr} {body : List Stmt} {tl : TE} {g : TG} {tb : TS} {pos : Pos} {a0 C : Addr} (hh : Hd X a0 C) (hp : PassesOwn (model X.prog X.w) X.A X.env X.xe) (hl : PE X l tl) (hg : PG X tg g) (hb : PSs X body tb)
    (hs : ∀ x, foldedSetIterable l X.env x = pure x := by intro _; rfl) : PS X (.For tg l body [] pos) (tFor (iTup X.K tl) g tb) := by
  intro pins s σ H D I h
  refine wpAny_For (thn (hl pins s σ H _ I h) fun v s1 ⟨x, H1, I1, r1, a, e, ⟨xs, hq⟩, q⟩ => ?_) hs
  subst e
  cases r1
  obtain ⟨its, rv, p, hz⟩ := I1.tuple hq
  refine wpAny_pyIter_tuple (show s1.heap.IsTuple a its.toArray from p) ?_
  obtain ⟨W, ⟨m0, w0⟩, turn⟩ := q
  have fp : FpOk X pins H1 s1.heap.objs.size := I1.fpOk (Nat.le_refl _) (I1.hok.fresh (Nat.le_refl _))
  generalize hit : s1.heap.objs.size = it at fp ⊢
  refine codeAny_forLoop_any (fun n s' => ∃ i σ' H', Inv X pins σ' H' s' ∧ s'.heap.IsTupleIter it a i ∧ H' it = none ∧ W i n σ' H') ?_ m0 ⟨0, σ, H1, I1.kept (t' := s1.toks) (fun b o e => Heap.get?_push_of_some _ e), ⟨_, by rw [← hit]; exact Heap.get?_push_size _ rfl, rfl, rfl⟩, fp.1, w0⟩
  rintro n s3 ⟨i, σ3, H3, I3, st3, fr3, w3⟩
  have f3 : FpOk X pins H3 it := ⟨fr3, fp.2⟩
  obtain ⟨f0, f1, f2, f4, f5, f6⟩ := id f3
  rcases turn i n σ3 H3 w3 with ⟨stop, qn⟩ | ⟨go, N, hN, step⟩
  · obtain ⟨xs3, hq3, hx3⟩ := stop
    obtain ⟨its3, rv3, p3, _⟩ := I3.tuple hq3
    have hl3 := rv3.length
    obtain ⟨t0, tb0, hpn⟩ := hh.pn
    have hpn' : (a0, exo C t0 tb0) ∈ X.pn ++ pins := List.mem_append_left _ hpn
    obtain ⟨z1, _⟩ := I3.pin (a0, exo C t0 tb0) hpn'
    refine wpAny_passesOwn hp (tuple_endH hh.hd z1 (f6 _ hpn') st3 (show s3.heap.IsTuple a its3.toArray from p3) (by simp; omega) fun h' eb => ?_)
    exact wpAny_execs_nil ⟨σ3, H3, I3.turned (t' := s3.toks) (fun b o hb e => eb b o hb e) f0 f1 f4 f5 f6, qn⟩
  · obtain ⟨xs3, x3, hq3, hx3⟩ := go
    obtain ⟨its3, rv3, p3, _⟩ := I3.tuple hq3
    obtain ⟨u, hu, ru⟩ := rv3.get hx3
    refine wpAny_passesOwn hp (wpAny_pyNext_tuple_item st3 (show s3.heap.IsTuple a its3.toArray from p3) (x := u) (by simpa using hu) fun h' st' sb => ?_)
    have I4 : Inv X pins σ3 H3 { s3 with heap := h' } := I3.turned (t' := s3.toks) (fun b o hb e => (sb.2 b hb).trans e) f0 f1 f4 f5 f6
    obtain ⟨ot, et, ct, dt⟩ := id st'
    refine wpAny_passesOwn hp (go_of (s := { s3 with heap := h' }) et ct dt (by decide) ?_)
    have I5 := I4.pinned (fp := [it]) (fun b hb => by rw [List.mem_singleton.mp hb]; exact f3) (fun b hb => by rw [List.mem_singleton.mp hb]; exact ⟨ot, et, fun v z => by rw [dt] at z; cases z⟩)
    refine wpAny_passesOwn hp (thn (hg _ { s3 with heap := h' } σ3 H3 x3 u _ I5 ru (step x3 H3 ⟨rfl, fun ys hy => by rw [I3.tuple_inj hy hq3]; exact hx3⟩)) fun _ s6 ⟨σ6, H6, I6, q6⟩ => ?_)
    refine wpAny_passesOwn hp (thn (hb _ s6 σ6 H6 _ I6 q6) fun f s7 q7 => ?_)
    have again : ∀ {σ7 : St} {H7 : Hp}, Inv X (pins ++ pinsAt [it] h') σ7 H7 s7 → N σ7 H7 → ∃ m, m < n ∧ ∃ i σ' H', Inv X pins σ' H' s7 ∧ s7.heap.IsTupleIter it a i ∧ H' it = none ∧ W i m σ' H' := fun {σ7 H7} I7 n7 => by
      obtain ⟨m', hm', w7⟩ := hN σ7 H7 n7
      have pm : (it, ot) ∈ X.pn ++ (pins ++ pinsAt [it] h') := List.mem_append_right _ (List.mem_append_right _ (mem_pinsAt (List.mem_singleton.mpr rfl) et))
      exact ⟨m', hm', i + 1, σ7, H7, I7.unpinned, st'.at fun o e => by rw [et] at e; cases e; exact (I7.pin _ pm).1, (I7.pin _ pm).2.1, w7⟩
    cases f with
    | next => obtain ⟨σ7, H7, I7, n7⟩ := q7; exact again I7 n7
    | cont => obtain ⟨σ7, H7, I7, n7⟩ := q7; exact again I7 n7
    | brk => obtain ⟨σ7, H7, I7, q7⟩ := q7; exact ⟨σ7, H7, I7.unpinned, q7⟩
    | ret v => obtain ⟨x7, σ7, H7, I7, r7, q7⟩ := q7; exact ⟨x7, σ7, H7, I7.unpinned, r7, q7⟩
end L2

set_option Elab.async false
set_option linter.all false
set_option maxRecDepth 100000
set_option maxHeartbeats 4000000
/-! The class of an exception, asked as an attribute. -/
namespace L2
open PySem PySem.Spec PyProof.Rows PySem.W

structure ExcAt (K : Frag) (C : Addr) : Prop where
  ga : findIn K (.ref C) "__getattribute__" = some (some (.builtin "BaseException.__getattribute__"))
  gr : findIn K (.ref C) "__getattr__" = some none
  fo : findObj K C none "__class__" = some (.bind (.builtin "getset_descriptor.__get__") (.builtin "object.__class__"))
  mo : mroIn K C (.type "object") = some true
  ba : subIn K (.ref C) (.type "BaseException") = some true
theorem exc_class {prog : Program} {w : World} {A : Around} {E : Value → Shared → Prop} {s : Shared} {K : Frag} {a C : Addr} {ox : Obj} {Q : Option Value → Shared → Prop} (X : K.In s.heap) (I : InstAt s.heap a ox C none) (F : ExcAt K C)
    (h : Q (some (.ref C)) { s with toks := s.toks + 1 }) : wpAny (model prog w) A (getAttr? (.ref a) "__class__") Q E s := by
  obtain ⟨hh, g, d, t, os⟩ := s
  have L0 := I.type (M := model prog w)
  have L1 := looks_findIn (M := model prog w) X F.ga
  have L2 := looks_findIn (M := model prog w) X F.gr
  have L3 := looks_find (M := model prog w) X I F.fo
  unfold getAttr? getAttrBy? getAttrBy
  refine wpAny_bind (wpAny_mkText (wpAny_bind (wpAny_attempt (wpAny_holding (wpAny_bind (L0.at (wpAny_bind (L1.at ?_))))))))
  show wpAny _ _ (getAttrByItsOwn _ _ _ _ _ _) _ _ _
  unfold getAttrByItsOwn hookBefore
  refine wpAny_bind ?_
  show wpAny _ _ (typeLookup (.ref C) "__getattr__") _ _ _
  refine L2.at ?_
  refine wpAny_bind (wpAny_attempt (wpAny_holding ?_))
  show wpAny _ _ (boundAndCalled (.builtin "BaseException.__getattribute__") (.ref a) _) _ _ _
  unfold boundAndCalled
  rw [PySem.F.attr_ValueError.ga.bind (.ref a)]
  refine wpAny_bind (wpAny_pure ?_)
  show wpAny _ _ (call (.builtin "BaseException.__getattribute__") [.ref a, .str "__class__" t]) _ _ _
  refine wpAny_call (codeAny_call_builtin PySem.F.attr_ValueError.ga.plain PySem.F.entry_bexc_ga ?_)
  have hk : builtinKind "BaseException.__getattribute__" = some .slot := by decide +kernel
  have hsplit : splitId "BaseException.__getattribute__" = some ("BaseException", "__getattribute__") := by decide +kernel
  have hargs := PySem.F.args_bexc_ga (.ref a) (.str "__class__" t)
  have LI : Looks (model prog w) hh (isInstance (.ref a) (.type "BaseException")) true := L0.andThen (looks_subIn X F.ba)
  simp only [checkBuiltinCall, hk, hsplit]
  refine wpAny_bind (LI.at ?_)
  rw [if_neg (by decide)]
  refine wpAny_of_eq (a := ()) hargs ?_
  unfold Builtin.«object.__getattribute__»
  refine wpAny_bind (wpAny_pure ?_)
  dsimp only
  refine wpAny_bind (wpAny_pure ?_)
  refine wpAny_bind (L0.at (wpAny_bind (L3.at ?_)))
  dsimp only
  show wpAny _ _ ((do let v ← holding [Value.builtin "object.__class__"] (call (.builtin "getset_descriptor.__get__") [.builtin "object.__class__", .ref a, .ref C]); ret v) : Sem Fin) _ _ _
  refine wpAny_bind (wpAny_holding (wpAny_call (class_get (ox := ox) (od := none) X I F.mo (wpAny_pure ?_))))
  show wpAny _ _ (handedOut (.ref C)) _ _ _
  exact wpAny_pure (wpAny_pure h)
end L2

set_option Elab.async false
set_option linter.all false
set_option maxRecDepth 100000
set_option maxHeartbeats 4000000
/-! isinstance of the exception that is handled; count and index of truths. -/
namespace L2
open PySem PySem.Spec PyProof.Rows PySem.SeqAt

theorem kitx_exc {K : PySem.W.Frag} {a C : Addr} {ox : Obj} (F : ExcAt K C) (hc : (PySem.W.clsIn K C).isSome = true) : PySem.W.KitX K (.ref a) (.ref C) (fun h => PySem.W.InstAt h a ox C none) where
  ty := fun _ _ _ I => I.type
  it := fun _ _ X _ => isType_in X hc
  ne := fun h tp dd its n sl X htp => by
    refine Bool.eq_false_iff.mpr fun q => ?_
    have e : C = tp := Value.ref.inj (beq_iff_eq.mp q)
    subst e
    unfold PySem.W.clsIn at hc
    split at hc
    · rename_i c' d' cd' sl' ho
      have z := (X _ _ ho).symm.trans htp
      cases z
    · cases hc
  ca := fun X I k => exc_class X I F k
/-- isinstance(e, D) of the handled exception -/
theorem call_isiX {X : Cx} {a C : Addr} (hh : Hd X a C) (F : ExcAt X.K C) (hc : (PySem.W.clsIn X.K C).isSome = true) :
    CallR X (.builtin "isinstance") (fun xs H Q => ∃ (c : V) (cv : Value) (b : Bool), xs = [.ref a, c] ∧ ((∃ D, c = .ref D ∧ cv = .ref D) ∨ ∃ n, c = .ty n ∧ cv = .type n) ∧ PySem.W.kitOne X.K (.ref C) cv = some b ∧ Q (.bl b) H) := by
  intro pins s σ H xs us Q I r h
  obtain ⟨c, cv, b, rfl, hcv, hk, q⟩ := h
  obtain ⟨u, v, rfl, ru, rv⟩ := r.two
  cases ru
  have ev : v = cv := by
    rcases hcv with ⟨D, rfl, rfl⟩ | ⟨n, rfl, rfl⟩
    · exact rv
    · exact rv
  subst ev
  obtain ⟨t0, tb, hpn⟩ := hh.pn
  obtain ⟨z1, _⟩ := I.pin (a, exo C t0 tb) (List.mem_append_left _ hpn)
  have J : PySem.W.InstAt s.heap a (exo C t0 tb) C none := ⟨z1, rfl, rfl, trivial⟩
  exact PySem.W.kia_one (kitx_exc F hc) I.kIn J hk (fun z => nomatch z) fun tk => ⟨.bl b, H, I.tok tk, rfl, q⟩

theorem bools_of {bs : List Bool} {us : List Value} (r : Vals (bs.map V.bl) us) : us = bs.map Value.bool := by
  induction bs generalizing us with
  | nil => cases r; rfl
  | cons b t ih =>
    cases r with
    | cons r1 r2 => rw [ih r2, (show _ = Value.bool b from r1)]; rfl
def isT : Value → Bool
  | .bool b => b
  | _ => false
theorem eq_isT {A : Around} {s : Shared} (b : Bool) : EqAt A s (.bool b) (.bool true) b := by
  have r1 : RelV (.bl b) (.bool b) := rfl
  have r2 : RelV (.bl true) (.bool true) := rfl
  have q := eqAt_V (A := A) (s := s) r1 r2 rfl rfl
  have e : eqV (.bl b) (.bl true) = b := by cases b <;> rfl
  rw [e] at q
  exact q
theorem countP_isT : ∀ (bs : List Bool), (bs.map Value.bool).countP isT = bs.count true
  | [] => rfl
  | b :: t => by
    rw [List.map_cons, List.countP_cons, countP_isT t, List.count_cons]
    cases b <;> rfl
theorem mt_countB {X : Cx} : MtR X "list.count" (fun x xs H Q => ∃ (l : Addr) (bs : List Bool), x = .ref l ∧ xs = [.bl true] ∧ H l = some (.lst (bs.map V.bl)) ∧ Q (.int (bs.count true : Nat)) H) := by
  intro pins s σ H x xs v us Q I rx r h
  obtain ⟨l, bs, rfl, rfl, hl, q⟩ := h
  cases rx
  obtain ⟨u, rfl, ru⟩ := r.one
  obtain rfl : u = Value.bool true := ru
  obtain ⟨_, its, n, rv, ho⟩ := I.hok l _ hl
  obtain rfl := bools_of rv
  refine call_meets PySem.F.slot_list_count ⟨_, ho, rfl⟩ PySem.F.entry_list_count (PySem.F.args_list_count_2 _ _) (list_countAt l (bs.map Value.bool).toArray n none #[] (.bool true) isT) ⟨ho, fun y hy => ?_, ⟨.int _, H, I.tok _, ⟨_, rfl⟩, ?_⟩⟩
  · have hy' : y ∈ bs.map Value.bool := by simpa using hy
    obtain ⟨b, _, rfl⟩ := List.mem_map.mp hy'
    exact eq_isT b
  · rw [show (bs.map Value.bool).toArray.toList = bs.map Value.bool from rfl, countP_isT]
    exact q
theorem mt_indexB {X : Cx} : MtR X "list.index" (fun x xs H Q => ∃ (l : Addr) (bs : List Bool) (j : Nat), x = .ref l ∧ xs = [.bl true] ∧ H l = some (.lst (bs.map V.bl)) ∧ j < 1000 ∧ bs[j]? = some true ∧ (∀ m, m < j → bs[m]? = some false) ∧ Q (.int (j : Nat)) H) := by
  intro pins s σ H x xs v us Q I rx r h
  obtain ⟨l, bs, j, rfl, rfl, hl, h1000, hj, hno, q⟩ := h
  cases rx
  obtain ⟨u, rfl, ru⟩ := r.one
  obtain rfl : u = Value.bool true := ru
  obtain ⟨_, its, n, rv, ho⟩ := I.hok l _ hl
  obtain rfl := bools_of rv
  obtain ⟨hjl, hjt⟩ := List.getElem?_eq_some_iff.mp hj
  refine call_meets PySem.F.slot_list_index ⟨_, ho, rfl⟩ PySem.F.entry_list_index (PySem.F.args_list_index_2 _ _) (PySem.MeetsSeq.list_index l (bs.map Value.bool).toArray n (.bool true) isT (fun y hy => ?_) j (by simpa using hjl) (by omega) ?_ (fun m hm hmj => ?_)) ⟨ho, ⟨.int _, H, I.tok _, ⟨_, rfl⟩, q⟩⟩
  · have hy' : y ∈ bs.map Value.bool := by simpa using hy
    obtain ⟨b, _, rfl⟩ := List.mem_map.mp hy'
    intro prog w A E s' Q' hq
    exact eq_isT (A := A) (s := s') b prog w E Q' hq
  · simp [hjt, isT]
  · have hml : m < bs.length := by simpa using hm
    have z := hno m hmj
    rw [List.getElem?_eq_getElem hml] at z
    simp [Option.some.inj z, isT]
end L2

set_option Elab.async false
set_option linter.all false
set_option maxRecDepth 100000
set_option maxHeartbeats 4000000
namespace K05
open PySem L2
seal L2.PE L2.PS L2.PSs L2.PT L2.PW L2.PA L2.PG L2.PGs L2.PI L2.PO L2.PIfs L2.PC L2.OpR L2.CallR L2.IxR L2.SlR L2.PSet L2.UnR
/-! ### names -/
def strV : V → Str
  | .str x => x
  | _ => ""
def nmsOf (H : Hp) (xs : List V) : List Str := xs.map fun x => strV (fstV H x)
/-- what has a name ahead -/
def Nmd (φ : Hp → V → Bool) : Prop := ∀ {H : Hp} {v : V}, φ H v = true → ∃ (a : Addr) (y : Str) (ys : List V), v = .ref a ∧ H a = some (.tup (.str y :: ys)) ∧ nmS y = true
theorem at_ref {H : Hp} {v : V} {xs : List V} (h : tupAt H v = some xs) : ∃ a, v = .ref a ∧ H a = some (.tup xs) := by
  cases v with
  | ref a =>
    unfold tupAt at h
    dsimp only at h
    split at h
    · rename_i ha
      cases h
      exact ⟨a, rfl, ha⟩
    · cases h
  | _ => cases h
theorem nmd_box : Nmd boxV := by
  intro H v h
  unfold boxV at h
  cases e : tupAt H v with
  | none => rw [e] at h; cases h
  | some xs =>
    rw [e] at h
    match xs, e, h with
    | [], _, h => cases h
    | [_], _, h => cases h
    | [y, z], e, h =>
      dsimp only at h
      rw [Bool.and_eq_true] at h
      obtain ⟨x, rfl⟩ := nm_str h.1
      obtain ⟨a, rfl, ha⟩ := at_ref e
      exact ⟨a, x, _, rfl, ha, h.1⟩
    | _ :: _ :: _ :: _, _, h => cases h
theorem nmd_list : Nmd listV := by
  intro H v h
  unfold listV at h
  cases e : tupAt H v with
  | none => rw [e] at h; cases h
  | some xs =>
    rw [e] at h
    match xs, e, h with
    | [], _, h => cases h
    | [_], _, h => cases h
    | [y, z], e, h =>
      dsimp only at h
      rw [Bool.and_eq_true] at h
      obtain ⟨x, rfl⟩ := nm_str h.1
      obtain ⟨a, rfl, ha⟩ := at_ref e
      exact ⟨a, x, _, rfl, ha, h.1⟩
    | _ :: _ :: _ :: _, _, h => cases h
/-- a function's parts -/
theorem fun_parts {H : Hp} {v : V} (h : funV H v = true) : ∃ (a pa oa ra : Addr) (x : Str) (ps os : List Str) (rs : List V), v = .ref a ∧ H a = some (.tup [.str x, .ref pa, .ref oa, .ref ra]) ∧ nmS x = true ∧
    H pa = some (.tup (ps.map V.str)) ∧ H oa = some (.tup (os.map V.str)) ∧ H ra = some (.tup rs) ∧ ps.length ≤ 3 ∧ os.length ≤ 3 ∧ (∀ y ∈ ps, nmS y = true) ∧ (∀ y ∈ os, nmS y = true) := by
  have txts : ∀ {u : V}, tupOf H 3 (fun _ x => nmV x) u = true → ∃ (b : Addr) (ys : List Str), u = .ref b ∧ H b = some (.tup (ys.map V.str)) ∧ ys.length ≤ 3 ∧ ∀ y ∈ ys, nmS y = true := by
    intro u hu
    unfold tupOf at hu
    cases e : tupAt H u with
    | none => rw [e] at hu; cases hu
    | some xs =>
      rw [e] at hu
      dsimp only at hu
      rw [Bool.and_eq_true] at hu
      obtain ⟨b, rfl, hb⟩ := at_ref e
      have ex : xs = (xs.map strV).map V.str := by
        rw [List.map_map]
        conv => lhs; rw [← List.map_id xs]
        refine List.map_congr_left fun y hy => ?_
        obtain ⟨z, rfl⟩ := nm_str (List.all_eq_true.mp hu.2 y hy)
        rfl
      refine ⟨b, xs.map strV, rfl, by rw [← ex]; exact hb, by rw [List.length_map]; exact of_decide_eq_true hu.1, fun y hy => ?_⟩
      obtain ⟨z, hz, rfl⟩ := List.mem_map.mp hy
      have := List.all_eq_true.mp hu.2 z hz
      obtain ⟨z', rfl⟩ := nm_str this
      exact this
  unfold funV at h
  cases e : tupAt H v with
  | none => rw [e] at h; cases h
  | some xs =>
    rw [e] at h
    match xs, e, h with
    | [], _, h => cases h
    | [_], _, h => cases h
    | [_, _], _, h => cases h
    | [_, _, _], _, h => cases h
    | [x, p, o, r], e, h =>
      dsimp only at h
      rw [Bool.and_eq_true, Bool.and_eq_true, Bool.and_eq_true] at h
      obtain ⟨h1, h2, h3, h4⟩ := h
      obtain ⟨x, rfl⟩ := nm_str h1
      obtain ⟨a, rfl, ha⟩ := at_ref e
      obtain ⟨pa, ps, rfl, hp, lp, np⟩ := txts h2
      obtain ⟨oa, os, rfl, ho, lo, no⟩ := txts h3
      obtain ⟨rs, hr⟩ := Option.isSome_iff_exists.mp h4
      obtain ⟨ra, rfl, hra⟩ := at_ref hr
      exact ⟨a, pa, oa, ra, x, ps, os, rs, rfl, ha, h1, hp, ho, hra, lp, lo, np, no⟩
    | _ :: _ :: _ :: _ :: _ :: _, _, h => cases h
theorem nmd_fun : Nmd funV := by
  intro H v h
  obtain ⟨a, pa, oa, ra, x, ps, os, rs, rfl, ha, hx, _⟩ := fun_parts h
  exact ⟨a, x, _, rfl, ha, hx⟩
theorem fst_str {φ : Hp → V → Bool} (N : Nmd φ) {H : Hp} {xs : List V} (h : xs.all (φ H) = true) : xs.map (fstV H) = (nmsOf H xs).map V.str := by
  unfold nmsOf
  rw [List.map_map]
  refine List.map_congr_left fun x hx => ?_
  obtain ⟨a, y, z, rfl, ha, _⟩ := N (List.all_eq_true.mp h x hx)
  show fstV H (.ref a) = V.str (strV (fstV H (.ref a)))
  have e : fstV H (.ref a) = .str y := by unfold fstV; rw [tupAt_tup ha]
  rw [e]
  rfl
theorem nms_nm {φ : Hp → V → Bool} (N : Nmd φ) {H : Hp} {xs : List V} (h : xs.all (φ H) = true) : ∀ y ∈ nmsOf H xs, nmS y = true := by
  intro y hy
  obtain ⟨x, hx, rfl⟩ := List.mem_map.mp hy
  obtain ⟨a, y, z, rfl, ha, hn⟩ := N (List.all_eq_true.mp h x hx)
  have e : fstV H (.ref a) = .str y := by unfold fstV; rw [tupAt_tup ha]
  rw [e]
  exact hn
theorem fst_same {p : Addr} {H H' : Hp} {n : Nat} {xs : List V} (s : Same H H') (hx : ∀ x ∈ xs, Dt p H n x) : xs.map (fstV H') = xs.map (fstV H) :=
  List.map_congr_left fun x hm => by unfold fstV; rw [tupAt_same s (hx x hm)]
/-! ### what the variables are -/
def thingsV (H : Hp) (v : V) : List V := (tupAt H v).getD []
def varsOk (H : Hp) (b l : V) : Bool := tupOf H 6 boxV b && (tupOf H 3 listV l && decide (nmsOf H (thingsV H b) ++ nmsOf H (thingsV H l)).Nodup)
theorem tupOf_parts {H : Hp} {m : Nat} {φ : Hp → V → Bool} {v : V} (h : tupOf H m φ v = true) : ∃ (a : Addr) (xs : List V), v = .ref a ∧ H a = some (.tup xs) ∧ thingsV H v = xs ∧ xs.length ≤ m ∧ xs.all (φ H) = true := by
  unfold tupOf at h
  cases e : tupAt H v with
  | none => rw [e] at h; cases h
  | some xs =>
    rw [e] at h
    dsimp only at h
    rw [Bool.and_eq_true] at h
    obtain ⟨a, rfl, ha⟩ := at_ref e
    exact ⟨a, xs, rfl, ha, by unfold thingsV; rw [e]; rfl, of_decide_eq_true h.1, h.2⟩
theorem Dt.parts {p : Addr} {H : Hp} {n : Nat} {a : Addr} {xs : List V} (h : Dt p H n (.ref a)) (ha : H a = some (.tup xs)) : ∃ m, ∀ x ∈ xs, Dt p H m x := by
  obtain ⟨t, ty, ⟨m, a', xs', _, e, _, ha', _, hx⟩ | ⟨_, hn⟩⟩ := h.tupOr
  · cases e
    rw [ha] at ha'
    cases ha'
    exact ⟨m, hx⟩
  · rw [tupAt_tup ha] at hn; cases hn
section
variable {P : Program} {w : World} {K : PySem.W.Frag} {mg : Str → Option Value} {base : Heap}
theorem sc_vars : FnScope ["boxes", "lists"] ["boxes", "lists"] (defScope (top 42)) := ⟨rfl, rfl, rfl, by decide +kernel, rfl, by decide +kernel, by decide +kernel⟩
def spVars (C : Addr) : Sp := fun vs H Q E => ∃ (b l : V) (p : Addr) (n : Nat), vs = [b, l] ∧ Dt p H n b ∧ Dt p H n l ∧ (varsOk H b l = true → ∀ H', Same H H' → Q .non H') ∧ (varsOk H b l = false → ∀ H', Same H H' → E (.ref C) none H')
theorem d_vars {C : Addr} (T : Txt w K mg) (m_NoProgram : mg "NoProgram" = some (.ref C)) (k_NoProgram : ExcK K C) (D_box : Def P w K mg base 3 "is_box" ["thing"] (spPred boxV)) (D_list : Def P w K mg base 4 "is_list" ["thing"] (spPred listV))
    (D_is_tuple_of : Def P w K mg base 5 "is_tuple_of" ["thing", "most", "is_one"] (spTupOf P w K mg base 4)) (D_names_of : Def P w K mg base 1 "names_of" ["things"] spNamesOf) (D_unlike : Def P w K mg base 1 "are_unlike" ["names"] spUnlike)
    (S : Src K mg "check_variables" (top 42) ["boxes", "lists"]) : DefX P w K mg base 6 "check_variables" ["boxes", "lists"] (spVars C) := by
  obtain ⟨tm, v_MOST_BOXES⟩ := T.cboxes
  obtain ⟨tm2, v_MOST_LISTS⟩ := T.clists
  obtain ⟨fb, fdb, Fb, hfb, hkb, hbb⟩ := (D_box.mono (by decide : 3 ≤ 4)).ex
  obtain ⟨fl, fdl, Fl, hfl, hkl, hbl⟩ := D_list.ex
  refine S.okX sc_vars (fun vs H Q E h => ?_) (fun f0 cdv A outer s H vs Q E hr h => ?_)
  · obtain ⟨b, l, p, n, rfl, _⟩ := h; rfl
  obtain ⟨b, l, p, n, rfl, hb, hl, q1, q2⟩ := h
  refine ⟨_, (pss_cons (ps_if (pt_not (pt_val (pe_def (D_is_tuple_of) hr rfl (pac (pv 0) (pac (pe_glob (v := .int (6)) rfl v_MOST_BOXES ⟨_, rfl⟩) (pac (pe_glob (v := .ref fb) rfl hfb rfl) pa_nil))))))
      (pss_one (ps_raise frm_cx out_cx rfl rfl m_NoProgram k_NoProgram pe_str)) pss_nil)
      (pss_cons (ps_if (pt_not (pt_val (pe_def (D_is_tuple_of) hr rfl (pac (pv 1) (pac (pe_glob (v := .int (3)) rfl v_MOST_LISTS ⟨_, rfl⟩) (pac (pe_glob (v := .ref fl) rfl hfl rfl) pa_nil))))))
      (pss_one (ps_raise frm_cx out_cx rfl rfl m_NoProgram k_NoProgram pe_str)) pss_nil)
      (pss_one (ps_if (pt_not (pt_val (pe_def (D_unlike.mono (by decide)) hr rfl (pac (pe_op op_cat (pe_def (D_names_of.mono (by decide)) hr rfl (pac (pv 0) pa_nil)) (pe_def (D_names_of.mono (by decide)) hr rfl (pac (pv 1) pa_nil))) pa_nil))))
      (pss_one (ps_raise frm_cx out_cx rfl rfl m_NoProgram k_NoProgram pe_str)) pss_nil)))), ?_⟩
  have l3 : (100000 : Nat) < sizeLine := by rw [sizeLine_eq]; decide
  refine ⟨_, rfl, b, 6, fb, fdb, _, boxV, p, n, rfl, hb, Fb, hkb, hbb, stb_box, fun H1 s1 => ⟨_, rfl, ?_⟩⟩
  unfold varsOk at q1 q2
  cases c1 : tupOf H 6 boxV b with
  | false =>
    rw [c1] at q2
    exact ifT rfl (q2 rfl H1 s1)
  | true =>
  rw [c1, Bool.true_and] at q1 q2
  refine ifF rfl ?_
  refine ⟨_, rfl, l, 3, fl, fdl, _, listV, p, n, rfl, hl.same s1, Fl, hkl, hbl, stb_list, fun H2 s2 => ⟨_, rfl, ?_⟩⟩
  have s12 := s1.trans s2
  have e2 : tupOf H1 3 listV l = tupOf H 3 listV l := stb_tup stb_list s1 hl
  rw [e2]
  cases c2 : tupOf H 3 listV l with
  | false =>
    rw [c2] at q2
    exact ifT rfl (q2 rfl H2 s12)
  | true =>
  rw [c2, Bool.true_and] at q1 q2
  refine ifF rfl ?_
  obtain ⟨ab, xb, rfl, hab, tb, lb, allb⟩ := tupOf_parts c1
  obtain ⟨al, xl, rfl, hal, tl, ll, alll⟩ := tupOf_parts c2
  rw [tb, tl] at q1 q2
  obtain ⟨mb, hxb⟩ := hb.parts hab
  obtain ⟨ml, hxl⟩ := hl.parts hal
  refine ⟨_, rfl, ab, xb, rfl, s12 _ _ hab, by omega, fun x hx => ?_, fun u1 H3 hu1 s3 h3 => ?_⟩
  · obtain ⟨a, y, ys, e, ha, _⟩ := nmd_box (List.all_eq_true.mp allb x hx)
    exact ⟨a, _, _, e, s12 _ _ ha⟩
  rw [fst_same s12 hxb, fst_str nmd_box allb] at h3
  have s13 := s12.trans s3
  refine ⟨_, rfl, al, xl, rfl, s13 _ _ hal, by omega, fun x hx => ?_, fun u2 H4 hu2 s4 h4 => ?_⟩
  · obtain ⟨a, y, ys, e, ha, _⟩ := nmd_list (List.all_eq_true.mp alll x hx)
    exact ⟨a, _, _, e, s13 _ _ ha⟩
  rw [fst_same s13 hxl, fst_str nmd_list alll] at h4
  have s14 := s13.trans s4
  have lnb : (nmsOf H xb).length = xb.length := List.length_map _
  have lnl : (nmsOf H xl).length = xl.length := List.length_map _
  refine ⟨u1, u2, _, _, rfl, rfl, s4 _ _ h3, h4, by rw [List.length_map, List.length_map]; omega, fun u3 hu3 => ?_⟩
  have s5 := same_of_new hu3 (.lst ((nmsOf H xb).map V.str ++ (nmsOf H xl).map V.str))
  refine ⟨u3, nmsOf H xb ++ nmsOf H xl, rfl, by rw [List.map_append]; exact upd_same, by rw [List.length_append]; omega, fun H6 s6 => ⟨_, rfl, ?_⟩⟩
  have s16 := s14.trans (s5.trans s6)
  cases c3 : decide (nmsOf H xb ++ nmsOf H xl).Nodup with
  | true => exact ifF rfl (q1 c3 H6 s16)
  | false => exact ifT rfl (q2 c3 H6 s16)
/-! ### the functions -/
def ownV (H : Hp) (v : V) : List Str := match tupAt H v with
  | some [_, p, o, _] => (thingsV H p).map strV ++ (thingsV H o).map strV
  | _ => []
theorem map_strs (ps : List Str) : (ps.map V.str).map strV = ps := by
  rw [List.map_map]
  conv => rhs; rw [← List.map_id ps]
  exact List.map_congr_left fun _ _ => rfl
theorem ownV_eq {H : Hp} {a pa oa : Addr} {x r : V} {ps os : List Str} (h : H a = some (.tup [x, .ref pa, .ref oa, r])) (hp : H pa = some (.tup (ps.map V.str))) (ho : H oa = some (.tup (os.map V.str))) : ownV H (.ref a) = ps ++ os := by
  unfold ownV thingsV
  rw [tupAt_tup h]
  dsimp only
  rw [tupAt_tup hp, tupAt_tup ho]
  show (ps.map V.str).map strV ++ (os.map V.str).map strV = _
  rw [map_strs, map_strs]
def funsOk (H : Hp) (ts : List Str) (v : V) : Bool := tupOf H 4 funV v && (decide (nmsOf H (thingsV H v)).Nodup && (thingsV H v).all fun f => decide (ts ++ ownV H f).Nodup)
theorem sc_funs : FnScope ["functions", "taken", "function"] ["functions", "taken"] (defScope (top 43)) := ⟨rfl, rfl, rfl, by decide +kernel, rfl, by decide +kernel, by decide +kernel⟩
def spFuns (C : Addr) : Sp := fun vs H Q E => ∃ (v : V) (tk : Addr) (ts : List Str) (p : Addr) (n : Nat), vs = [v, .ref tk] ∧ H tk = some (.lst (ts.map V.str)) ∧ ts.length ≤ 20 ∧ Dt p H n v ∧ (funsOk H ts v = true → ∀ H', Same H H' → Q .non H') ∧ (funsOk H ts v = false → ∀ H', Same H H' → E (.ref C) none H')
theorem d_funs {C : Addr} (T : Txt w K mg) (m_NoProgram : mg "NoProgram" = some (.ref C)) (k_NoProgram : ExcK K C) (D_fun : Def P w K mg base 3 "is_function" ["thing"] (spPred funV))
    (D_is_tuple_of : Def P w K mg base 4 "is_tuple_of" ["thing", "most", "is_one"] (spTupOf P w K mg base 3)) (D_names_of : Def P w K mg base 1 "names_of" ["things"] spNamesOf) (D_unlike : Def P w K mg base 1 "are_unlike" ["names"] spUnlike) (D_own : Def P w K mg base 1 "own_names" ["function"] spOwn)
    (S : Src K mg "check_functions" (top 43) ["functions", "taken"]) : DefX P w K mg base 5 "check_functions" ["functions", "taken"] (spFuns C) := by
  obtain ⟨tm, v_MOST_FUNCTIONS⟩ := T.cfuns
  obtain ⟨ff, fdf, Ff, hff, hkf, hbf⟩ := D_fun.ex
  refine S.okX sc_funs (fun vs H Q E h => ?_) (fun f0 cdv A outer s H vs Q E hr h => ?_)
  · obtain ⟨v, tk, ts, p, n, rfl, _⟩ := h; rfl
  obtain ⟨v, tk, ts, p, n, rfl, htk, hts, hv, q1, q2⟩ := h
  refine ⟨_, (pss_cons (ps_if (pt_not (pt_val (pe_def (D_is_tuple_of) hr rfl (pac (pv 0) (pac (pe_glob (v := .int (4)) rfl v_MOST_FUNCTIONS ⟨_, rfl⟩) (pac (pe_glob (v := .ref ff) rfl hff rfl) pa_nil))))))
      (pss_one (ps_raise frm_cx out_cx rfl rfl m_NoProgram k_NoProgram pe_str)) pss_nil)
      (pss_cons (ps_if (pt_not (pt_val (pe_def (D_unlike.mono (by decide)) hr rfl (pac (pe_def (D_names_of.mono (by decide)) hr rfl (pac (pv 0) pa_nil)) pa_nil))))
      (pss_one (ps_raise frm_cx out_cx rfl rfl m_NoProgram k_NoProgram pe_str)) pss_nil)
      (pss_one (ps_for PassesOwn.leaving rfl (pi_tup (pv 0)) (pg_name (i := 2) sc_funs.nd rfl (Or.inl rfl))
      (pss_one (ps_if (pt_not (pt_val (pe_def (D_unlike.mono (by decide)) hr rfl (pac (pe_op op_cat (pv 1) (pe_def (D_own.mono (by decide)) hr rfl (pac (pv 2) pa_nil))) pa_nil))))
      (pss_one (ps_raise frm_cx out_cx rfl rfl m_NoProgram k_NoProgram pe_str)) pss_nil)))))), ?_⟩
  have l3 : (100000 : Nat) < sizeLine := by rw [sizeLine_eq]; decide
  refine ⟨_, rfl, v, 4, ff, fdf, _, funV, p, n, rfl, hv, Ff, hkf, hbf, stb_fun, fun H1 s1 => ⟨_, rfl, ?_⟩⟩
  unfold funsOk at q1 q2
  cases c1 : tupOf H 4 funV v with
  | false =>
    rw [c1] at q2
    exact ifT rfl (q2 rfl H1 s1)
  | true =>
  rw [c1, Bool.true_and] at q1 q2
  refine ifF rfl ?_
  obtain ⟨a, xs, rfl, ha, tv, lx, allf⟩ := tupOf_parts c1
  rw [tv] at q1 q2
  obtain ⟨m, hx⟩ := hv.parts ha
  refine ⟨_, rfl, a, xs, rfl, s1 _ _ ha, by omega, fun x hm => ?_, fun u1 H2 hu1 s2 h2 => ?_⟩
  · obtain ⟨b, y, ys, e, hb, _⟩ := nmd_fun (List.all_eq_true.mp allf x hm)
    exact ⟨b, _, _, e, s1 _ _ hb⟩
  rw [fst_same s1 hx, fst_str nmd_fun allf] at h2
  have ln : (nmsOf H xs).length = xs.length := List.length_map _
  refine ⟨u1, nmsOf H xs, rfl, h2, by omega, fun H3 s3 => ⟨_, rfl, ?_⟩⟩
  have s13 := s1.trans (s2.trans s3)
  cases c2 : decide (nmsOf H xs).Nodup with
  | false =>
    rw [c2] at q2
    exact ifT rfl (q2 rfl H3 s13)
  | true =>
  rw [c2, Bool.true_and] at q1 q2
  refine ifF rfl ?_
  refine ⟨_, rfl, a, rfl, ⟨_, SqT.of (s13 _ _ ha)⟩, for_tup (xs := xs) (fun i σ H' => ∃ x2, σ = [some (.ref a), some (.ref tk), x2] ∧ Same H H' ∧ (xs.take i).all (fun f => decide (ts ++ ownV H f).Nodup) = true) ⟨_, rfl, s13, rfl⟩ ?_ ?_ ?_⟩
  · rintro i σ H' _ ⟨x2, rfl, s4, _⟩
    exact SqT.of (s4 _ _ ha)
  · rintro i x σ H' hxi ⟨x2, rfl, s4, hall⟩
    have hxm := List.mem_of_getElem? hxi
    obtain ⟨b, pa, oa, ra, y, ps, os, rs, rfl, hb, _, hp, ho, hra, lp, lo, _, _⟩ := fun_parts (List.all_eq_true.mp allf x hxm)
    have eo := ownV_eq hb hp ho
    refine ⟨_, rfl, _, rfl, b, pa, oa, _, _, _, _, rfl, s4 _ _ hb, s4 _ _ hp, s4 _ _ ho, by rw [List.length_map]; omega, by rw [List.length_map]; omega, fun u H5 hu s5 h5 => ?_⟩
    have s45 := s4.trans s5
    refine ⟨tk, u, _, _, rfl, rfl, s45 _ _ htk, h5, by rw [List.length_append, List.length_map, List.length_map, List.length_map]; omega, fun u3 hu3 => ?_⟩
    have s6 := same_of_new hu3 (.lst (ts.map V.str ++ (ps.map V.str ++ os.map V.str)))
    refine ⟨u3, ts ++ (ps ++ os), rfl, by rw [List.map_append, List.map_append]; exact upd_same, by rw [List.length_append, List.length_append]; omega, fun H7 s7 => ⟨_, rfl, ?_⟩⟩
    have s47 := s45.trans (s6.trans s7)
    cases c3 : decide (ts ++ (ps ++ os)).Nodup with
    | false =>
      refine ifT rfl (q2 ?_ H7 s47)
      exact all_not hxm (by rw [eo]; exact c3)
    | true => exact ifF rfl ⟨_, rfl, s47, all_take hxi hall (by rw [eo]; exact c3)⟩
  · rintro σ H' ⟨x2, rfl, s4, hall⟩
    rw [List.take_length] at hall
    exact q1 hall H' s4
end
end K05

set_option Elab.async false
set_option linter.all false
set_option maxRecDepth 100000
set_option maxHeartbeats 4000000
namespace K05
open PySem L2
seal L2.PE L2.PS L2.PSs L2.PT L2.PW L2.PA L2.PG L2.PGs L2.PI L2.PO L2.PIfs L2.PC L2.OpR L2.CallR L2.IxR L2.SlR L2.PSet L2.UnR
/-! ### how many numbers a program has -/
def frows (H : Hp) (v : V) : List V := match tupAt H v with
  | some [_, _, _, r] => rowsAt H r
  | _ => []
theorem frows_eq {H : Hp} {a r : Addr} {x y z : V} {rs : List V} (h : H a = some (.tup [x, y, z, .ref r])) (hr : H r = some (.tup rs)) : frows H (.ref a) = rs := by
  unfold frows
  rw [tupAt_tup h]
  exact rowsAt_tup hr
def cntF (H : Hp) (fs : List V) : Nat := (fs.map fun f => 1 + cnt H 5 (frows H f)).sum
theorem cntF_app (H : Hp) (a b : List V) : cntF H (a ++ b) = cntF H a + cntF H b := by
  show ((a ++ b).map _).sum = (a.map _).sum + (b.map _).sum
  rw [List.map_append, List.sum_append]
/-- a function whose rows are such -/
def FnIs (H : Hp) (v : V) : Prop := ∃ (a r : Addr) (x y z : V) (rs : List V), v = .ref a ∧ H a = some (.tup [x, y, z, .ref r]) ∧ H r = some (.tup rs) ∧ ∀ u ∈ rs, RwOk H 5 u
section
variable {P : Program} {w : World} {K : PySem.W.Frag} {mg : Str → Option Value} {base : Heap}
theorem sc_rows : FnScope ["program", "triples", "function", "number"] ["program"] (defScope (top 20)) := ⟨rfl, rfl, rfl, by decide +kernel, rfl, by decide +kernel, by decide +kernel⟩
def spRowsOf : Sp := fun vs H Q _ => ∃ (a fa ra : Addr) (x0 x1 : V) (fs rows : List V), vs = [.ref a] ∧ H a = some (.tup [x0, x1, .ref fa, .ref ra]) ∧ H fa = some (.tup fs) ∧ H ra = some (.tup rows) ∧ (∀ f ∈ fs, FnIs H f) ∧ (∀ u ∈ rows, RwOk H 5 u) ∧ cntF H fs + cnt H 5 rows ≤ 1000000 ∧
  ∀ H' t us, Same H H' → H t = none → H' t = some (.lst us) → us.length = cntF H fs + cnt H 5 rows → Q (.ref t) H'
theorem d_rows_of (T : Txt w K mg) (D_add : Def P w K mg base 7 "add_rows" ["triples", "rows", "around"] (spAdd 5)) (S : Src K mg "rows_of" (top 20) ["program"]) : Def P w K mg base 8 "rows_of" ["program"] spRowsOf := by
  obtain ⟨tm, v_NO_ROW⟩ := T.around
  refine S.ok sc_rows (fun vs H Q E h => ?_) (fun f cdv A outer s H vs Q E hr h => ?_)
  · obtain ⟨a, fa, ra, x0, x1, fs, rows, rfl, _⟩ := h; rfl
  obtain ⟨a, fa, ra, x0, x1, fs, rows, rfl, ha, hfa, hra, hF, hR, hB, q⟩ := h
  refine ⟨_, (pss_cons (ps_set (i := 1) sc_rows.nd rfl (Or.inl rfl) (pe_lst pa_nil))
      (pss_cons (ps_for PassesOwn.never rfl (pi_tup (pe_ix ix_tup (pv 0) pe_int (fun _ _ => rfl))) (pg_name (i := 2) sc_rows.nd rfl (Or.inl rfl))
      (pss_cons (ps_set (i := 3) sc_rows.nd rfl (Or.inl rfl) (pe_cB call_len_seq rfl T.z_len bt_len (pac (pv 1) pa_nil)))
      (pss_cons (ps_expr (pe_bm PySem.F.plainAttrs_list PySem.F.slot_list_append PySem.F.type_list_append mt_append (pv 1) (pac (pe_tup (pac (pv 3) (pac (pe_tup (pac pe_str (pac (pe_ix ix_tup (pv 2) pe_int (fun _ _ => rfl)) pa_nil))) (pac (pe_glob (v := .int (-1)) rfl v_NO_ROW ⟨_, rfl⟩) pa_nil)))) pa_nil)))
      (pss_one (ps_expr (pe_def (D_add) hr rfl (pac (pv 1) (pac (pe_ix ix_tup (pv 2) pe_int (fun _ _ => rfl)) (pac (pv 3) pa_nil)))))))))
      (pss_cons (ps_expr (pe_def (D_add) hr rfl (pac (pv 1) (pac (pe_ix ix_tup (pv 0) pe_int (fun _ _ => rfl)) (pac (pe_glob (v := .int (-1)) rfl v_NO_ROW ⟨_, rfl⟩) pa_nil)))))
      (pss_one (ps_ret (pv 1)))))), ?_⟩
  have l3 : (1000100 : Nat) < sizeLine := by decide
  refine ⟨(by show 0 ≤ sizeLine; omega), fun t ht => ?_⟩
  have st := same_of_new ht (.lst [])
  refine ⟨_, rfl, a, _, 2, _, rfl, rfl, SqT.of (st _ _ ha), atI_nat (j := 2) rfl, fa, rfl, ⟨_, SqT.of (st _ _ hfa)⟩, ?_⟩
  have split : ∀ i, cntF H fs = cntF H (fs.take i) + cntF H (fs.drop i) := fun i => by rw [← cntF_app, List.take_append_drop]
  refine for_tup (xs := fs) (fun i σ H' => ∃ (us : List V) (x2 x3 : Option V), σ = [some (.ref a), some (.ref t), x2, x3] ∧ Same H H' ∧ H' t = some (.lst us) ∧ us.length = cntF H (fs.take i)) ?_ ?_ ?_ ?_
  · exact ⟨[], _, _, rfl, st, upd_same, by rw [List.take_zero]; rfl⟩
  · rintro i σ H' hi ⟨us, x2, x3, rfl, hs, _⟩
    exact SqT.of (hs _ _ hfa)
  · rintro i x σ H' hxi ⟨us, x2, x3, rfl, hs, hT, hTr⟩
    obtain ⟨b, r, nm, y, z, rs, rfl, hb, hr0, hrs⟩ := hF x (List.mem_of_getElem? hxi)
    have hfr := frows_eq hb hr0
    have htake : cntF H (fs.take (i + 1)) = cntF H (fs.take i) + (1 + cnt H 5 rs) := by
      rw [List.take_add_one, hxi, cntF_app]
      show _ + cntF H [V.ref b] = _
      show _ + ([V.ref b].map fun f => 1 + cnt H 5 (frows H f)).sum = _
      rw [List.map_cons, List.map_nil, List.sum_cons, List.sum_nil, hfr]
      omega
    have hsp := split (i + 1)
    refine ⟨_, rfl, t, _, rfl, .inl (SqL.of hT), ?_⟩
    refine ⟨_, rfl, .inl ⟨rfl, _, SqL.of hT⟩, _, rfl, _, rfl, b, _, 0, _, rfl, rfl, SqT.of (hs _ _ hb), atI_nat (j := 0) rfl, (by show 2 ≤ sizeLine; omega), fun u1 hu1 => ?_⟩
    have su1 := same_of_new hu1 (.tup [.str "def", nm])
    refine ⟨(by show 3 ≤ sizeLine; omega), fun u hu => ?_⟩
    have su := su1.trans (same_of_new hu (.tup [.int (us.length : Int), .ref u1, .int (-1)]))
    refine ⟨t, _, _, rfl, rfl, su _ _ hT, (by omega), ?_⟩
    have hT2 : upd (upd (upd H' u1 (.tup [.str "def", nm])) u (.tup [.int (us.length : Int), .ref u1, .int (-1)])) t (.lst (us ++ [.ref u])) t = some (.lst (us ++ [.ref u])) := upd_same
    have b2 : But t H' (upd (upd (upd H' u1 (.tup [.str "def", nm])) u (.tup [.int (us.length : Int), .ref u1, .int (-1)])) t (.lst (us ++ [.ref u]))) := fun c o hc h => by rw [upd_ne hc]; exact su _ _ h
    generalize upd (upd (upd H' u1 (.tup [.str "def", nm])) u (.tup [.int (us.length : Int), .ref u1, .int (-1)])) t (.lst (us ++ [.ref u])) = H2 at *
    have s02 : Same H H2 := fun c o h => b2 c o (ne_of_none h ht) (hs _ _ h)
    have tk2 := TK.of s02
    have ec : cnt H2 5 rs = cnt H 5 rs := cnt_tk tk2 hrs
    refine ⟨_, rfl, _, rfl, b, _, 3, _, rfl, rfl, SqT.of (s02 _ _ hb), atI_nat (j := 3) rfl, _, rfl, ?_⟩
    refine ⟨t, r, (us.length : Int), us ++ [.ref u], rs, rfl, hT2, s02 _ _ hr0, fun y hy => (hrs y hy).tk tk2, ?_, fun H4 new2 b4 h4 t4 => ?_⟩
    · rw [List.length_append, ec, List.length_singleton]
      omega
    · refine ⟨us ++ (.ref u :: new2), _, _, rfl, fun c o h => b4 c o (ne_of_none h ht) (s02 _ _ h), by rw [h4]; simp, ?_⟩
      rw [List.length_append, List.length_cons, t4, ec, hTr, htake]
      omega
  · rintro σ H' ⟨us, x2, x3, rfl, hs, hT, hTr⟩
    rw [List.take_length] at hTr
    have tkH := TK.of hs
    have ec : cnt H' 5 rows = cnt H 5 rows := cnt_tk tkH hR
    refine ⟨_, rfl, _, rfl, a, _, 3, _, rfl, rfl, SqT.of (hs _ _ ha), atI_nat (j := 3) rfl, ?_⟩
    refine ⟨t, ra, -1, us, rows, rfl, hT, hs _ _ hra, fun y hy => (hR y hy).tk tkH, by rw [ec]; omega, fun H4 new2 b4 h4 t4 => ?_⟩
    refine ⟨_, rfl, q H4 t (us ++ new2) (fun c o h => b4 c o (ne_of_none h ht) (hs _ _ h)) ht h4 ?_⟩
    rw [List.length_append, t4, ec, hTr]
end
end K05

set_option Elab.async false
set_option linter.all false
set_option maxRecDepth 100000
set_option maxHeartbeats 4000000
namespace L2
open PySem PySem.Spec PyProof.Rows
/-- len, within a comprehension -/
def rLen (K : PySem.W.Frag) : List V → Hp → VK → Prop := fun xs H Q => ∃ p ys, xs = [V.ref p] ∧ (SqL K H p ys ∨ SqT K H p ys) ∧ Q (V.int ys.length) H
end L2

set_option Elab.async false
set_option linter.all false
set_option maxRecDepth 100000
set_option maxHeartbeats 4000000
namespace K05
open PySem L2
seal L2.PE L2.PS L2.PSs L2.PT L2.PW L2.PA L2.PG L2.PGs L2.PI L2.PO L2.PIfs L2.PC L2.OpR L2.CallR L2.IxR L2.SlR L2.PSet L2.UnR
/-! ### how many params each function has -/
def parsV (H : Hp) (v : V) : List V := match tupAt H v with
  | some [_, p, _, _] => thingsV H p
  | _ => []
theorem parsV_eq {H : Hp} {a pa : Addr} {x y z : V} {ps : List V} (h : H a = some (.tup [x, .ref pa, y, z])) (hp : H pa = some (.tup ps)) : parsV H (.ref a) = ps := by
  unfold parsV thingsV
  rw [tupAt_tup h]
  dsimp only
  rw [tupAt_tup hp]
  rfl
def pcOf (H : Hp) (fs : List V) : List (Key × V) := fs.map fun f => (Sum.inr (strV (fstV H f)), V.int ((parsV H f).length : Int))
def AllInt (kvs : List (Key × V)) : Prop := ∀ kv ∈ kvs, ∃ n : Int, kv.2 = .int n
theorem AllInt.put {kvs : List (Key × V)} {k : Key} {v : V} (h : AllInt kvs) (hv : ∃ n : Int, v = .int n) : AllInt (putK kvs k v) := by
  intro kv hkv
  unfold putK at hkv
  split at hkv
  · obtain ⟨kv', h1, rfl⟩ := List.mem_map.mp hkv
    split
    · exact hv
    · exact h _ h1
  · rcases List.mem_append.mp hkv with h1 | h1
    · exact h _ h1
    · simp at h1
      subst h1
      exact hv
theorem AllInt.merge : ∀ {more kvs : List (Key × V)}, AllInt more → AllInt kvs → AllInt (mergeK kvs more)
  | [], _, _, h => h
  | p :: r, kvs, hm, h => AllInt.merge (more := r) (kvs := putK kvs p.1 p.2) (fun kv hkv => hm kv (List.mem_cons_of_mem _ hkv)) (h.put (hm p List.mem_cons_self))
theorem AllInt.val {kvs : List (Key × V)} (h : AllInt kvs) {k : Key} {u : V} (e : valV kvs k = some u) : ∃ n : Int, u = .int n := by
  unfold valV at e
  cases hf : kvs.find? (fun kv => decide (kv.1 = k)) with
  | none => rw [hf] at e; cases e
  | some kv =>
    rw [hf] at e
    have e' : kv.2 = u := by simpa using e
    rw [← e']
    exact h kv (List.mem_of_find?_eq_some hf)
theorem pc_int (H : Hp) (fs : List V) : AllInt (pcOf H fs) := by
  intro kv hkv
  obtain ⟨f, _, rfl⟩ := List.mem_map.mp hkv
  exact ⟨_, rfl⟩
/-! ### the rows of a program -/
def fourV (H : Hp) (v : V) : V := match tupAt H v with
  | some [_, _, _, r] => r
  | _ => .non
def kvsOf (H : Hp) (fs : List V) : Kvs := mergeK [] (pcOf H fs)
def fRows (H : Hp) (xb xl xf : List V) (f : V) : Bool := rowsB H (isRw H (nmsOf H xb ++ ownV H f) (nmsOf H xl) (kvsOf H xf) true 5) (fourV H f)
def rowsOk (H : Hp) (xb xl xf : List V) (r : V) : Bool := xf.all (fRows H xb xl xf) && rowsB H (isRw H (nmsOf H xb) (nmsOf H xl) (kvsOf H xf) false 5) r
/-- an instance just made -/
theorem same_made {H1 : Hp} {C x dx : Addr} {fs : List (Str × V)} (hx : H1 x = none) (hdx : H1 dx = none) (ne : dx ≠ x) : Same H1 (upd (upd H1 dx (.own x)) x (.ins C dx fs)) := fun b o h => by
  rw [upd_ne (ne_of_none h hx), upd_ne (ne_of_none h hdx)]
  exact h
section
variable {P : Program} {w : World} {K : PySem.W.Frag} {mg : Str → Option Value} {base : Heap} {CS : Addr}
theorem sc_crows : FnScope ["program", "boxes", "lists", "functions", "rows", "param_counts", "function", "scope"] ["program"] (defScope (top 44)) := ⟨rfl, rfl, rfl, by decide +kernel, rfl, by decide +kernel, by decide +kernel⟩
def spCRows (C : Addr) : Sp := fun vs H Q E => ∃ (a ba la fa : Addr) (r : V) (xb xl xf : List V) (p : Addr) (n : Nat), vs = [.ref a] ∧ H a = some (.tup [.ref ba, .ref la, .ref fa, r]) ∧ H ba = some (.tup xb) ∧ H la = some (.tup xl) ∧ H fa = some (.tup xf) ∧
  xb.length ≤ 6 ∧ xl.length ≤ 3 ∧ xf.length ≤ 4 ∧ xb.all (boxV H) = true ∧ xl.all (listV H) = true ∧ xf.all (funV H) = true ∧ (∀ x ∈ xb, Dt p H n x) ∧ (∀ x ∈ xl, Dt p H n x) ∧ (∀ x ∈ xf, Dt p H n x) ∧ Dt p H n r ∧
  (rowsOk H xb xl xf r = true → ∀ H', Same H H' → Q .non H') ∧ (rowsOk H xb xl xf r = false → ∀ H', Same H H' → E (.ref C) none H')
theorem d_crows {C : Addr} (T : Txt w K mg) (Z : SCl K mg CS) (m_NoRow : mg "NoRow" = some (.ref C)) (k_NoRow : ExcK K C) (D_init : DefI P w K mg base 25 "Scope" CS ["self", "boxes", "lists", "param_counts", "may_return"] (spInit CS)) (D_are_rows : Def P w K mg base 26 "are_rows" ["rows", "scope", "depth"] (spARows CS 5))
    (D_names_of : Def P w K mg base 1 "names_of" ["things"] spNamesOf) (D_own : Def P w K mg base 1 "own_names" ["function"] spOwn)
    (S : Src K mg "check_rows" (top 44) ["program"]) : DefX P w K mg base 27 "check_rows" ["program"] (spCRows C) := by
  refine S.okX sc_crows (fun vs H Q E h => ?_) (fun f0 cdv A outer s H vs Q E hr h => ?_)
  · obtain ⟨a, ba, la, fa, r, xb, xl, xf, p, n, rfl, _⟩ := h; rfl
  obtain ⟨a, ba, la, fa, r, xb, xl, xf, p, n, rfl, ha, hba, hla, hfa, lb, ll, lf, allb, alll, allf, hxb, hxl, hxf, hr', q1, q2⟩ := h
  refine ⟨_, (pss_cons (ps_asg (pv 0) (pg_tup rfl (pgs_cons (pg_name (i := 1) sc_crows.nd rfl (Or.inl rfl)) (pgs_cons (pg_name (i := 2) sc_crows.nd rfl (Or.inl rfl)) (pgs_cons (pg_name (i := 3) sc_crows.nd rfl (Or.inl rfl)) (pgs_cons (pg_name (i := 4) sc_crows.nd rfl (Or.inl rfl)) pgs_nil))))))
      (pss_cons (ps_set (i := 5) sc_crows.nd rfl (Or.inl rfl) (pe_cT (call_dict_pairs rfl) rfl T.z_dict bt_dict (pac (pe_comp (N' := ["function"]) (comp_scope (defScope (top 44)) (by rfl) (by decide +kernel) (by decide +kernel) (by decide +kernel) (by decide +kernel) (by decide +kernel) (by decide +kernel)) rfl (capt 1 [] (by rfl) (by rfl) (by decide +kernel)) (pi_tup (pv 3)) (fun _ _ _ => pg_name (i := 0) (show (["function"] : List Str).Nodup by decide +kernel) rfl (Or.inl rfl) (Or.inr rfl)) (fun _ _ _ => pifs_nil) (fun _ _ _ => (pe_tup (pac (pe_ix (show IxR _ (rIxT K) from ix_tup) (pv 0) pe_int (fun _ _ => rfl)) (pac (pe_cB (show CallR _ _ (rLen K) from call_len_seq) rfl T.z_len bt_len (pac (pe_ix (show IxR _ (rIxT K) from ix_tup) (pv 0) pe_int (fun _ _ => rfl)) pa_nil)) pa_nil))))) pa_nil)))
      (pss_cons (ps_for PassesOwn.leaving rfl (pi_tup (pv 3)) (pg_name (i := 6) sc_crows.nd rfl (Or.inl rfl))
      (pss_cons (ps_set (i := 7) sc_crows.nd rfl (Or.inl rfl) (pe_makeD (D_init) hr rfl (pac (pe_op op_cat (pe_def (D_names_of.mono (by decide)) hr rfl (pac (pv 1) pa_nil)) (pe_def (D_own.mono (by decide)) hr rfl (pac (pv 6) pa_nil))) (pac (pe_def (D_names_of.mono (by decide)) hr rfl (pac (pv 2) pa_nil)) (pac (pv 5) (pac pe_bl pa_nil))))))
      (pss_one (ps_if (pt_not (pt_val (pe_def (D_are_rows) hr rfl (pac (pe_ix ix_tup (pv 6) pe_int (fun _ _ => rfl)) (pac (pv 7) (pac pe_int pa_nil))))))
      (pss_one (ps_raise frm_cx out_cx rfl rfl m_NoRow k_NoRow pe_str)) pss_nil))))
      (pss_one (ps_if (pt_not (pt_val (pe_def (D_are_rows) hr rfl (pac (pv 4) (pac (pe_makeD (D_init) hr rfl (pac (pe_def (D_names_of.mono (by decide)) hr rfl (pac (pv 1) pa_nil)) (pac (pe_def (D_names_of.mono (by decide)) hr rfl (pac (pv 2) pa_nil)) (pac (pv 5) (pac pe_bl pa_nil))))) (pac pe_int pa_nil))))))
      (pss_one (ps_raise frm_cx out_cx rfl rfl m_NoRow k_NoRow pe_str)) pss_nil))))), ?_⟩
  have l3 : (100000 : Nat) < sizeLine := by rw [sizeLine_eq]; decide
  refine ⟨_, rfl, a, _, rfl, SqT.of ha, rfl, _, _, rfl, _, _, rfl, _, _, rfl, _, _, rfl, rfl, ?_⟩
  refine ⟨_, rfl, fa, rfl, ⟨_, SqT.of hfa⟩, fun acc hacc => ?_⟩
  refine ⟨fun i m σ2 ys H2 => m = xf.length - i ∧ i ≤ xf.length ∧ (∃ x0, σ2 = [x0]) ∧ Paired (fun t (kv : Key × V) => ∃ b, t = V.ref b ∧ H2 b = some (.tup [kV kv.1, kv.2])) ys (pcOf H (xf.take i)) ∧ H2 acc = some (.lst ys) ∧ Same H H2,
    ⟨_, rfl, Nat.zero_le _, ⟨_, rfl⟩, .nil, upd_same, same_of_new hacc _⟩, ?_⟩
  rintro i _ σ2 ys H2 ⟨rfl, hi, ⟨x0, rfl⟩, hP, hac, sm⟩
  refine ⟨hac, ?_⟩
  by_cases hlt : i < xf.length
  · refine .inr ⟨⟨xf, _, SqT.of (sm _ _ hfa), List.getElem?_eq_getElem hlt⟩, ?_, ?_⟩
    · have := hP.length
      unfold pcOf at this
      rw [List.length_map, List.length_take] at this
      omega
    rintro v H3 ⟨rfl, hy⟩
    have hxi := hy xf (SqT.of (sm _ _ hfa))
    have hxm := List.mem_of_getElem? hxi
    obtain ⟨b, pa, oa, ra, y, ps, os, rs, rfl, hb, _, hp, ho, hra, lp, lo, _, _⟩ := fun_parts (List.all_eq_true.mp allf v hxm)
    refine ⟨_, rfl, b, _, 0, _, rfl, rfl, SqT.of (sm _ _ hb), atI_nat (j := 0) rfl, ?_⟩
    refine ⟨_, rfl, b, _, 1, _, rfl, rfl, SqT.of (sm _ _ hb), atI_nat (j := 1) rfl, pa, _, rfl, .inr (SqT.of (sm _ _ hp)), (by show 2 ≤ sizeLine; omega), fun u hu => ?_⟩
    have su := same_of_new hu (.tup [.str y, .int (((ps.map V.str).length : Nat) : Int)])
    have eP : pcOf H (xf.take (i + 1)) = pcOf H (xf.take i) ++ [(Sum.inr y, V.int (((ps.map V.str).length : Nat) : Int))] := by
      unfold pcOf
      rw [List.take_add_one, hxi, List.map_append]
      show _ ++ [(Sum.inr (strV (fstV H (.ref b))), V.int ((parsV H (.ref b)).length : Int))] = _
      rw [parsV_eq hb hp]
      have e : fstV H (.ref b) = .str y := by unfold fstV; rw [tupAt_tup hb]
      rw [e]
      rfl
    have hacu := su _ _ hac
    have keep : ∀ c o, c ≠ acc → (upd H3 u (.tup [.str y, .int (((ps.map V.str).length : Nat) : Int)])) c = some o → upd (upd H3 u (.tup [.str y, .int (((ps.map V.str).length : Nat) : Int)])) acc (.lst (ys ++ [V.ref u])) c = some o := fun c o hc h => by rw [upd_ne hc]; exact h
    refine ⟨hacu, _, (by omega : xf.length - (i + 1) < xf.length - i), rfl, hlt, ⟨_, rfl⟩, ?_, upd_same, fun c o hc => ?_⟩
    · rw [eP]
      refine paired_app (Paired.imp' (fun t kv hk => ?_) hP) (.cons ⟨u, rfl, keep _ _ (fun z => by rw [z, hac] at hu; cases hu) upd_same⟩ .nil)
      obtain ⟨c, e, hc⟩ := hk
      exact ⟨c, e, keep _ _ (ne_of hc hac (by intro z; cases z)) (su _ _ hc)⟩
    · rw [upd_ne (ne_of_none hc hacc)]
      exact su _ _ (sm _ _ hc)
  obtain rfl : i = xf.length := by omega
  rw [List.take_length] at hP
  refine .inl ⟨⟨xf, SqT.of (sm _ _ hfa), Nat.le_refl _⟩, ?_⟩
  refine ⟨acc, ys, pcOf H xf, rfl, SqL.of hac, by unfold pcOf; rw [List.length_map]; omega, hP, fun pd hpd => ?_⟩
  have sd := sm.trans (same_of_new hpd (.dK (mergeK [] (pcOf H xf))))
  have hpd2 : upd H2 pd (.dK (mergeK [] (pcOf H xf))) pd = some (.dK (kvsOf H xf)) := upd_same
  generalize upd H2 pd (.dK (mergeK [] (pcOf H xf))) = H3 at sd hpd2
  have hkk : ∀ f u, valV (kvsOf H xf) (Sum.inr f) = some u → ∃ n : Int, u = .int n := fun f u e => ((pc_int H xf).merge (fun _ h => by simp at h)).val e
  have nb := nms_nm nmd_box allb
  have nl := nms_nm nmd_list alll
  have lnb : (nmsOf H xb).length = xb.length := List.length_map _
  have lnl : (nmsOf H xl).length = xl.length := List.length_map _
  unfold rowsOk at q1 q2
  refine ⟨_, rfl, fa, rfl, ⟨_, SqT.of (sd _ _ hfa)⟩, for_tup (xs := xf) (fun i σ H' => ∃ x6 x7, σ = [some (.ref a), some (.ref ba), some (.ref la), some (.ref fa), some r, some (.ref pd), x6, x7] ∧ Same H3 H' ∧ (xf.take i).all (fRows H xb xl xf) = true) ⟨_, _, rfl, Same.refl H3, rfl⟩ ?_ ?_ ?_⟩
  · rintro i σ H' _ ⟨x6, x7, rfl, s4, _⟩
    exact SqT.of (s4 _ _ (sd _ _ hfa))
  · rintro i v σ H4 hxi ⟨x6, x7, rfl, s4, hall⟩
    have s04 := sd.trans s4
    have hxm := List.mem_of_getElem? hxi
    obtain ⟨b, pa, oa, ra, y, ps, os, rs, rfl, hb, _, hp, ho, hra, lp, lo, np, no⟩ := fun_parts (List.all_eq_true.mp allf v hxm)
    have eo := ownV_eq hb hp ho
    have e4 : fourV H (.ref b) = .ref ra := by unfold fourV; rw [tupAt_tup hb]
    refine ⟨_, rfl, ba, xb, rfl, s04 _ _ hba, by omega, fun x hx => ?_, fun u1 H5 hu1 s5 h5 => ?_⟩
    · obtain ⟨c, y, ys, e, hc, _⟩ := nmd_box (List.all_eq_true.mp allb x hx)
      exact ⟨c, _, _, e, s04 _ _ hc⟩
    rw [fst_same s04 hxb, fst_str nmd_box allb] at h5
    have s05 := s04.trans s5
    refine ⟨_, rfl, b, pa, oa, _, _, _, _, rfl, s05 _ _ hb, s05 _ _ hp, s05 _ _ ho, by rw [List.length_map]; omega, by rw [List.length_map]; omega, fun u2 H6 hu2 s6 h6 => ?_⟩
    have s06 := s05.trans s6
    refine ⟨u1, u2, _, _, rfl, rfl, s6 _ _ h5, h6, by rw [List.length_append, List.length_map, List.length_map, List.length_map]; omega, fun u3 hu3 => ?_⟩
    have s7 := same_of_new hu3 (.lst ((nmsOf H xb).map V.str ++ (ps.map V.str ++ os.map V.str)))
    have h7 : upd H6 u3 (.lst ((nmsOf H xb).map V.str ++ (ps.map V.str ++ os.map V.str))) u3 = some (.lst ((nmsOf H xb ++ ownV H (.ref b)).map V.str)) := by rw [upd_same, eo, List.map_append, List.map_append]
    generalize upd H6 u3 (.lst ((nmsOf H xb).map V.str ++ (ps.map V.str ++ os.map V.str))) = H7 at s7 h7
    have s07 := s06.trans s7
    refine ⟨_, rfl, la, xl, rfl, s07 _ _ hla, by omega, fun x hx => ?_, fun u4 H8 hu4 s8 h8 => ?_⟩
    · obtain ⟨c, y, ys, e, hc, _⟩ := nmd_list (List.all_eq_true.mp alll x hx)
      exact ⟨c, _, _, e, s07 _ _ hc⟩
    rw [fst_same s07 hxl, fst_str nmd_list alll] at h8
    have s08 := s07.trans s8
    refine ⟨_, rfl, fun sc dx hsc hdx ne => ⟨sc, dx, u3, u4, pd, true, rfl, upd_same, rfl, ?_⟩⟩
    rw [upd_upd]
    have s9 := same_made (C := CS) (fs := sf u3 u4 pd true) hsc hdx ne
    have hS : ScAt CS (upd (upd H8 dx (.own sc)) sc (.ins CS dx (sf u3 u4 pd true))) sc (nmsOf H xb ++ ownV H (.ref b)) (nmsOf H xl) (kvsOf H xf) true :=
      ⟨⟨dx, u3, u4, pd, upd_same, s9 _ _ (s8 _ _ h7), s9 _ _ h8, s9 _ _ (s8 _ _ (s7 _ _ (s6 _ _ (s5 _ _ (s4 _ _ hpd2)))))⟩, fun x hx => by
        rcases List.mem_append.mp hx with h | h
        · exact nb x h
        · rw [eo] at h
          rcases List.mem_append.mp h with h | h
          · exact np x h
          · exact no x h, nl, hkk⟩
    generalize upd (upd H8 dx (.own sc)) sc (.ins CS dx (sf u3 u4 pd true)) = H9 at s9 hS
    have s09 := s08.trans s9
    obtain ⟨mb, hxp⟩ := (hxf _ hxm).parts hb
    have hraD := hxp (.ref ra) (by simp)
    refine ⟨_, rfl, b, _, 3, _, rfl, rfl, SqT.of (s09 _ _ hb), atI_nat (j := 3) rfl, _, rfl, .ref ra, sc, 1, p, mb, _, _, _, true, rfl, by decide, hraD.same s09, hS, fun H10 s10 => ⟨_, rfl, ?_⟩⟩
    have er : rowsB H9 (isRw H9 (nmsOf H xb ++ ownV H (.ref b)) (nmsOf H xl) (kvsOf H xf) true 5) (.ref ra) = fRows H xb xl xf (.ref b) := by
      unfold fRows
      rw [e4]
      exact rowsB_same s09 hraD fun m z hz => isRw_same s09 hz
    rw [er]
    cases c : fRows H xb xl xf (.ref b) with
    | false =>
      rw [all_not hxm c] at q2
      exact ifT rfl (q2 rfl H10 (s09.trans s10))
    | true => exact ifF rfl ⟨_, _, rfl, s4.trans (s5.trans (s6.trans (s7.trans (s8.trans (s9.trans s10))))), all_take hxi hall c⟩
  · rintro σ H4 ⟨x6, x7, rfl, s4, hall⟩
    rw [List.take_length] at hall
    rw [hall, Bool.true_and] at q1 q2
    have s04 := sd.trans s4
    refine ⟨_, rfl, _, rfl, ba, xb, rfl, s04 _ _ hba, by omega, fun x hx => ?_, fun u1 H5 hu1 s5 h5 => ?_⟩
    · obtain ⟨c, y, ys, e, hc, _⟩ := nmd_box (List.all_eq_true.mp allb x hx)
      exact ⟨c, _, _, e, s04 _ _ hc⟩
    rw [fst_same s04 hxb, fst_str nmd_box allb] at h5
    have s05 := s04.trans s5
    refine ⟨_, rfl, la, xl, rfl, s05 _ _ hla, by omega, fun x hx => ?_, fun u4 H8 hu4 s8 h8 => ?_⟩
    · obtain ⟨c, y, ys, e, hc, _⟩ := nmd_list (List.all_eq_true.mp alll x hx)
      exact ⟨c, _, _, e, s05 _ _ hc⟩
    rw [fst_same s05 hxl, fst_str nmd_list alll] at h8
    have s08 := s05.trans s8
    refine ⟨_, rfl, fun sc dx hsc hdx ne => ⟨sc, dx, u1, u4, pd, false, rfl, upd_same, rfl, ?_⟩⟩
    rw [upd_upd]
    have s9 := same_made (C := CS) (fs := sf u1 u4 pd false) hsc hdx ne
    have hS : ScAt CS (upd (upd H8 dx (.own sc)) sc (.ins CS dx (sf u1 u4 pd false))) sc (nmsOf H xb) (nmsOf H xl) (kvsOf H xf) false :=
      ⟨⟨dx, u1, u4, pd, upd_same, s9 _ _ (s8 _ _ h5), s9 _ _ h8, s9 _ _ (s8 _ _ (s5 _ _ (s4 _ _ hpd2)))⟩, nb, nl, hkk⟩
    generalize upd (upd H8 dx (.own sc)) sc (.ins CS dx (sf u1 u4 pd false)) = H9 at s9 hS
    have s09 := s08.trans s9
    refine ⟨r, sc, 1, p, n, _, _, _, false, rfl, by decide, hr'.same s09, hS, fun H10 s10 => ⟨_, rfl, ?_⟩⟩
    have er : rowsB H9 (isRw H9 (nmsOf H xb) (nmsOf H xl) (kvsOf H xf) false 5) r = rowsB H (isRw H (nmsOf H xb) (nmsOf H xl) (kvsOf H xf) false 5) r := rowsB_same s09 hr' fun m z hz => isRw_same s09 hz
    rw [er]
    cases c : rowsB H (isRw H (nmsOf H xb) (nmsOf H xl) (kvsOf H xf) false 5) r with
    | false => exact ifT rfl (q2 c H10 (s09.trans s10))
    | true => exact ifF rfl (q1 c H10 (s09.trans s10))
end
end K05

set_option Elab.async false
set_option linter.all false
set_option maxRecDepth 100000
set_option maxHeartbeats 4000000
namespace K05
open PySem L2
seal L2.PE L2.PS L2.PSs L2.PT L2.PW L2.PA L2.PG L2.PGs L2.PI L2.PO L2.PIfs L2.PC L2.OpR L2.CallR L2.IxR L2.SlR L2.PSet L2.UnR
/-! ### what program_of says: 0 the program, 1 no program, 2 no row, 3 too long -/
def total (H : Hp) (f r : V) : Nat := cntF H (thingsV H f) + cnt H 5 (thingsV H r)
def verdict (H : Hp) (b l f r : V) : Nat :=
  if varsOk H b l = false then 1 else if funsOk H (nmsOf H (thingsV H b) ++ nmsOf H (thingsV H l)) f = false then 1 else if tupAt H r = none then 1 else
  if rowsOk H (thingsV H b) (thingsV H l) (thingsV H f) r = false then 2 else if 60 < total H f r then 3 else 0
theorem cntF_tk {H H' : Hp} (t : TK H H') : ∀ {fs : List V}, (∀ f ∈ fs, FnIs H f) → cntF H' fs = cntF H fs
  | [], _ => rfl
  | f :: r, h => by
    obtain ⟨a, ra, x, y, z, rs, rfl, ha, hra, hrs⟩ := h f List.mem_cons_self
    show ((V.ref a :: r).map fun f => 1 + cnt H' 5 (frows H' f)).sum = ((V.ref a :: r).map fun f => 1 + cnt H 5 (frows H f)).sum
    rw [List.map_cons, List.map_cons, List.sum_cons, List.sum_cons, frows_eq ha hra, frows_eq (t _ _ ha) (t _ _ hra), cnt_tk t hrs]
    have := cntF_tk t (fs := r) fun y hy => h y (List.mem_cons_of_mem _ hy)
    unfold cntF at this
    rw [this]
theorem FnIs.tk {H H' : Hp} (t : TK H H') {v : V} (h : FnIs H v) : FnIs H' v := by
  obtain ⟨a, ra, x, y, z, rs, rfl, ha, hra, hrs⟩ := h
  exact ⟨a, ra, x, y, z, rs, rfl, t _ _ ha, t _ _ hra, fun u hu => (hrs u hu).tk t⟩
theorem rowsOk_same {p : Addr} {H H' : Hp} {n : Nat} {xb xl xf : List V} {r : V} (s : Same H H') (hxb : ∀ x ∈ xb, Dt p H n x) (hxl : ∀ x ∈ xl, Dt p H n x) (hxf : ∀ x ∈ xf, Dt p H n x) (allf : xf.all (funV H) = true) (hr : Dt p H n r) :
    rowsOk H' xb xl xf r = rowsOk H xb xl xf r := by
  have nms : ∀ {xs : List V}, (∀ x ∈ xs, Dt p H n x) → nmsOf H' xs = nmsOf H xs := fun {xs} hx => List.map_congr_left fun x hm => by unfold fstV; rw [tupAt_same s (hx x hm)]
  have hpc : pcOf H' xf = pcOf H xf := List.map_congr_left fun f hf => by
    obtain ⟨b, pa, oa, ra, y, ps, os, rs, rfl, hb, _, hp, ho, hra, _⟩ := fun_parts (List.all_eq_true.mp allf f hf)
    have e1 : fstV H (.ref b) = .str y := by unfold fstV; rw [tupAt_tup hb]
    have e2 : fstV H' (.ref b) = .str y := by unfold fstV; rw [tupAt_tup (s _ _ hb)]
    rw [e1, e2, parsV_eq hb hp, parsV_eq (s _ _ hb) (s _ _ hp)]
  have hk : kvsOf H' xf = kvsOf H xf := by unfold kvsOf; rw [hpc]
  unfold rowsOk
  rw [nms hxb, nms hxl, hk]
  rw [rowsB_same s hr fun m z hz => isRw_same s hz]
  congr 1
  refine all_congr fun f hf => ?_
  obtain ⟨b, pa, oa, ra, y, ps, os, rs, rfl, hb, _, hp, ho, hra, _⟩ := fun_parts (List.all_eq_true.mp allf f hf)
  unfold fRows
  rw [nms hxb, nms hxl, hk, ownV_eq hb hp ho, ownV_eq (s _ _ hb) (s _ _ hp) (s _ _ ho)]
  have e1 : fourV H (.ref b) = .ref ra := by unfold fourV; rw [tupAt_tup hb]
  have e2 : fourV H' (.ref b) = .ref ra := by unfold fourV; rw [tupAt_tup (s _ _ hb)]
  rw [e1, e2]
  obtain ⟨m, hx⟩ := (hxf _ hf).parts hb
  exact rowsB_same s (hx _ (by simp)) fun m z hz => isRw_same s hz
theorem rowsB_rows {p : Addr} {H : Hp} {n : Nat} {a : Addr} {rs : List V} {bs ls : List Str} {kvs : Kvs} {r : Bool} (hD : Dt p H n (.ref a)) (ha : H a = some (.tup rs)) (h : rowsB H (isRw H bs ls kvs r 5) (.ref a) = true) : ∀ u ∈ rs, RwOk H 5 u := by
  obtain ⟨m, hx⟩ := hD.parts ha
  unfold rowsB at h
  rw [tupAt_tup ha] at h
  exact fun u hu => isRw_ok (hx u hu) (List.all_eq_true.mp h u hu)
section
variable {P : Program} {w : World} {K : PySem.W.Frag} {mg : Str → Option Value} {base : Heap} {CS : Addr}
theorem sc_prog : FnScope ["boxes", "lists", "functions", "rows", "program"] ["boxes", "lists", "functions", "rows"] (defScope (top 41)) := ⟨rfl, rfl, rfl, by decide +kernel, rfl, by decide +kernel, by decide +kernel⟩
def spProg (C1 C2 C3 : Addr) : Sp := fun vs H Q E => ∃ (b l f r : V) (p : Addr) (n : Nat), vs = [b, l, f, r] ∧ Dt p H n b ∧ Dt p H n l ∧ Dt p H n f ∧ Dt p H n r ∧ total H f r ≤ 1000000 ∧
  (verdict H b l f r = 0 → ∀ t H', Same H H' → H t = none → H' t = some (.tup [b, l, f, r]) → Q (.ref t) H') ∧ (verdict H b l f r = 1 → ∀ H', Same H H' → E (.ref C1) none H') ∧
  (verdict H b l f r = 2 → ∀ H', Same H H' → E (.ref C2) none H') ∧ (verdict H b l f r = 3 → ∀ H', Same H H' → E (.ref C3) none H')
theorem d_prog {C1 C2 C3 : Addr} (T : Txt w K mg) (m_NoProgram : mg "NoProgram" = some (.ref C1)) (k_NoProgram : ExcK K C1) (m_TooLong : mg "TooLong" = some (.ref C3)) (k_TooLong : ExcK K C3)
    (D_check_variables : DefX P w K mg base 6 "check_variables" ["boxes", "lists"] (spVars C1)) (D_check_functions : DefX P w K mg base 5 "check_functions" ["functions", "taken"] (spFuns C1)) (D_check_rows : DefX P w K mg base 27 "check_rows" ["program"] (spCRows C2))
    (D_names_of : Def P w K mg base 1 "names_of" ["things"] spNamesOf) (D_rows_of : Def P w K mg base 8 "rows_of" ["program"] spRowsOf)
    (S : Src K mg "program_of" (top 41) ["boxes", "lists", "functions", "rows"]) : DefX P w K mg base 28 "program_of" ["boxes", "lists", "functions", "rows"] (spProg C1 C2 C3) := by
  obtain ⟨tm, v_MOST_NUMBERS⟩ := T.cnums
  refine S.okX sc_prog (fun vs H Q E h => ?_) (fun f0 cdv A outer s H vs Q E hr h => ?_)
  · obtain ⟨b, l, f, r, p, n, rfl, _⟩ := h; rfl
  obtain ⟨b, l, f, r, p, n, rfl, hb, hl, hf, hr', hB, q0, q1, q2, q3⟩ := h
  refine ⟨_, (pss_cons (ps_expr (pe_defX (D_check_variables.mono (by decide)) hr (OutTo.pass frm_cx out_cx) rfl (pac (pv 0) (pac (pv 1) pa_nil))))
      (pss_cons (ps_expr (pe_defX (D_check_functions.mono (by decide)) hr (OutTo.pass frm_cx out_cx) rfl (pac (pv 2) (pac (pe_op op_cat (pe_def (D_names_of.mono (by decide)) hr rfl (pac (pv 0) pa_nil)) (pe_def (D_names_of.mono (by decide)) hr rfl (pac (pv 1) pa_nil))) pa_nil))))
      (pss_cons (ps_if (pt_not (pt_val (pe_cB call_isi rfl T.z_isinstance bt_isinstance (pac (pv 3) (pac (pe_ty T.z_tuple bt_tuple rfl) pa_nil)))))
      (pss_one (ps_raise frm_cx out_cx rfl rfl m_NoProgram k_NoProgram pe_str)) pss_nil)
      (pss_cons (ps_set (i := 4) sc_prog.nd rfl (Or.inl rfl) (pe_tup (pac (pv 0) (pac (pv 1) (pac (pv 2) (pac (pv 3) pa_nil))))))
      (pss_cons (ps_expr (pe_defX (D_check_rows) hr (OutTo.pass frm_cx out_cx) rfl (pac (pv 4) pa_nil)))
      (pss_cons (ps_if (pt_cmpR op_gt (pe_cB call_len_seq rfl T.z_len bt_len (pac (pe_def (D_rows_of.mono (by decide)) hr rfl (pac (pv 4) pa_nil)) pa_nil)) (pe_glob (v := .int (60)) rfl v_MOST_NUMBERS ⟨_, rfl⟩) (nomark _))
      (pss_one (ps_raise frm_cx out_cx rfl rfl m_TooLong k_TooLong pe_str)) pss_nil)
      (pss_one (ps_ret (pv 4))))))))), ?_⟩
  have l3 : (1000100 : Nat) < sizeLine := by rw [sizeLine_eq]; decide
  unfold verdict at q0 q1 q2 q3
  refine ⟨_, rfl, _, rfl, b, l, p, n, rfl, hb, hl, fun v1 H1 s1 => ?_, fun v1 H1 s1 => q1 (by rw [if_pos v1]) H1 s1⟩
  rw [if_neg (by rw [v1]; exact Bool.noConfusion)] at q0 q1 q2 q3
  have v1' := v1
  unfold varsOk at v1'
  rw [Bool.and_eq_true, Bool.and_eq_true] at v1'
  obtain ⟨ab, xb, rfl, hab, tb, lb, allb⟩ := tupOf_parts v1'.1
  obtain ⟨al, xl, rfl, hal, tl, ll, alll⟩ := tupOf_parts v1'.2.1
  rw [tb, tl] at q0 q1 q2 q3
  obtain ⟨mb, hxb⟩ := hb.parts hab
  obtain ⟨ml, hxl⟩ := hl.parts hal
  refine ⟨_, rfl, _, rfl, ab, xb, rfl, s1 _ _ hab, by omega, fun x hx => ?_, fun u1 H2 hu1 s2 h2 => ?_⟩
  · obtain ⟨c, y, ys, e, hc, _⟩ := nmd_box (List.all_eq_true.mp allb x hx)
    exact ⟨c, _, _, e, s1 _ _ hc⟩
  rw [fst_same s1 hxb, fst_str nmd_box allb] at h2
  have s02 := s1.trans s2
  refine ⟨_, rfl, al, xl, rfl, s02 _ _ hal, by omega, fun x hx => ?_, fun u2 H3 hu2 s3 h3 => ?_⟩
  · obtain ⟨c, y, ys, e, hc, _⟩ := nmd_list (List.all_eq_true.mp alll x hx)
    exact ⟨c, _, _, e, s02 _ _ hc⟩
  rw [fst_same s02 hxl, fst_str nmd_list alll] at h3
  have s03 := s02.trans s3
  have lnb : (nmsOf H xb).length = xb.length := List.length_map _
  have lnl : (nmsOf H xl).length = xl.length := List.length_map _
  refine ⟨u1, u2, _, _, rfl, rfl, s3 _ _ h2, h3, by rw [List.length_map, List.length_map]; omega, fun u3 hu3 => ?_⟩
  have s4 := same_of_new hu3 (.lst ((nmsOf H xb).map V.str ++ (nmsOf H xl).map V.str))
  have h4 : upd H3 u3 (.lst ((nmsOf H xb).map V.str ++ (nmsOf H xl).map V.str)) u3 = some (.lst ((nmsOf H xb ++ nmsOf H xl).map V.str)) := by rw [upd_same, List.map_append]
  generalize upd H3 u3 (.lst ((nmsOf H xb).map V.str ++ (nmsOf H xl).map V.str)) = H4 at s4 h4
  have s04 := s03.trans s4
  have eF : funsOk H4 (nmsOf H xb ++ nmsOf H xl) f = funsOk H (nmsOf H xb ++ nmsOf H xl) f := by
    unfold funsOk
    have e1 : tupOf H4 4 funV f = tupOf H 4 funV f := stb_tup stb_fun s04 hf
    have e2 : thingsV H4 f = thingsV H f := by unfold thingsV; rw [tupAt_same s04 hf]
    rw [e1, e2]
    cases c : tupOf H 4 funV f with
    | false => rfl
    | true =>
      obtain ⟨af, xf, rfl, haf, tf, lf, allf⟩ := tupOf_parts c
      rw [tf]
      obtain ⟨mf, hxf⟩ := hf.parts haf
      have e3 : nmsOf H4 xf = nmsOf H xf := List.map_congr_left fun x hm => by unfold fstV; rw [tupAt_same s04 (hxf x hm)]
      rw [e3]
      congr 1
      congr 1
      refine all_congr fun g hg => ?_
      obtain ⟨b', pa, oa, ra, y, ps, os, rs, rfl, hb', _, hp, ho, _⟩ := fun_parts (List.all_eq_true.mp allf g hg)
      rw [ownV_eq hb' hp ho, ownV_eq (s04 _ _ hb') (s04 _ _ hp) (s04 _ _ ho)]
  refine ⟨f, u3, nmsOf H xb ++ nmsOf H xl, p, n, rfl, h4, by rw [List.length_append]; omega, hf.same s04, fun v2 H5 s5 => ?ok2, fun v2 H5 s5 => ?bad2⟩
  case bad2 =>
    rw [eF] at v2
    exact q1 (by rw [if_pos v2]) H5 (s04.trans s5)
  rw [eF] at v2
  rw [if_neg (by rw [v2]; exact Bool.noConfusion)] at q0 q1 q2 q3
  have s05 := s04.trans s5
  have v2' := v2
  unfold funsOk at v2'
  rw [Bool.and_eq_true, Bool.and_eq_true] at v2'
  obtain ⟨af, xf, rfl, haf, tf, lf, allf⟩ := tupOf_parts v2'.1
  rw [tf] at q0 q1 q2 q3
  obtain ⟨mf, hxf⟩ := hf.parts haf
  obtain ⟨t, ty, ⟨mr, ar, xr, _, rfl, rfl, har, lr, hxr⟩ | ⟨hrf, hrn⟩⟩ := (hr'.same s05).tupOr
  case inr =>
    refine ⟨_, rfl, _, "tuple", _, rfl, ty, by simp, _, rfl, ifT (by rw [hrf]; rfl) (q1 ?_ H5 s05)⟩
    rw [if_pos (by rw [← tupAt_same s05 hr']; exact hrn)]
  refine ⟨_, rfl, _, "tuple", _, rfl, ty, by simp, _, rfl, ifF (by decide) ?_⟩
  have har0 : tupAt H (.ref ar) = some xr := by rw [← tupAt_same s05 hr', tupAt_tup har]
  rw [if_neg (by rw [har0]; exact Option.some_ne_none _)] at q0 q1 q2 q3
  have tr : thingsV H (.ref ar) = xr := by unfold thingsV; rw [har0]; rfl
  obtain ⟨_, e, har1⟩ := at_ref har0
  cases e
  refine ⟨_, rfl, _, rfl, _, rfl, _, rfl, (by show 4 ≤ sizeLine; omega), fun pr hpr => ?_⟩
  have s6 := same_of_new hpr (.tup [.ref ab, .ref al, .ref af, .ref ar])
  have h6 : upd H5 pr (.tup [.ref ab, .ref al, .ref af, .ref ar]) pr = some (.tup [.ref ab, .ref al, .ref af, .ref ar]) := upd_same
  generalize upd H5 pr (.tup [.ref ab, .ref al, .ref af, .ref ar]) = H6 at s6 h6
  have s06 := s05.trans s6
  have up : ∀ {x : V} {m : Nat}, Dt p H m x → Dt p H6 (max mb (max ml (max mf n))) x → True := fun _ _ => trivial
  have hxb' : ∀ x ∈ xb, Dt p H (mb + ml + mf + n) x := fun x hx => (hxb x hx).up (by omega)
  have hxl' : ∀ x ∈ xl, Dt p H (mb + ml + mf + n) x := fun x hx => (hxl x hx).up (by omega)
  have hxf' : ∀ x ∈ xf, Dt p H (mb + ml + mf + n) x := fun x hx => (hxf x hx).up (by omega)
  have hr2 : Dt p H (mb + ml + mf + n) (.ref ar) := hr'.up (by omega)
  have eR := rowsOk_same s06 hxb' hxl' hxf' allf hr2
  refine ⟨_, rfl, pr, ab, al, af, .ref ar, xb, xl, xf, p, mb + ml + mf + n, rfl, h6, s06 _ _ hab, s06 _ _ hal, s06 _ _ haf, lb, ll, lf,
    by rw [all_congr fun x hx => stb_box s06 (hxb x hx)]; exact allb, by rw [all_congr fun x hx => stb_list s06 (hxl x hx)]; exact alll, by rw [all_congr fun x hx => stb_fun s06 (hxf x hx)]; exact allf,
    fun x hx => (hxb' x hx).same s06, fun x hx => (hxl' x hx).same s06, fun x hx => (hxf' x hx).same s06, hr2.same s06, fun v3 H7 s7 => ?ok3, fun v3 H7 s7 => ?bad3⟩
  case bad3 =>
    rw [eR] at v3
    exact q2 (by rw [if_pos v3]) H7 (s06.trans s7)
  rw [eR] at v3
  rw [if_neg (by rw [v3]; exact Bool.noConfusion)] at q0 q1 q2 q3
  have s07 := s06.trans s7
  have tk7 := TK.of s07
  unfold rowsOk at v3
  rw [Bool.and_eq_true] at v3
  have hFn : ∀ g ∈ xf, FnIs H g := fun g hg => by
    obtain ⟨b', pa, oa, ra, y, ps, os, rs, rfl, hb', _, hp, ho, hra, _⟩ := fun_parts (List.all_eq_true.mp allf g hg)
    have e4 : fourV H (.ref b') = .ref ra := by unfold fourV; rw [tupAt_tup hb']
    have hfr := List.all_eq_true.mp v3.1 _ hg
    unfold fRows at hfr
    rw [e4] at hfr
    obtain ⟨m', hx'⟩ := (hxf _ hg).parts hb'
    exact ⟨b', ra, _, _, _, rs, rfl, hb', hra, rowsB_rows (hx' _ (by simp)) hra hfr⟩
  have hRw : ∀ u ∈ xr, RwOk H 5 u := rowsB_rows hr' har1 v3.2
  unfold total at hB q0 q3
  rw [tf, tr] at hB q0 q3
  have ec : cntF H7 xf + cnt H7 5 xr = cntF H xf + cnt H 5 xr := by rw [cntF_tk tk7 hFn, cnt_tk tk7 hRw]
  refine ⟨_, rfl, pr, af, ar, .ref ab, .ref al, xf, xr, rfl, s7 _ _ h6, s07 _ _ haf, s07 _ _ har1, fun g hg => (hFn g hg).tk tk7, fun u hu => (hRw u hu).tk tk7, by rw [ec]; exact hB, fun H8 t us s8 ht h8 hus => ?_⟩
  rw [ec] at hus
  refine ⟨t, us, rfl, .inl (SqL.of h8), _, _, rfl, rfl, _, rfl, ite2 (fun c => ?_) (fun c => ?_)⟩
  · have c' := of_decide_eq_true c
    have : 60 < cntF H xf + cnt H 5 xr := by omega
    exact q3 (by rw [if_pos this]) H8 (s07.trans s8)
  · have c' := of_decide_eq_false (Bool.eq_false_iff.mpr c)
    have : ¬ 60 < cntF H xf + cnt H 5 xr := by omega
    exact ⟨_, rfl, q0 (by rw [if_neg this]) pr H8 (s07.trans s8) (s05.free hpr) (s8 _ _ (s7 _ _ h6))⟩
end
end K05

set_option Elab.async false
set_option linter.all false
set_option maxRecDepth 100000
set_option maxHeartbeats 4000000
namespace K05
open PySem L2
seal L2.PE L2.PS L2.PSs L2.PT L2.PW L2.PA L2.PG L2.PGs L2.PI L2.PO L2.PIfs L2.PC L2.OpR L2.CallR L2.IxR L2.SlR L2.PSet L2.UnR
/-- a class of exceptions, the b-th of nine -/
structure One (K : PySem.W.Frag) (R C : Addr) (Cs : List Addr) (bs : List Bool) : Prop where
  exc : ExcK K C
  at_ : ExcAt K C
  cl : (PySem.W.clsIn K C).isSome = true
  sub : PySem.W.subIn K (.ref C) (.ref R) = some true
  kv : PySem.W.kitOne K (.ref C) (.type "ValueError") = some true
  is : Paired (fun D b => PySem.W.kitOne K (.ref C) (.ref D) = some b) Cs bs
/-- the text's own classes of exceptions -/
structure Ecs (K : PySem.W.Frag) (mg : Str → Option Value) (R C1 C2 C3 C4 C5 C6 C7 C8 C9 : Addr) : Prop where
  m0 : mg "RunError" = some (.ref R)
  m1 : mg "NoProgram" = some (.ref C1)
  m2 : mg "NoRow" = some (.ref C2)
  m3 : mg "TooLong" = some (.ref C3)
  m4 : mg "NoWorld" = some (.ref C4)
  m5 : mg "NoText" = some (.ref C5)
  m6 : mg "NoStep" = some (.ref C6)
  m7 : mg "NoCell" = some (.ref C7)
  m8 : mg "NoDoor" = some (.ref C8)
  m9 : mg "NoWord" = some (.ref C9)
  hit : HitK K R
  o1 : One K R C1 [C1, C2, C3, C4, C5, C6, C7, C8, C9] [true, false, false, false, false, false, false, false, false]
  o2 : One K R C2 [C1, C2, C3, C4, C5, C6, C7, C8, C9] [false, true, false, false, false, false, false, false, false]
  o3 : One K R C3 [C1, C2, C3, C4, C5, C6, C7, C8, C9] [false, false, true, false, false, false, false, false, false]
theorem bt_ValueError : bootBuiltins "ValueError" = some (.type "ValueError") := by decide +kernel

section
variable {P : Program} {w : World} {K : PySem.W.Frag} {mg : Str → Option Value} {base : Heap} {R c_NoProgram c_NoRow c_TooLong c_NoWorld c_NoText c_NoStep c_NoCell c_NoDoor c_NoWord : Addr}
theorem sc_class : FnScope ["_law_e", "_law_found", "_law_kind"] ["_law_e"] (defScope (top 60)) := ⟨rfl, rfl, rfl, by decide +kernel, rfl, by decide +kernel, by decide +kernel⟩
def spClass (C1 C2 C3 : Addr) : Addr → Addr → Sp := fun a C vs H Q _ => vs = [.ref a] ∧ ((C = C1 ∧ ∀ H', Same H H' → Q (.str "program") H') ∨ (C = C2 ∧ ∀ H', Same H H' → Q (.str "row") H') ∨ (C = C3 ∧ ∀ H', Same H H' → Q (.str "long") H'))
theorem loop_ok {a fd t : Addr} {H H0 : Hp} {bs cs : List Bool} (hfd : H fd = none) (s0 : Same H H0) (hf : H0 fd = some (.lst (cs.map V.bl))) (ht : H0 t = some (.tup (bs.map V.bl))) (htn : t ≠ fd) (hl : bs.length + cs.length ≤ 100) {D : Ends} {x0 : Option V}
    (h : ∀ (x2 : Option V) (H' : Hp), Same H H' → H' fd = some (.lst ((cs ++ bs).map V.bl)) → D.nx [some (.ref a), some (.ref fd), x2] H') :
    ∃ W : Nat → Nat → St → Hp → Prop, (∃ m, W 0 m [some (.ref a), some (.ref fd), x0] H0) ∧ ∀ i m σ H, W i m σ H →
      ((Itt K t).stop i H ∧ D.nx σ H) ∨ ((Itt K t).go i H ∧ ∃ N : St → Hp → Prop, (∀ σ' H', N σ' H' → ∃ m', m' < m ∧ W (i + 1) m' σ' H') ∧ ∀ x H', (Itt K t).yld i H x H' → gName 2 x σ H' fun σ2 H2 =>
        tDrop (tBM K "list" rAppend (tVar 1) (tCons (tVar 2) tNil)) { D with nx := N, ct := N, bk := D.nx } σ2 H2) := by
  refine for_tup (xs := bs.map V.bl) (fun i σ H' => ∃ x2, σ = [some (.ref a), some (.ref fd), x2] ∧ Same H H' ∧ H' fd = some (.lst ((cs ++ bs.take i).map V.bl)) ∧ H' t = some (.tup (bs.map V.bl))) ⟨x0, rfl, s0, by rw [List.take_zero, List.append_nil]; exact hf, ht⟩
    (fun i σ H' _ q => by obtain ⟨_, _, _, _, q⟩ := q; exact SqT.of q) ?_ ?_
  · rintro i x σ H' hx ⟨x2, rfl, s1, hf1, ht1⟩
    rw [List.getElem?_map] at hx
    cases hb : bs[i]? with
    | none => rw [hb] at hx; cases hx
    | some b =>
      rw [hb] at hx
      cases hx
      have hi := (List.getElem?_eq_some_iff.mp hb).1
      refine ⟨_, rfl, .inl ⟨rfl, _, SqL.of hf1⟩, _, rfl, fd, _, _, rfl, rfl, hf1, ?_, ?_⟩
      · rw [List.length_map, List.length_append, List.length_take]
        exact Nat.lt_of_le_of_lt (show _ ≤ 100 by omega) (by decide)
      · refine ⟨_, rfl, fun b' o hb' => ?_, ?_, ?_⟩
        · rw [upd_ne (ne_of_none hb' hfd)]; exact s1 _ _ hb'
        · rw [upd_same, List.take_add_one, hb, ← List.append_assoc]
          show some (HO.lst ((cs ++ bs.take i).map V.bl ++ [V.bl b])) = some (HO.lst ((cs ++ bs.take i ++ [b]).map V.bl))
          rw [List.map_append (l₁ := cs ++ bs.take i)]
          rfl
        · rw [upd_ne htn]; exact ht1
  · rintro σ H' ⟨x2, rfl, s1, hf1, _⟩
    rw [List.length_map, List.take_length] at hf1
    exact h x2 H' s1 hf1
theorem nine {R : Addr → Bool → Prop} {a1 a2 a3 a4 a5 a6 a7 a8 a9 : Addr} {b1 b2 b3 b4 b5 b6 b7 b8 b9 : Bool} (h : Paired R [a1, a2, a3, a4, a5, a6, a7, a8, a9] [b1, b2, b3, b4, b5, b6, b7, b8, b9]) :
    R a1 b1 ∧ R a2 b2 ∧ R a3 b3 ∧ R a4 b4 ∧ R a5 b5 ∧ R a6 b6 ∧ R a7 b7 ∧ R a8 b8 ∧ R a9 b9 := by
  cases h with
  | cons r1 h => cases h with
  | cons r2 h => cases h with
  | cons r3 h => cases h with
  | cons r4 h => cases h with
  | cons r5 h => cases h with
  | cons r6 h => cases h with
  | cons r7 h => cases h with
  | cons r8 h => cases h with
  | cons r9 h => exact ⟨r1, r2, r3, r4, r5, r6, r7, r8, r9⟩
theorem d_class (T : Txt w K mg) (Z : Ecs K mg R c_NoProgram c_NoRow c_TooLong c_NoWorld c_NoText c_NoStep c_NoCell c_NoDoor c_NoWord) (S : Src K mg "_law_class" (top 60) ["_law_e"]) : DefH P w K mg base 1 "_law_class" ["_law_e"] (spClass c_NoProgram c_NoRow c_TooLong) := by
  have m_NoProgram := Z.m1
  have m_NoRow := Z.m2
  have m_TooLong := Z.m3
  have m_NoWorld := Z.m4
  have m_NoText := Z.m5
  have m_NoStep := Z.m6
  have m_NoCell := Z.m7
  have m_NoDoor := Z.m8
  have m_NoWord := Z.m9
  refine S.okH sc_class (fun a C vs H Q E h => ?_) (fun f0 cdv A outer s H vs Q a C t0 tb0 hr h hh => ?_)
  · obtain ⟨rfl, _⟩ := h; rfl
  obtain ⟨rfl, h⟩ := h
  have hO : ∃ (b1 b2 b3 : Bool) (wd : Str), One K R C [c_NoProgram, c_NoRow, c_TooLong, c_NoWorld, c_NoText, c_NoStep, c_NoCell, c_NoDoor, c_NoWord] [b1, b2, b3, false, false, false, false, false, false] ∧
      ((b1 = true ∧ b2 = false ∧ b3 = false ∧ wd = "program") ∨ (b1 = false ∧ b2 = true ∧ b3 = false ∧ wd = "row") ∨ (b1 = false ∧ b2 = false ∧ b3 = true ∧ wd = "long")) ∧ ∀ H', Same H H' → Q (.str wd) H' := by
    rcases h with ⟨eC, q⟩ | ⟨eC, q⟩ | ⟨eC, q⟩
    · exact ⟨_, _, _, _, eC ▸ Z.o1, .inl ⟨rfl, rfl, rfl, rfl⟩, q⟩
    · exact ⟨_, _, _, _, eC ▸ Z.o2, .inr (.inl ⟨rfl, rfl, rfl, rfl⟩), q⟩
    · exact ⟨_, _, _, _, eC ▸ Z.o3, .inr (.inr ⟨rfl, rfl, rfl, rfl⟩), q⟩
  obtain ⟨b1, b2, b3, wd, O, hB, q⟩ := hO
  obtain ⟨k1, k2, k3, k4, k5, k6, k7, k8, k9⟩ := nine O.is
  have F := O.at_
  have hc := O.cl
  refine ⟨_, (pss_cons (ps_set (i := 1) sc_class.nd rfl (Or.inl rfl) (pe_lst pa_nil))
      (pss_cons (ps_forH hh PassesOwn.never (pe_tup (pac (pe_cB (call_isiX hh F hc) rfl T.z_isinstance bt_isinstance (pac (pv 0) (pac (pe_glob (v := .ref c_NoProgram) rfl m_NoProgram rfl) pa_nil))) (pac (pe_cB (call_isiX hh F hc) rfl T.z_isinstance bt_isinstance (pac (pv 0) (pac (pe_glob (v := .ref c_NoRow) rfl m_NoRow rfl) pa_nil))) (pac (pe_cB (call_isiX hh F hc) rfl T.z_isinstance bt_isinstance (pac (pv 0) (pac (pe_glob (v := .ref c_TooLong) rfl m_TooLong rfl) pa_nil))) (pac (pe_cB (call_isiX hh F hc) rfl T.z_isinstance bt_isinstance (pac (pv 0) (pac (pe_glob (v := .ref c_NoWorld) rfl m_NoWorld rfl) pa_nil))) pa_nil))))) (pg_name (i := 2) sc_class.nd rfl (Or.inl rfl))
      (pss_one (ps_expr (pe_bm PySem.F.plainAttrs_list PySem.F.slot_list_append PySem.F.type_list_append mt_append (pv 1) (pac (pv 2) pa_nil)))))
      (pss_cons (ps_forH hh PassesOwn.never (pe_tup (pac (pe_cB (call_isiX hh F hc) rfl T.z_isinstance bt_isinstance (pac (pv 0) (pac (pe_glob (v := .ref c_NoText) rfl m_NoText rfl) pa_nil))) (pac (pe_cB (call_isiX hh F hc) rfl T.z_isinstance bt_isinstance (pac (pv 0) (pac (pe_glob (v := .ref c_NoStep) rfl m_NoStep rfl) pa_nil))) (pac (pe_cB (call_isiX hh F hc) rfl T.z_isinstance bt_isinstance (pac (pv 0) (pac (pe_glob (v := .ref c_NoCell) rfl m_NoCell rfl) pa_nil))) (pac (pe_cB (call_isiX hh F hc) rfl T.z_isinstance bt_isinstance (pac (pv 0) (pac (pe_glob (v := .ref c_NoDoor) rfl m_NoDoor rfl) pa_nil))) pa_nil))))) (pg_name (i := 2) sc_class.nd rfl (Or.inl rfl))
      (pss_one (ps_expr (pe_bm PySem.F.plainAttrs_list PySem.F.slot_list_append PySem.F.type_list_append mt_append (pv 1) (pac (pv 2) pa_nil)))))
      (pss_cons (ps_expr (pe_bm PySem.F.plainAttrs_list PySem.F.slot_list_append PySem.F.type_list_append mt_append (pv 1) (pac (pe_cB (call_isiX hh F hc) rfl T.z_isinstance bt_isinstance (pac (pv 0) (pac (pe_glob (v := .ref c_NoWord) rfl m_NoWord rfl) pa_nil))) pa_nil)))
      (pss_cons (ps_if (pt_cut (PW.pt (pw_or (pt_not (pt_val (pe_cB (call_isiX hh F hc) rfl T.z_isinstance bt_isinstance (pac (pv 0) (pac (pe_ty T.z_ValueError bt_ValueError rfl) pa_nil))))) (pw_or1 (pt_cmpR op_ne (pe_bm PySem.F.plainAttrs_list PySem.F.slot_list_count PySem.F.type_list_count mt_countB (pv 1) (pa_const [.bl true] (by rfl))) pe_int (nomark _))))))
      (pss_one (ps_ret pe_str)) pss_nil)
      (pss_one (ps_ret (pe_ix ix_list (pe_lst (pa_const [.str "program", .str "row", .str "long", .str "world", .str "text", .str "step", .str "cell", .str "door", .str "word"] (by rfl))) (pe_bm PySem.F.plainAttrs_list PySem.F.slot_list_index PySem.F.type_list_index mt_indexB (pv 1) (pa_const [.bl true] (by rfl))) (fun _ _ => rfl))))))))), ?_⟩
  refine ⟨(by show 0 ≤ sizeLine; decide), fun fd hfd => ?_⟩
  have s0 := same_of_new hfd (.lst [])
  refine ⟨_, rfl, _, _, _, rfl, .inl ⟨_, rfl, rfl⟩, k1, _, rfl, _, _, _, rfl, .inl ⟨_, rfl, rfl⟩, k2, _, rfl, _, _, _, rfl, .inl ⟨_, rfl, rfl⟩, k3, _, rfl, _, _, _, rfl, .inl ⟨_, rfl, rfl⟩, k4, (by show 4 ≤ sizeLine; decide), fun t ht => ?_⟩
  have ne1 : t ≠ fd := fun z => by rw [z, upd_same] at ht; cases ht
  refine ⟨t, rfl, ⟨_, SqT.of upd_same⟩, loop_ok (bs := [b1, b2, b3, false]) (cs := []) hfd (s0.trans (same_of_new ht _)) (by rw [upd_ne (Ne.symm ne1)]; exact upd_same) upd_same ne1 (by show 4 ≤ 100; decide) (fun x2 H1 s1 hf1 => ?_)⟩
  refine ⟨_, rfl, _, _, _, rfl, .inl ⟨_, rfl, rfl⟩, k5, _, rfl, _, _, _, rfl, .inl ⟨_, rfl, rfl⟩, k6, _, rfl, _, _, _, rfl, .inl ⟨_, rfl, rfl⟩, k7, _, rfl, _, _, _, rfl, .inl ⟨_, rfl, rfl⟩, k8, (by show 4 ≤ sizeLine; decide), fun t' ht' => ?_⟩
  have ne2 : t' ≠ fd := fun z => by rw [z, hf1] at ht'; cases ht'
  refine ⟨t', rfl, ⟨_, SqT.of upd_same⟩, loop_ok (bs := [false, false, false, false]) (cs := [b1, b2, b3, false]) hfd (s1.trans (same_of_new ht' _)) (by rw [upd_ne (Ne.symm ne2)]; exact hf1) upd_same ne2 (by show 8 ≤ 100; decide) (fun x3 H2 s2 hf2 => ?_)⟩
  refine ⟨_, rfl, .inl ⟨rfl, _, SqL.of hf2⟩, _, rfl, _, _, _, rfl, .inl ⟨_, rfl, rfl⟩, k9, fd, _, _, rfl, rfl, hf2, (by show 8 < sizeLine; decide), ?_⟩
  have s3 : Same H (upd H2 fd (.lst (([b1, b2, b3, false] ++ [false, false, false, false]).map V.bl ++ [V.bl false]))) := fun b o hb => by rw [upd_ne (ne_of_none hb hfd)]; exact s2 _ _ hb
  have hf3 : (upd H2 fd (.lst (([b1, b2, b3, false] ++ [false, false, false, false]).map V.bl ++ [V.bl false]))) fd = some (.lst ([b1, b2, b3, false, false, false, false, false, false].map V.bl)) := upd_same
  generalize upd H2 fd (.lst (([b1, b2, b3, false] ++ [false, false, false, false]).map V.bl ++ [V.bl false])) = H3 at s3 hf3 ⊢
  refine ⟨fun t H' => H3 = H' ∧ t = false, ⟨_, rfl, _, _, _, rfl, .inr ⟨_, rfl, rfl⟩, O.kv, _, rfl, ifF rfl ⟨_, rfl, .inl ⟨rfl, _, SqL.of hf3⟩, fd, _, rfl, rfl, hf3, rfl, _, rfl, rfl, by rcases hB with ⟨rfl, rfl, rfl, _⟩ | ⟨rfl, rfl, rfl, _⟩ | ⟨rfl, rfl, rfl, _⟩ <;> decide⟩⟩, ?_⟩
  rintro t H' ⟨rfl, rfl⟩
  refine ifF rfl ?_
  refine ⟨(by show 9 ≤ sizeLine; decide), fun L hL => ?_⟩
  have s4 := s3.trans (same_of_new hL (.lst [V.str "program", .str "row", .str "long", .str "world", .str "text", .str "step", .str "cell", .str "door", .str "word"]))
  have hf4 : (upd H3 L (.lst [V.str "program", .str "row", .str "long", .str "world", .str "text", .str "step", .str "cell", .str "door", .str "word"])) fd = some (.lst ([b1, b2, b3, false, false, false, false, false, false].map V.bl)) := by rw [upd_ne (ne_of_none hf3 hL)]; exact hf3
  rcases hB with ⟨rfl, rfl, rfl, rfl⟩ | ⟨rfl, rfl, rfl, rfl⟩ | ⟨rfl, rfl, rfl, rfl⟩
  · refine ⟨_, rfl, .inl ⟨rfl, _, SqL.of hf4⟩, fd, _, 0, rfl, rfl, hf4, by decide, rfl, (fun m hm => ?_), L, _, 0, _, rfl, rfl, SqL.of upd_same, atI_nat (j := 0) rfl, q _ s4⟩
    exact absurd hm (Nat.not_lt_zero _)
  · refine ⟨_, rfl, .inl ⟨rfl, _, SqL.of hf4⟩, fd, _, 1, rfl, rfl, hf4, by decide, rfl, (fun m hm => ?_), L, _, 1, _, rfl, rfl, SqL.of upd_same, atI_nat (j := 1) rfl, q _ s4⟩
    match m, hm with
    | 0, _ => rfl
  · refine ⟨_, rfl, .inl ⟨rfl, _, SqL.of hf4⟩, fd, _, 2, rfl, rfl, hf4, by decide, rfl, (fun m hm => ?_), L, _, 2, _, rfl, rfl, SqL.of upd_same, atI_nat (j := 2) rfl, q _ s4⟩
    match m, hm with
    | 0, _ => rfl
    | 1, _ => rfl

end
end K05

set_option Elab.async false
set_option linter.all false
set_option maxRecDepth 100000
set_option maxHeartbeats 1000000
namespace L2
open PySem PySem.Spec PyProof.Rows
theorem noFill_tuple_mul : fillsNumberSlot (.type "tuple") "mul" = pure false :=
  PySem.fillsNumberSlot_seq (id := "tuple.__mul__") (r := some (.builtin "tuple.__rmul__")) F.slot_tuple_mul.lookup (by decide +kernel) F.slot_tuple_rmul.lookup (by decide +kernel)
theorem repeat_tuple : seqRepeat? (.type "tuple") = pure (some (.builtin "tuple.__mul__")) := by
  unfold seqRepeat?
  rw [PySem.seqSlot_of (T := "tuple") (name := "__mul__") (id := "tuple.__mul__") F.slot_tuple_mul.lookup (by decide +kernel), PySem.seqSlot_of (T := "tuple") (name := "__rmul__") (id := "tuple.__rmul__") F.slot_tuple_rmul.lookup (by decide +kernel)]
  rfl
theorem int_rmul_tuple (a : Int) (t : Tok) (l : Addr) (items : Array Value) (n : Nat) (dd : Option Addr) (sl : Array (Option Value)) :
    Meets (Builtin.«int.__rmul__» ⟨[.int a t, .ref l], []⟩) (fun _ R s => s.heap.get? l = some { cls := .type "tuple", dict := dd, data := .seq items n, slots := sl } ∧ R (.ok (.ret Value.notImplemented)) s) :=
  .of_wp fun prog w A R s h => by obtain ⟨hp, g, d, tk, os⟩ := s; obtain ⟨hl, h⟩ := h; wp_walk; exact ⟨_, rfl, h⟩
theorem tuple_mul1 (t : Tok) (l : Addr) (items : Array Value) (n : Nat) (dd : Option Addr) (sl : Array (Option Value)) :
    Meets (Builtin.«tuple.__mul__» ⟨[.ref l, .int 1 t], []⟩) (fun _ R s => s.heap.get? l = some { cls := .type "tuple", dict := dd, data := .seq items n, slots := sl } ∧ R (.ok (.ret (.ref l))) s) :=
  .of_wp fun prog w A R s h => by
    obtain ⟨hp, g, d, tk, os⟩ := s; obtain ⟨hl, h⟩ := h
    unfold Builtin.«tuple.__mul__»
    wp_walk
    exact ⟨_, rfl, h⟩
theorem tuple_mulN (k : Int) (t : Tok) (l : Addr) (items : Array Value) (n : Nat) (dd : Option Addr) (sl : Array (Option Value)) (h0 : items.isEmpty = false) (h1 : 2 ≤ k) (h2 : k ≤ 1000) (h3 : items.size ≤ 10) :
    Meets (Builtin.«tuple.__mul__» ⟨[.ref l, .int k t], []⟩) (fun _ R s => s.heap.get? l = some { cls := .type "tuple", dict := dd, data := .seq items n, slots := sl } ∧ R (.ok (.ret (.ref s.heap.objs.size))) { s with heap := s.heap.push { cls := .type "tuple", data := .seq (List.foldl (fun x1 x2 => x1 ++ x2) #[] (List.replicate k.toNat items)) } }) :=
  .of_wp fun prog w A R s h => by
    obtain ⟨hp, g, d, tk, os⟩ := s; obtain ⟨hl, h⟩ := h
    have c1 : (decide (k < -(2 ^ 63 : Int)) || decide (k ≥ 2 ^ 63)) = false := by
      rw [decide_eq_false (by omega), decide_eq_false (by omega)]; rfl
    have c2 : (items.isEmpty || k == 1) = false := by
      rw [h0, Bool.false_or]
      exact beq_eq_false_iff_ne.mpr (by omega)
    have c3 : (decide (k ≤ 0) || items.isEmpty) = false := by rw [h0, decide_eq_false (by omega)]; rfl
    unfold Builtin.«tuple.__mul__»
    have l3 : (100000 : Nat) < sizeLine := by rw [sizeLine_eq]; decide
    have hle : (items.size : Int) * k ≤ 10 * 1000 := Int.mul_le_mul (by omega) h2 (by omega) (by omega)
    wp_walk
    rw [if_neg (by rw [c1]; exact Bool.false_ne_true)]
    wp_walk
    rw [if_neg (by rw [c2]; exact Bool.false_ne_true)]
    wp_walk
    rw [if_neg (by rw [c3]; exact Bool.false_ne_true)]
    wp_walk
    rw [if_neg (by omega)]
    wp_walk
    have hlen : (List.foldl (fun x1 x2 => x1 ++ x2) #[] (List.replicate k.toNat items)).size ≤ sizeLine := by
      have e := foldl_rep items.toList k.toNat []
      rw [List.nil_append] at e
      have e' : List.foldl (fun x1 x2 => x1 ++ x2) #[] (List.replicate k.toNat items) = (List.replicate k.toNat items.toList).flatten.toArray := e
      rw [e', List.size_toArray, len_rep]
      have hk : (k.toNat : Int) = k := Int.toNat_of_nonneg (by omega)
      have : ((k.toNat * items.toList.length : Nat) : Int) ≤ 10000 := by
        rw [Int.natCast_mul, hk, Int.mul_comm, Array.length_toList]
        exact hle
      omega
    rw [if_neg (by unfold Builtin.Tuple.tupleTooMany; rw [decide_eq_true_eq]; omega)]
    wp_walk
    exact ⟨_, rfl, h⟩
/-- t * k -/
def rRepT : R2 := fun x y H Q => ∃ (l : Addr) (k : Int) (xs : List V), x = .ref l ∧ y = .int k ∧ H l = some (.tup xs) ∧ xs ≠ [] ∧ xs.length ≤ 10 ∧ 1 ≤ k ∧ k ≤ 1000 ∧ (k = 1 → Q (.ref l) H) ∧ (k ≠ 1 → ∀ p, H p = none → Q (.ref p) (upd H p (.tup (List.replicate k.toNat xs).flatten)))
theorem op_repT {X : Cx} : OpR X (binaryOp .Mult) rRepT := by
  intro pins s σ H x y v u Q I rx ry h
  obtain ⟨l, k, xs, rfl, rfl, hH, hne, h10, h1, h2, q1, q2⟩ := h
  cases rx
  obtain ⟨t, rfl⟩ := ry
  obtain ⟨its, r, p, z⟩ := I.tuple (SqT.of hH)
  obtain ⟨⟨cls, dd, data, sl⟩, e, hc, n, hd⟩ := id p
  simp only at hc hd
  subst hc hd
  have hl := r.length
  refine wpAny_binaryOp_repeat_ref (T := "tuple") (U := "int") (by decide) ⟨_, e, rfl⟩ (fun s' => typeIs_int s' k t) noFill_tuple_mul F.fills_int_mul F.slot_int_rmul repeat_tuple F.slot_int_index.lookup
    (call_meets F.slot_int_rmul (typeIs_int s k t) F.entry_int_rmul (F.args_int_rmul_2 _ _) (int_rmul_tuple k t l its.toArray n dd sl) ⟨e, rfl, ⟨_, e, rfl⟩, ?_⟩)
  by_cases hk : k = 1
  · subst hk
    exact call_meets F.slot_tuple_mul ⟨_, e, rfl⟩ F.entry_tuple_mul (F.args_tuple_mul_2 _ _) (tuple_mul1 t l its.toArray n dd sl) ⟨e, .ref l, H, I, rfl, q1 rfl⟩
  have hemp : its.toArray.isEmpty = false := by
    cases its with
    | nil => exact absurd (r.nil_iff.mp rfl) hne
    | cons _ _ => rfl
  refine call_meets F.slot_tuple_mul ⟨_, e, rfl⟩ F.entry_tuple_mul (F.args_tuple_mul_2 _ _) (tuple_mulN k t l its.toArray n dd sl hemp (by omega) h2 (by rw [List.size_toArray]; omega)) ⟨e, ?_⟩
  have f0 : List.foldl (fun x1 x2 => x1 ++ x2) #[] (List.replicate k.toNat its.toArray) = (List.replicate k.toNat its).flatten.toArray := by
    have := foldl_rep its k.toNat []
    rw [List.nil_append] at this
    exact this
  rw [f0]
  refine ⟨.ref s.heap.objs.size, _, I.laid (t' := s.toks) (o := .tup (List.replicate k.toNat xs).flatten) (fun b ob q => Heap.get?_push_of_some _ q) (Nat.le_refl _) ?_, rfl, q2 hk _ (I.hok.fresh (Nat.le_refl _))⟩
  refine ⟨?_, _, r.rep k.toNat, IsTup.new _ _⟩
  rw [len_rep]
  have l3 : (100000 : Nat) < sizeLine := by rw [sizeLine_eq]; decide
  have hk' : k.toNat ≤ 1000 := by omega
  have : k.toNat * xs.length ≤ 1000 * 10 := Nat.mul_le_mul hk' h10
  omega
/-- 'a' * k -/
def rRepS : R2 := fun x y H Q => ∃ (z : Str) (k : Int), x = .str z ∧ y = .int k ∧ 1 ≤ k ∧ k ≤ 1000 ∧ z.length ≤ 1000 ∧ Q (.str (Txt.mul z k)) H
theorem op_repS {X : Cx} : OpR X (binaryOp .Mult) rRepS := by
  intro pins s σ H x y v u Q I rx ry h
  obtain ⟨z, k, rfl, rfl, h1, h2, hz, q⟩ := h
  obtain ⟨t, rfl⟩ := rx
  obtain ⟨t', rfl⟩ := ry
  have hle : (z.length : Int) * k ≤ 1000 * 1000 := Int.mul_le_mul (by omega) h2 (by omega) (by omega)
  refine SB.mul (n := k) ⟨by rw [decide_eq_false (by omega), decide_eq_false (by omega)]; rfl, fun _ _ => ?_, fun _ _ => ?_⟩ fun t' k' => ⟨.str _, H, I.tok _, ⟨_, rfl⟩, q⟩
  · intro hc
    have : (z.length : Int) ≤ (2 ^ 63 - 1) / k := (Int.le_ediv_iff_mul_le (by omega)).mpr (by omega)
    omega
  · have l3 : (1000000 : Nat) < sizeLine := by rw [sizeLine_eq]; decide
    have hk : (k.toNat : Int) = k := Int.toNat_of_nonneg (by omega)
    have : ((z.length * k.toNat : Nat) : Int) ≤ 1000000 := by
      rw [Int.natCast_mul, hk]
      exact hle
    show decide _ = false
    exact decide_eq_false (by omega)
end L2

set_option Elab.async false
set_option linter.all false
set_option maxRecDepth 100000
set_option maxHeartbeats 4000000
namespace K05
open PySem L2
seal L2.PE L2.PS L2.PSs L2.PT L2.PW L2.PA L2.PG L2.PGs L2.PI L2.PO L2.PIfs L2.PC L2.OpR L2.CallR L2.IxR L2.SlR L2.PSet L2.UnR
/-! ### the sizes -/
def ten : List Str := ["box", "list", "thing", "function", "name", "deep", "row", "sign", "number", "rows"]
def hiOf (k : Str) : Int := if k = "box" then 6 else if k = "list" then 3 else if k = "thing" then 12 else if k = "function" then 4 else if k = "name" then 3 else if k = "deep" then 4 else if k = "row" then 5 else if k = "sign" then 6 else if k = "number" then 999999 else 60
def loOf (k : Str) : Int := if k = "rows" then 59 else hiOf k
def Near (i : Int) (sz : Str → Int) : Prop := ∀ k ∈ ten, loOf k - i ≤ sz k ∧ sz k ≤ hiOf k + i
def SzN (m : Nat) (H : Hp) (d : Addr) (sz : Str → Int) : Prop := ∃ kvs : Kvs, H d = some (.dK kvs) ∧ kvs.length ≤ m ∧ ∀ k ∈ ten, valV kvs (Sum.inr k) = some (.int (sz k))
def SzAt (H : Hp) (d : Addr) (sz : Str → Int) : Prop := ∃ m, SzN m H d sz
def kvs8 : Kvs := mergeK [] [(Sum.inr "box", .int 6), (Sum.inr "list", .int 3), (Sum.inr "thing", .int 12), (Sum.inr "function", .int 4), (Sum.inr "name", .int 3), (Sum.inr "deep", .int 4), (Sum.inr "row", .int 5), (Sum.inr "sign", .int 6)]
theorem kvs8_at : ∀ k ∈ ten, k ≠ "number" → k ≠ "rows" → valV kvs8 (Sum.inr k) = some (.int (hiOf k)) := by
  intro k hk h1 h2
  simp only [ten, List.mem_cons, List.not_mem_nil, or_false] at hk
  rcases hk with rfl | rfl | rfl | rfl | rfl | rfl | rfl | rfl | rfl | rfl
  · decide +kernel
  · decide +kernel
  · decide +kernel
  · decide +kernel
  · decide +kernel
  · decide +kernel
  · decide +kernel
  · decide +kernel
  · exact absurd rfl h1
  · exact absurd rfl h2
section
variable {P : Program} {w : World} {K : PySem.W.Frag} {mg : Str → Option Value} {base : Heap}
theorem sc_sizes : FnScope ["_law_script", "_law_state_here", "_law_sizes_here", "_law_words", "_law_k", "_law_word"] ["_law_script"] (defScope (top 61)) := ⟨rfl, rfl, rfl, by decide +kernel, rfl, by decide +kernel, by decide +kernel⟩
def spSizes (K : PySem.W.Frag) : Sp := fun vs H Q _ => ∃ (a : Addr) (ns : List Int), vs = [.ref a] ∧ SqL K H a (ns.map V.int) ∧ ∀ (d : Addr) (sz : Str → Int) (H' : Hp), Same H H' → SzAt H' d sz → Near 2 sz → Q (.ref d) H'
theorem d_sizes (T : Txt w K mg) (D_next : Def P w K mg base 1 "_law_next" ["_law_state_here", "_law_size"] spNext) (D_cell_at : Def P w K mg base 1 "_law_cell_at" ["_law_script", "_law_k"] (spCell K)) (D_state : Def P w K mg base 1 "_law_state" ["_law_cell", "_law_k"] spState)
    (S : Src K mg "_law_sizes" (top 61) ["_law_script"]) : Def P w K mg base 2 "_law_sizes" ["_law_script"] (spSizes K) := by
  refine S.ok sc_sizes (fun vs H Q E h => ?_) (fun f cdv A outer s H vs Q E hr h => ?_)
  · obtain ⟨a, ns, rfl, _⟩ := h; rfl
  obtain ⟨a, ns, rfl, hS, q⟩ := h
  refine ⟨_, (pss_cons (ps_set (i := 1) sc_sizes.nd rfl (Or.inl rfl) (pe_def (D_state) hr rfl (pac (pe_def (D_cell_at) hr rfl (pac (pv 0) (pac pe_int pa_nil))) (pac pe_int pa_nil))))
      (pss_cons (ps_set (i := 2) sc_sizes.nd rfl (Or.inl rfl) (pe_disp (pps_cons pe_str pe_int (pps_cons pe_str pe_int (pps_cons pe_str pe_int (pps_cons pe_str pe_int (pps_cons pe_str pe_int (pps_cons pe_str pe_int (pps_cons pe_str pe_int (pps_cons pe_str pe_int pps_nil)))))))) rfl rfl (by intro z; cases z) (by decide)))
      (pss_cons (ps_dput (hu_of hr) (pv 2) pe_str pe_int rfl)
      (pss_cons (ps_dput (hu_of hr) (pv 2) pe_str (pe_op op_sub pe_int (pe_def (D_next) hr rfl (pac (pv 1) (pac pe_int pa_nil)))) rfl)
      (pss_cons (ps_if (pt_cmpR op_eq (pe_def (D_next) hr rfl (pac (pv 1) (pac pe_int pa_nil))) pe_int (nomark _))
      (pss_one (ps_ret (pv 2))) pss_nil)
      (pss_cons (ps_set (i := 3) sc_sizes.nd rfl (Or.inl rfl) (pe_lst (pa_const [.str "box", .str "list", .str "thing", .str "function", .str "name", .str "deep", .str "row", .str "sign", .str "number", .str "rows"] (by rfl))))
      (pss_cons (ps_for PassesOwn.never rfl (pi_range1 rfl T.z_range (pac (pe_op op_add pe_int (pe_def (D_next) hr rfl (pac (pv 1) (pac pe_int pa_nil)))) pa_nil)) (pg_name (i := 4) sc_sizes.nd rfl (Or.inl rfl))
      (pss_cons (ps_set (i := 5) sc_sizes.nd rfl (Or.inl rfl) (pe_ix ix_list (pv 3) (pe_def (D_next) hr rfl (pac (pv 1) (pac pe_int pa_nil))) (fun _ _ => rfl)))
      (pss_one (ps_dput (hu_of hr) (pv 2) (pv 5) (pe_op op_sub (pe_op op_add (pe_dget (hu_of hr) (pv 2) (pv 5) (fun _ _ => rfl)) pe_int) (pe_op op_mul pe_int (pe_op op_fdiv (pe_def (D_next) hr rfl (pac (pv 1) (pac pe_int pa_nil))) pe_int))) rfl))))
      (pss_one (ps_ret (pv 2)))))))))), ?_⟩
  have l3 : (100000 : Nat) < sizeLine := by rw [sizeLine_eq]; decide
  refine ⟨_, rfl, a, ns, 0, rfl, hS, (by decide), fun i0 => ?_⟩
  refine ⟨i0, 1, rfl, (by decide), (by decide), fun p n0 hp hn0 hn1 => ?_⟩
  have g0 : Gen p (upd H p (.lst [.int n0])) := ⟨n0, upd_same, hn0, hn1⟩
  have s0 := same_of_new hp (.lst [.int n0])
  generalize upd H p (.lst [.int n0]) = H0 at g0 s0
  intro d hd
  refine ⟨upd_same, [(Sum.inr "box", .int 6), (Sum.inr "list", .int 3), (Sum.inr "thing", .int 12), (Sum.inr "function", .int 4), (Sum.inr "name", .int 3), (Sum.inr "deep", .int 4), (Sum.inr "row", .int 5), (Sum.inr "sign", .int 6)], rfl, by decide, ?_⟩
  rw [upd_upd]
  have s1 := same_of_new hd (.dK kvs8)
  have h1 : upd H0 d (.dK kvs8) d = some (.dK kvs8) := upd_same
  have g1 := g0.same s1
  have dp : d ≠ p := g0.ne hd
  have dH : H d = none := s0.free hd
  have e8 : upd H0 d (.dK (mergeK [] [(Sum.inr "box", .int 6), (Sum.inr "list", .int 3), (Sum.inr "thing", .int 12), (Sum.inr "function", .int 4), (Sum.inr "name", .int 3), (Sum.inr "deep", .int 4), (Sum.inr "row", .int 5), (Sum.inr "sign", .int 6)])) = upd H0 d (.dK kvs8) := rfl
  rw [e8]
  have s01 := s0.trans s1
  generalize upd H0 d (.dK kvs8) = H1 at s1 h1 g1 s01
  have l8 : kvs8.length ≤ 8 := by decide +kernel
  -- all but the dict and the drawn number is kept
  have keepD : ∀ {H2 H3 : Hp} {o : HO}, Same H H2 → H3 = upd H2 d o → Same H H3 := fun {H2 H3 o} s e b ob hb => by rw [e, upd_ne (ne_of_none hb dH)]; exact s _ _ hb
  refine ⟨_, rfl, d, _, rfl, DPut.k (k := Sum.inr "number") (v := .int 999999) h1 (by omega), ?_⟩
  have g2 : Gen p (upd H1 d (.dK (putK kvs8 (Sum.inr "number") (.int 999999)))) := by
    obtain ⟨n, z, r⟩ := g1
    exact ⟨n, by rw [upd_ne (Ne.symm dp)]; exact z, r⟩
  have s02 := keepD s01 (rfl : upd H1 d (.dK (putK kvs8 (Sum.inr "number") (.int 999999))) = _)
  have h2 : upd H1 d (.dK (putK kvs8 (Sum.inr "number") (.int 999999))) d = some (.dK (putK kvs8 (Sum.inr "number") (.int 999999))) := upd_same
  generalize upd H1 d (.dK (putK kvs8 (Sum.inr "number") (.int 999999))) = H2 at g2 s02 h2
  refine ⟨_, rfl, p, 2, rfl, g2, by decide, fun r1 H3 hr1 hr2 e3 => ?_⟩
  have h3 := e3.but d _ dp h2
  have keepP : ∀ {H2 H3 : Hp}, Same H H2 → Ext p H2 H3 → Same H H3 := fun {H2 H3} s e b ob hb => e.but b _ (ne_of_none hb hp) (s _ _ hb)
  have s03 := keepP s02 e3
  have l9 := length_putK kvs8 (Sum.inr "number") (V.int 999999)
  refine ⟨_, _, rfl, rfl, _, rfl, d, _, rfl, DPut.k (k := Sum.inr "rows") (v := .int (60 - r1)) h3 (by omega), ?_⟩
  have l10 := length_putK (putK kvs8 (Sum.inr "number") (V.int 999999)) (Sum.inr "rows") (V.int (60 - r1))
  have s04 := keepD s03 (rfl : upd H3 d (.dK (putK (putK kvs8 (Sum.inr "number") (.int 999999)) (Sum.inr "rows") (.int (60 - r1)))) = _)
  have g4 : Gen p (upd H3 d (.dK (putK (putK kvs8 (Sum.inr "number") (.int 999999)) (Sum.inr "rows") (.int (60 - r1))))) := by
    obtain ⟨n, z, r⟩ := e3.gen
    exact ⟨n, by rw [upd_ne (Ne.symm dp)]; exact z, r⟩
  have z4 : ∃ sz, SzN 10 (upd H3 d (.dK (putK (putK kvs8 (Sum.inr "number") (.int 999999)) (Sum.inr "rows") (.int (60 - r1))))) d sz ∧ Near 0 sz := by
    refine ⟨fun k => if k = "rows" then 60 - r1 else hiOf k, ⟨_, upd_same, by omega, fun k hk => ?_⟩, fun k hk => ?_⟩
    · rw [valV_put, valV_put]
      show _ = some (V.int (if k = "rows" then 60 - r1 else hiOf k))
      by_cases e1 : k = "rows"
      · subst e1; rw [if_pos rfl, if_pos rfl]
      · rw [if_neg (by intro z; injection z with z; exact e1 z), if_neg e1]
        by_cases e2 : k = "number"
        · subst e2
          rw [if_pos rfl]
          have : hiOf "number" = 999999 := by decide +kernel
          rw [this]
        · rw [if_neg (by intro z; injection z with z; exact e2 z)]
          exact kvs8_at k hk e2 e1
    · show loOf k - 0 ≤ (if k = "rows" then 60 - r1 else hiOf k) ∧ (if k = "rows" then 60 - r1 else hiOf k) ≤ hiOf k + 0
      by_cases e1 : k = "rows"
      · subst e1
        have b1 : loOf "rows" = 59 := by decide +kernel
        have b2 : hiOf "rows" = 60 := by decide +kernel
        rw [if_pos rfl, b1, b2]
        omega
      · rw [if_neg e1]
        unfold loOf
        rw [if_neg e1]
        omega
  generalize upd H3 d (.dK (putK (putK kvs8 (Sum.inr "number") (.int 999999)) (Sum.inr "rows") (.int (60 - r1)))) = H4 at s04 g4 z4
  obtain ⟨sz0, hz0, hn0'⟩ := z4
  have mono : ∀ {i j : Int} {sz : Str → Int}, i ≤ j → Near i sz → Near j sz := fun h n k hk => by have := n k hk; omega
  have szE : ∀ {m : Nat} {H2 H3 : Hp} {sz : Str → Int}, SzN m H2 d sz → Ext p H2 H3 → SzN m H3 d sz := fun ⟨kvs, z1, z2, z3⟩ e => ⟨kvs, e.but d _ dp z1, z2, z3⟩
  refine ⟨_, rfl, p, 2, rfl, g4, by decide, fun r2 H5 _ _ e5 => ⟨rfl, _, rfl, ite2 (fun c => ?_) (fun c => ?_)⟩⟩
  · exact ⟨_, rfl, q d sz0 H5 (keepP s04 e5) ⟨10, szE hz0 e5⟩ (mono (by decide) hn0')⟩
  refine ⟨(by show 10 ≤ sizeLine; omega), fun wl hwl => ?_⟩
  have s6 := same_of_new hwl (.lst [.str "box", .str "list", .str "thing", .str "function", .str "name", .str "deep", .str "row", .str "sign", .str "number", .str "rows"])
  have h6 : upd H5 wl (.lst [.str "box", .str "list", .str "thing", .str "function", .str "name", .str "deep", .str "row", .str "sign", .str "number", .str "rows"]) wl = some (.lst (ten.map V.str)) := upd_same
  generalize upd H5 wl (.lst [.str "box", .str "list", .str "thing", .str "function", .str "name", .str "deep", .str "row", .str "sign", .str "number", .str "rows"]) = H6 at s6 h6
  have s06 := (keepP s04 e5).trans s6
  have g6 := e5.gen.same s6
  have hz6 : SzN 10 H6 d sz0 := by
    obtain ⟨kvs, z1, z2, z3⟩ := szE hz0 e5
    exact ⟨kvs, s6 _ _ z1, z2, z3⟩
  have wp : wl ≠ p := g6.neS h6 strs_ne
  have wd : wl ≠ d := fun z => by
    obtain ⟨kvs, z1, _⟩ := hz6
    rw [z, z1] at h6
    cases h6
  refine ⟨_, rfl, p, 2, rfl, g6, by decide, fun r3 H7 hr3 hr4 e7 => ⟨_, _, rfl, rfl, 1 + r3, rfl, by omega, by omega, ?_⟩⟩
  refine for_range (n := (1 + r3).toNat) (fun i σ H' => ∃ (x4 x5 : Option V) (sz : Str → Int), σ = [some (.ref a), some (.ref p), some (.ref d), some (.ref wl), x4, x5] ∧ Same H H' ∧ Gen p H' ∧ H' wl = some (.lst (ten.map V.str)) ∧ SzN (10 + i) H' d sz ∧ Near (i : Int) sz) ?_ ?_ ?_
  · exact ⟨_, _, sz0, rfl, keepP s06 e7, e7.gen, e7.but wl _ wp h6, szE hz6 e7, hn0'⟩
  · rintro i σ H' hi ⟨x4, x5, sz, rfl, sH, gH, hw, hz, hn⟩
    refine ⟨_, rfl, _, rfl, p, 10, rfl, gH, by decide, fun r5 H8 hr5 hr6 e8 => ?_⟩
    obtain ⟨v, ev, hv⟩ := at_mem (xs := ten.map V.str) hr5 (by show r5 < 10; exact hr6)
    obtain ⟨wd', hwd, rfl⟩ := List.mem_map.mp hv
    have hw8 := e8.but wl _ wp hw
    refine ⟨wl, _, _, _, rfl, rfl, SqL.of hw8, ev, ?_⟩
    obtain ⟨kvs, z1, z2, z3⟩ := szE hz e8
    refine ⟨_, rfl, _, rfl, d, _, rfl, (by rw [← z3 wd' hwd]; exact DGet.k (k := Sum.inr wd') z1), _, _, rfl, rfl, ?_⟩
    refine ⟨_, rfl, p, 5, rfl, e8.gen, by decide, fun r7 H9 hr7 hr8 e9 => ?_⟩
    have hq : 0 ≤ r7 / 4 ∧ r7 / 4 ≤ 1 := by omega
    refine ⟨_, 4, rfl, rfl, ⟨by decide, by decide⟩, 2, _, rfl, rfl, .inl ⟨by decide, by decide⟩, _, _, rfl, rfl, ?_⟩
    have z19 := e9.but d _ dp z1
    refine ⟨_, rfl, _, rfl, d, _, rfl, DPut.k (k := Sum.inr wd') (v := .int (sz wd' + 1 - 2 * (r7 / 4))) z19 (by omega), ?_⟩
    have lp := length_putK kvs (Sum.inr wd') (V.int (sz wd' + 1 - 2 * (r7 / 4)))
    refine ⟨_, _, fun k => if k = wd' then sz wd' + 1 - 2 * (r7 / 4) else sz k, rfl, keepD (keepP (keepP sH e8) e9) rfl, ?_, ?_, ⟨_, upd_same, ?_, fun k hk => ?_⟩, fun k hk => ?_⟩
    · obtain ⟨n, z, r⟩ := e9.gen
      exact ⟨n, by rw [upd_ne (Ne.symm dp)]; exact z, r⟩
    · rw [upd_ne wd]
      exact e9.but wl _ wp hw8
    · omega
    · show valV (putK kvs (Sum.inr wd') (V.int (sz wd' + 1 - 2 * (r7 / 4)))) (Sum.inr k) = some (V.int (if k = wd' then sz wd' + 1 - 2 * (r7 / 4) else sz k))
      rw [valV_put]
      by_cases e : k = wd'
      · rw [if_pos (by rw [e]), if_pos e]
      · rw [if_neg (by intro z; injection z with z; exact e z), if_neg e]
        exact z3 k hk
    · show loOf k - ((i + 1 : Nat) : Int) ≤ (if k = wd' then sz wd' + 1 - 2 * (r7 / 4) else sz k) ∧ (if k = wd' then sz wd' + 1 - 2 * (r7 / 4) else sz k) ≤ hiOf k + ((i + 1 : Nat) : Int)
      have a1 := hn k hk
      by_cases e : k = wd'
      · rw [if_pos e]
        rw [e] at a1 ⊢
        omega
      · rw [if_neg e]
        omega
  · rintro σ H' ⟨x4, x5, sz, rfl, sH, gH, hw, hz, hn⟩
    exact ⟨_, rfl, q d sz H' sH ⟨_, hz⟩ (mono (by omega) hn)⟩
end
end K05

set_option Elab.async false
set_option linter.all false
set_option maxRecDepth 100000
set_option maxHeartbeats 4000000
namespace K05
open PySem L2
seal L2.PE L2.PS L2.PSs L2.PT L2.PW L2.PA L2.PG L2.PGs L2.PI L2.PO L2.PIfs L2.PC L2.OpR L2.CallR L2.IxR L2.SlR L2.PSet L2.UnR
theorem SzAt.get {H : Hp} {d : Addr} {sz : Str → Int} (h : SzAt H d sz) {k : Str} (hk : k ∈ ten) : DGet H d (.str k) (some (.int (sz k))) := by
  obtain ⟨m, kvs, h1, _, h3⟩ := h
  rw [← h3 k hk]
  exact DGet.k (k := Sum.inr k) h1
theorem SzAt.same {H H' : Hp} {d : Addr} {sz : Str → Int} (h : SzAt H d sz) (s : Same H H') : SzAt H' d sz := by
  obtain ⟨m, kvs, h1, h2, h3⟩ := h
  exact ⟨m, kvs, s _ _ h1, h2, h3⟩
/-- what is due -/
def dueOf (sz : Str → Int) : Str :=
  if 6 < sz "box" ∨ 3 < sz "list" ∨ 12 < sz "thing" then "program" else if 4 < sz "function" ∨ 3 < sz "name" then "program" else if 6 < sz "sign" ∨ 999999 < sz "number" then "program" else
  if 4 < sz "deep" ∨ 5 < sz "row" then "row" else if 60 < sz "rows" then "long" else ""
/-- a value of n pluses -/
inductive VN (H : Hp) : Nat → V → Prop
  | zero {a : Addr} : H a = some (.tup [.str "number", .int 1]) → VN H 0 (.ref a)
  | succ {n : Nat} {a b : Addr} {v : V} : H a = some (.tup [.str "plus", v, .ref b]) → VN H n v → H b = some (.tup [.str "number", .int 0]) → VN H (n + 1) (.ref a)
theorem VN.same {H H' : Hp} (s : Same H H') : ∀ {n : Nat} {v : V}, VN H n v → VN H' n v
  | _, _, .zero h => .zero (s _ _ h)
  | _, _, .succ h1 h2 h3 => .succ (s _ _ h1) (h2.same s) (s _ _ h3)
section
variable {P : Program} {w : World} {K : PySem.W.Frag} {mg : Str → Option Value} {base : Heap}
theorem sc_value : FnScope ["_law_sizes_here", "_law_value_here", "_law_k"] ["_law_sizes_here"] (defScope (top 63)) := ⟨rfl, rfl, rfl, by decide +kernel, rfl, by decide +kernel, by decide +kernel⟩
def spLValue : Sp := fun vs H Q _ => ∃ (d : Addr) (sz : Str → Int), vs = [.ref d] ∧ SzAt H d sz ∧ Near 2 sz ∧ ∀ (v : V) (H' : Hp), Same H H' → VN H' (sz "deep" - 1).toNat v → Q v H'
theorem d_lvalue (T : Txt w K mg) (S : Src K mg "_law_value" (top 63) ["_law_sizes_here"]) : Def P w K mg base 1 "_law_value" ["_law_sizes_here"] spLValue := by
  refine S.ok sc_value (fun vs H Q E h => ?_) (fun f cdv A outer s H vs Q E hr h => ?_)
  · obtain ⟨d, sz, rfl, _⟩ := h; rfl
  obtain ⟨d, sz, rfl, hz, hn, q⟩ := h
  refine ⟨_, (pss_cons (ps_set (i := 1) sc_value.nd rfl (Or.inl rfl) (pe_tup (pa_const [.str "number", .int 1] (by rfl))))
      (pss_cons (ps_for PassesOwn.never rfl (pi_range1 rfl T.z_range (pac (pe_op op_sub (pe_dget (hu_of hr) (pv 0) pe_str (fun _ _ => rfl)) pe_int) pa_nil)) (pg_name (i := 2) sc_value.nd rfl (Or.inl rfl))
      (pss_one (ps_set (i := 1) sc_value.nd rfl (Or.inl rfl) (pe_tup (pac pe_str (pac (pv 1) (pac (pe_tup (pa_const [.str "number", .int 0] (by rfl))) pa_nil)))))))
      (pss_one (ps_ret (pv 1))))), ?_⟩
  have l3 : (100000 : Nat) < sizeLine := by rw [sizeLine_eq]; decide
  have hdp := hn "deep" (by decide +kernel)
  have b1 : loOf "deep" = 4 := by decide +kernel
  have b2 : hiOf "deep" = 4 := by decide +kernel
  rw [b1, b2] at hdp
  refine ⟨(by show 2 ≤ sizeLine; omega), fun v0 h0 => ?_⟩
  have s0 := same_of_new h0 (.tup [.str "number", .int 1])
  refine ⟨_, rfl, d, _, rfl, (hz.same s0).get (by decide +kernel), _, _, rfl, rfl, sz "deep" - 1, rfl, by omega, by omega, ?_⟩
  refine for_range (n := (sz "deep" - 1).toNat) (fun i σ H' => ∃ (v : V) (x2 : Option V), σ = [some (.ref d), some v, x2] ∧ Same H H' ∧ VN H' i v) ?_ ?_ ?_
  · exact ⟨_, _, rfl, s0, .zero upd_same⟩
  · rintro i σ H' hi ⟨v, x2, rfl, s1, hv⟩
    refine ⟨_, rfl, (by show 2 ≤ sizeLine; omega), fun u hu => ⟨(by show 3 ≤ sizeLine; omega), fun t ht => ?_⟩⟩
    have s2 := same_of_new hu (.tup [.str "number", .int 0])
    have s3 := same_of_new ht (.tup [.str "plus", v, .ref u])
    exact ⟨_, _, rfl, s1.trans (s2.trans s3), .succ upd_same (hv.same (s2.trans s3)) (s3 _ _ upd_same)⟩
  · rintro σ H' ⟨v, x2, rfl, s1, hv⟩
    exact ⟨_, rfl, q v H' s1 hv⟩
theorem sc_due : FnScope ["_law_sizes_here"] ["_law_sizes_here"] (defScope (top 66)) := ⟨rfl, rfl, rfl, by decide +kernel, rfl, by decide +kernel, by decide +kernel⟩
def spDue : Sp := fun vs H Q _ => ∃ (d : Addr) (sz : Str → Int), vs = [.ref d] ∧ SzAt H d sz ∧ ∀ (H' : Hp), Same H H' → Q (.str (dueOf sz)) H'
theorem d_due (T : Txt w K mg) (S : Src K mg "_law_due" (top 66) ["_law_sizes_here"]) : Def P w K mg base 1 "_law_due" ["_law_sizes_here"] spDue := by
  refine S.ok sc_due (fun vs H Q E h => ?_) (fun f cdv A outer s H vs Q E hr h => ?_)
  · obtain ⟨d, sz, rfl, _⟩ := h; rfl
  obtain ⟨d, sz, rfl, hz, q⟩ := h
  refine ⟨_, (pss_cons (ps_if (pt_cut (PW.pt (pw_or (pt_cmpR op_gt (pe_dget (hu_of hr) (pv 0) pe_str (fun _ _ => rfl)) pe_int (nomark _)) (pw_or (pt_cmpR op_gt (pe_dget (hu_of hr) (pv 0) pe_str (fun _ _ => rfl)) pe_int (nomark _)) (pw_or1 (pt_cmpR op_gt (pe_dget (hu_of hr) (pv 0) pe_str (fun _ _ => rfl)) pe_int (nomark _)))))))
      (pss_one (ps_ret pe_str)) pss_nil)
      (pss_cons (ps_if (pt_cut (PW.pt (pw_or (pt_cmpR op_gt (pe_dget (hu_of hr) (pv 0) pe_str (fun _ _ => rfl)) pe_int (nomark _)) (pw_or1 (pt_cmpR op_gt (pe_dget (hu_of hr) (pv 0) pe_str (fun _ _ => rfl)) pe_int (nomark _))))))
      (pss_one (ps_ret pe_str)) pss_nil)
      (pss_cons (ps_if (pt_cut (PW.pt (pw_or (pt_cmpR op_gt (pe_dget (hu_of hr) (pv 0) pe_str (fun _ _ => rfl)) pe_int (nomark _)) (pw_or1 (pt_cmpR op_gt (pe_dget (hu_of hr) (pv 0) pe_str (fun _ _ => rfl)) pe_int (nomark _))))))
      (pss_one (ps_ret pe_str)) pss_nil)
      (pss_cons (ps_if (pt_cut (PW.pt (pw_or (pt_cmpR op_gt (pe_dget (hu_of hr) (pv 0) pe_str (fun _ _ => rfl)) pe_int (nomark _)) (pw_or1 (pt_cmpR op_gt (pe_dget (hu_of hr) (pv 0) pe_str (fun _ _ => rfl)) pe_int (nomark _))))))
      (pss_one (ps_ret pe_str)) pss_nil)
      (pss_one (ps_ret (pe_ix ix_list (pe_lst (pa_const [.str "", .str "long"] (by rfl))) (pe_cT call_int1 rfl T.z_int bt_int (pac (pe_cmpR op_gt (pe_dget (hu_of hr) (pv 0) pe_str (fun _ _ => rfl)) pe_int (nomark _)) pa_nil)) (fun _ _ => rfl)))))))), ?_⟩
  have l3 : (100000 : Nat) < sizeLine := by rw [sizeLine_eq]; decide
  have g : ∀ k, k ∈ ten → DGet H d (.str k) (some (.int (sz k))) := fun k hk => hz.get hk
  unfold dueOf at q
  refine ⟨fun t H' => H = H' ∧ t = decide (6 < sz "box" ∨ 3 < sz "list" ∨ 12 < sz "thing"), ?_, ?_⟩
  · refine ⟨_, rfl, d, _, rfl, g _ (by decide +kernel), _, _, rfl, rfl, _, rfl, ite2 (fun c => ?_) (fun c => ?_)⟩
    · exact ⟨rfl, (decide_eq_true (.inl (of_decide_eq_true c))).symm⟩
    have c' := of_decide_eq_false (Bool.eq_false_iff.mpr c)
    refine ⟨_, rfl, d, _, rfl, g _ (by decide +kernel), _, _, rfl, rfl, _, rfl, ite2 (fun e => ?_) (fun e => ?_)⟩
    · exact ⟨rfl, (decide_eq_true (.inr (.inl (of_decide_eq_true e)))).symm⟩
    have e' := of_decide_eq_false (Bool.eq_false_iff.mpr e)
    refine ⟨_, rfl, d, _, rfl, g _ (by decide +kernel), _, _, rfl, rfl, _, rfl, rfl, ?_⟩
    exact decide_eq_decide.mpr ⟨fun h => .inr (.inr h), fun h => by rcases h with h | h | h <;> first | exact h | exact absurd h c' | exact absurd h e'⟩
  rintro t H' ⟨rfl, rfl⟩
  by_cases c1 : 6 < sz "box" ∨ 3 < sz "list" ∨ 12 < sz "thing"
  · rw [if_pos c1] at q
    exact ifT (decide_eq_true c1) (q H (Same.refl H))
  refine ifF (decide_eq_false c1) ?_
  rw [if_neg c1] at q
  have two : ∀ {a b : Int} {x y : Int} {R : Bool → Hp → Prop}, R (decide (a < x ∨ b < y)) H → (if decide (a < x) = true then R true H else R (decide (b < y)) H) := fun {a b x y R} h => by
    by_cases c : a < x
    · rw [decide_eq_true c, if_pos rfl]
      rw [decide_eq_true (.inl c)] at h
      exact h
    · rw [decide_eq_false c, if_neg Bool.false_ne_true]
      have e : decide (a < x ∨ b < y) = decide (b < y) := decide_eq_decide.mpr ⟨fun z => z.elim (fun w => absurd w c) id, .inr⟩
      rw [e] at h
      exact h
  refine ⟨fun t H' => H = H' ∧ t = decide (4 < sz "function" ∨ 3 < sz "name"), ?_, ?_⟩
  · refine ⟨_, rfl, d, _, rfl, g _ (by decide +kernel), _, _, rfl, rfl, _, rfl, ite2 (fun c => ?_) (fun c => ?_)⟩
    · exact ⟨rfl, (decide_eq_true (.inl (of_decide_eq_true c))).symm⟩
    have c' := of_decide_eq_false (Bool.eq_false_iff.mpr c)
    refine ⟨_, rfl, d, _, rfl, g _ (by decide +kernel), _, _, rfl, rfl, _, rfl, rfl, ?_⟩
    exact decide_eq_decide.mpr ⟨fun h => .inr h, fun h => by rcases h with h | h <;> first | exact h | exact absurd h c'⟩
  rintro t H' ⟨rfl, rfl⟩
  by_cases c2 : 4 < sz "function" ∨ 3 < sz "name"
  · rw [if_pos c2] at q
    exact ifT (decide_eq_true c2) (q H (Same.refl H))
  refine ifF (decide_eq_false c2) ?_
  rw [if_neg c2] at q
  refine ⟨fun t H' => H = H' ∧ t = decide (6 < sz "sign" ∨ 999999 < sz "number"), ?_, ?_⟩
  · refine ⟨_, rfl, d, _, rfl, g _ (by decide +kernel), _, _, rfl, rfl, _, rfl, ite2 (fun c => ?_) (fun c => ?_)⟩
    · exact ⟨rfl, (decide_eq_true (.inl (of_decide_eq_true c))).symm⟩
    have c' := of_decide_eq_false (Bool.eq_false_iff.mpr c)
    refine ⟨_, rfl, d, _, rfl, g _ (by decide +kernel), _, _, rfl, rfl, _, rfl, rfl, ?_⟩
    exact decide_eq_decide.mpr ⟨fun h => .inr h, fun h => by rcases h with h | h <;> first | exact h | exact absurd h c'⟩
  rintro t H' ⟨rfl, rfl⟩
  by_cases c3 : 6 < sz "sign" ∨ 999999 < sz "number"
  · rw [if_pos c3] at q
    exact ifT (decide_eq_true c3) (q H (Same.refl H))
  refine ifF (decide_eq_false c3) ?_
  rw [if_neg c3] at q
  refine ⟨fun t H' => H = H' ∧ t = decide (4 < sz "deep" ∨ 5 < sz "row"), ?_, ?_⟩
  · refine ⟨_, rfl, d, _, rfl, g _ (by decide +kernel), _, _, rfl, rfl, _, rfl, ite2 (fun c => ?_) (fun c => ?_)⟩
    · exact ⟨rfl, (decide_eq_true (.inl (of_decide_eq_true c))).symm⟩
    have c' := of_decide_eq_false (Bool.eq_false_iff.mpr c)
    refine ⟨_, rfl, d, _, rfl, g _ (by decide +kernel), _, _, rfl, rfl, _, rfl, rfl, ?_⟩
    exact decide_eq_decide.mpr ⟨fun h => .inr h, fun h => by rcases h with h | h <;> first | exact h | exact absurd h c'⟩
  rintro t H' ⟨rfl, rfl⟩
  by_cases c4 : 4 < sz "deep" ∨ 5 < sz "row"
  · rw [if_pos c4] at q
    exact ifT (decide_eq_true c4) (q H (Same.refl H))
  refine ifF (decide_eq_false c4) ?_
  rw [if_neg c4] at q
  refine ⟨(by show 2 ≤ sizeLine; omega), fun l hl => ?_⟩
  have s1 := same_of_new hl (.lst [.str "", .str "long"])
  refine ⟨_, rfl, d, _, rfl, (hz.same s1).get (by decide +kernel), _, _, rfl, rfl, .inr ⟨_, rfl, ?_⟩⟩
  have z := q _ s1
  by_cases c5 : 60 < sz "rows"
  · rw [if_pos c5] at z
    rw [decide_eq_true c5]
    exact ⟨l, _, 1, _, rfl, rfl, SqL.of upd_same, atI_nat (j := 1) rfl, z⟩
  · rw [if_neg c5] at z
    rw [decide_eq_false c5]
    exact ⟨l, _, 0, _, rfl, rfl, SqL.of upd_same, atI_nat (j := 0) rfl, z⟩
end
end K05

set_option Elab.async false
set_option linter.all false
set_option maxRecDepth 100000
set_option maxHeartbeats 4000000
namespace K05
open PySem L2
seal L2.PE L2.PS L2.PSs L2.PT L2.PW L2.PA L2.PG L2.PGs L2.PI L2.PO L2.PIfs L2.PC L2.OpR L2.CallR L2.IxR L2.SlR L2.PSet L2.UnR
def nameAt (sz : Str → Int) (c : Nat) : Str := Txt.mul ⟨#[c]⟩ (sz "sign")
/-- a row with n rows around the innermost, which tells a value of m pluses -/
inductive RN (H : Hp) (nm : Str) (m : Nat) : Nat → V → Prop
  | tell {a : Addr} {v : V} : H a = some (.tup [.str "tell", v]) → VN H m v → RN H nm m 0 (.ref a)
  | whl {n : Nat} {a b c : Addr} {v : V} : H a = some (.tup [.str "while", .ref b, .ref c]) → H b = some (.tup [.str "number", .int 0]) → H c = some (.tup [v]) → RN H nm m n v → RN H nm m (n + 1) (.ref a)
  | iff {n : Nat} {a b e c : Addr} {v : V} : H a = some (.tup [.str "if", .ref b, .ref e, .ref c]) → H b = some (.tup [.str "number", .int 1]) → H e = some (.tup []) → H c = some (.tup [v]) → RN H nm m n v → RN H nm m (n + 1) (.ref a)
  | try {n : Nat} {a c e : Addr} {v : V} : H a = some (.tup [.str "try", .ref c, .str nm, .ref e]) → H c = some (.tup [v]) → H e = some (.tup []) → RN H nm m n v → RN H nm m (n + 1) (.ref a)
theorem RN.same {H H' : Hp} {nm : Str} {m : Nat} (s : Same H H') : ∀ {n : Nat} {v : V}, RN H nm m n v → RN H' nm m n v
  | _, _, .tell h1 h2 => .tell (s _ _ h1) (h2.same s)
  | _, _, .whl h1 h2 h3 h4 => .whl (s _ _ h1) (s _ _ h2) (s _ _ h3) (h4.same s)
  | _, _, .iff h1 h2 h3 h4 h5 => .iff (s _ _ h1) (s _ _ h2) (s _ _ h3) (s _ _ h4) (h5.same s)
  | _, _, .try h1 h2 h3 h4 => .try (s _ _ h1) (s _ _ h2) (s _ _ h3) (h4.same s)
theorem abc_len : ("abcdefghijklmnop" : Str).cps.toList = [97, 98, 99, 100, 101, 102, 103, 104, 105, 106, 107, 108, 109, 110, 111, 112] := by decide +kernel
section
variable {P : Program} {w : World} {K : PySem.W.Frag} {mg : Str → Option Value} {base : Heap}
theorem sc_name : FnScope ["_law_sizes_here", "_law_k"] ["_law_sizes_here", "_law_k"] (defScope (top 62)) := ⟨rfl, rfl, rfl, by decide +kernel, rfl, by decide +kernel, by decide +kernel⟩
def spLName : Sp := fun vs H Q _ => ∃ (d : Addr) (sz : Str → Int) (k : Nat), vs = [.ref d, .int (k : Int)] ∧ SzAt H d sz ∧ Near 2 sz ∧ k < 16 ∧ Q (.str (nameAt sz (97 + k))) H
theorem d_lname (T : Txt w K mg) (S : Src K mg "_law_name" (top 62) ["_law_sizes_here", "_law_k"]) : Def P w K mg base 1 "_law_name" ["_law_sizes_here", "_law_k"] spLName := by
  refine S.ok sc_name (fun vs H Q E h => ?_) (fun f cdv A outer s H vs Q E hr h => ?_)
  · obtain ⟨d, sz, k, rfl, _⟩ := h; rfl
  obtain ⟨d, sz, k, rfl, hz, hn, hk, q⟩ := h
  refine ⟨_, (pss_one (ps_ret (pe_op op_repS (pe_ix ix_str pe_str (pv 1) (fun _ _ => rfl)) (pe_dget (hu_of hr) (pv 0) pe_str (fun _ _ => rfl))))), ?_⟩
  have l3 : (100000 : Nat) < sizeLine := by rw [sizeLine_eq]; decide
  have hs := hn "sign" (by decide +kernel)
  have b1 : loOf "sign" = 6 := by decide +kernel
  have b2 : hiOf "sign" = 6 := by decide +kernel
  rw [b1, b2] at hs
  have la : ("abcdefghijklmnop" : Str).length = 16 := by decide +kernel
  have ha : atI ("abcdefghijklmnop" : Str).cps.toList (k : Int) = some (97 + k) := by
    rw [abc_len]
    refine atI_nat (j := k) ?_
    have : ∀ j, j < 16 → [97, 98, 99, 100, 101, 102, 103, 104, 105, 106, 107, 108, 109, 110, 111, 112][j]? = some (97 + j) := by decide
    exact this k hk
  refine ⟨_, rfl, _, _, _, rfl, rfl, by omega, ha, ?_⟩
  refine ⟨_, rfl, d, _, rfl, hz.get (by decide +kernel), _, _, rfl, rfl, by omega, by omega, ?_, q⟩
  show (1 : Nat) ≤ 1000
  decide
theorem sc_lrow : FnScope ["_law_sizes_here", "_law_row_here", "_law_k", "_law_some"] ["_law_sizes_here"] (defScope (top 64)) := ⟨rfl, rfl, rfl, by decide +kernel, rfl, by decide +kernel, by decide +kernel⟩
def spLRow : Sp := fun vs H Q _ => ∃ (d : Addr) (sz : Str → Int), vs = [.ref d] ∧ SzAt H d sz ∧ Near 2 sz ∧ ∀ (v : V) (H' : Hp), Same H H' → RN H' (nameAt sz 97) (sz "deep" - 1).toNat (sz "row" - 1).toNat v → Q v H'
theorem d_lrow (T : Txt w K mg) (D_value : Def P w K mg base 1 "_law_value" ["_law_sizes_here"] spLValue) (D_name : Def P w K mg base 1 "_law_name" ["_law_sizes_here", "_law_k"] spLName) (S : Src K mg "_law_row" (top 64) ["_law_sizes_here"]) : Def P w K mg base 2 "_law_row" ["_law_sizes_here"] spLRow := by
  refine S.ok sc_lrow (fun vs H Q E h => ?_) (fun f cdv A outer s H vs Q E hr h => ?_)
  · obtain ⟨d, sz, rfl, _⟩ := h; rfl
  obtain ⟨d, sz, rfl, hz, hn, q⟩ := h
  refine ⟨_, (pss_cons (ps_set (i := 1) sc_lrow.nd rfl (Or.inl rfl) (pe_tup (pac pe_str (pac (pe_def (D_value.mono (by decide)) hr rfl (pac (pv 0) pa_nil)) pa_nil))))
      (pss_cons (ps_for PassesOwn.never rfl (pi_range1 rfl T.z_range (pac (pe_op op_sub (pe_dget (hu_of hr) (pv 0) pe_str (fun _ _ => rfl)) pe_int) pa_nil)) (pg_name (i := 2) sc_lrow.nd rfl (Or.inl rfl))
      (pss_cons (ps_set (i := 3) sc_lrow.nd rfl (Or.inl rfl) (pe_lst (pac (pe_tup (pac pe_str (pac (pe_tup (pa_const [.str "number", .int 0] (by rfl))) (pac (pe_tup (pac (pv 1) pa_nil)) pa_nil)))) (pac (pe_tup (pac pe_str (pac (pe_tup (pa_const [.str "number", .int 1] (by rfl))) (pac (pe_tup pa_nil) (pac (pe_tup (pac (pv 1) pa_nil)) pa_nil))))) pa_nil))))
      (pss_one (ps_set (i := 1) sc_lrow.nd rfl (Or.inl rfl) (pe_ix ix_list (pe_op op_cat (pv 3) (pe_lst (pac (pe_tup (pac pe_str (pac (pe_tup (pac (pv 1) pa_nil)) (pac (pe_def (D_name.mono (by decide)) hr rfl (pac (pv 0) (pac pe_int pa_nil))) (pac (pe_tup pa_nil) pa_nil))))) pa_nil))) (pe_op op_mod (pv 2) pe_int) (fun _ _ => rfl))))))
      (pss_one (ps_ret (pv 1))))), ?_⟩
  have l3 : (100000 : Nat) < sizeLine := by rw [sizeLine_eq]; decide
  have hrw := hn "row" (by decide +kernel)
  have b1 : loOf "row" = 5 := by decide +kernel
  have b2 : hiOf "row" = 5 := by decide +kernel
  rw [b1, b2] at hrw
  refine ⟨_, rfl, d, sz, rfl, hz, hn, fun v0 H0 s0 hv0 => ⟨(by show 2 ≤ sizeLine; omega), fun t0 ht0 => ?_⟩⟩
  have s1 := same_of_new ht0 (.tup [.str "tell", v0])
  have s01 := s0.trans s1
  refine ⟨_, rfl, d, _, rfl, (hz.same s01).get (by decide +kernel), _, _, rfl, rfl, sz "row" - 1, rfl, by omega, by omega, ?_⟩
  refine for_range (n := (sz "row" - 1).toNat) (fun i σ H' => ∃ (v : V) (x2 x3 : Option V), σ = [some (.ref d), some v, x2, x3] ∧ Same H H' ∧ RN H' (nameAt sz 97) (sz "deep" - 1).toNat i v) ?_ ?_ ?_
  · exact ⟨_, _, _, rfl, s01, .tell upd_same (hv0.same s1)⟩
  · rintro i σ H1 hi ⟨v, x2, x3, rfl, sA, hv⟩
    refine ⟨(by show 2 ≤ sizeLine; omega), fun z0 hz0 => ?_⟩
    refine ⟨_, rfl, (by show 1 ≤ sizeLine; omega), fun w0 hw0 => ⟨(by show 3 ≤ sizeLine; omega), fun a0 ha0 => ?_⟩⟩
    have sz0 := same_of_new hz0 (.tup [.str "number", .int 0])
    have sw0 := same_of_new hw0 (.tup [v])
    have sa0 := same_of_new ha0 (.tup [.str "while", .ref z0, .ref w0])
    have sB := sz0.trans (sw0.trans sa0)
    have r0 : RN _ (nameAt sz 97) (sz "deep" - 1).toNat (i + 1) (.ref a0) := .whl upd_same (sa0 _ _ (sw0 _ _ upd_same)) (sa0 _ _ upd_same) (hv.same sB)
    generalize upd (upd (upd H1 z0 (.tup [.str "number", .int 0])) w0 (.tup [v])) a0 (.tup [.str "while", .ref z0, .ref w0]) = H2 at sB r0
    clear sz0 sw0 sa0
    refine ⟨(by show 2 ≤ sizeLine; omega), fun z1 hz1 => ⟨(by show 0 ≤ sizeLine; omega), fun e1 he1 => ?_⟩⟩
    refine ⟨_, rfl, (by show 1 ≤ sizeLine; omega), fun w1 hw1 => ⟨(by show 4 ≤ sizeLine; omega), fun a1 ha1 => ?_⟩⟩
    have sz1 := same_of_new hz1 (.tup [.str "number", .int 1])
    have se1 := same_of_new he1 (.tup [])
    have sw1 := same_of_new hw1 (.tup [v])
    have sa1 := same_of_new ha1 (.tup [.str "if", .ref z1, .ref e1, .ref w1])
    have sC := sz1.trans (se1.trans (sw1.trans sa1))
    have r1 : RN _ (nameAt sz 97) (sz "deep" - 1).toNat (i + 1) (.ref a1) := .iff upd_same (sa1 _ _ (sw1 _ _ (se1 _ _ upd_same))) (sa1 _ _ (sw1 _ _ upd_same)) (sa1 _ _ upd_same) (hv.same (sB.trans sC))
    generalize upd (upd (upd (upd H2 z1 (.tup [.str "number", .int 1])) e1 (.tup [])) w1 (.tup [v])) a1 (.tup [.str "if", .ref z1, .ref e1, .ref w1]) = H3 at sC r1
    clear sz1 se1 sw1 sa1
    refine ⟨(by show 2 ≤ sizeLine; omega), fun l hl => ?_⟩
    have sl := same_of_new hl (.lst [.ref a0, .ref a1])
    have hl3 : upd H3 l (.lst [.ref a0, .ref a1]) l = some (.lst [.ref a0, .ref a1]) := upd_same
    generalize upd H3 l (.lst [.ref a0, .ref a1]) = H4 at sl hl3
    have sA4 := sA.trans (sB.trans (sC.trans sl))
    refine ⟨_, rfl, _, rfl, (by show 1 ≤ sizeLine; omega), fun w2 hw2 => ?_⟩
    have sw2 := same_of_new hw2 (.tup [v])
    refine ⟨_, rfl, d, sz, 0, rfl, hz.same (sA4.trans sw2), hn, by decide, ?_⟩
    refine ⟨(by show 0 ≤ sizeLine; omega), fun e2 he2 => ⟨(by show 4 ≤ sizeLine; omega), fun a2 ha2 => ?_⟩⟩
    have se2 := same_of_new he2 (.tup [])
    have sa2 := same_of_new ha2 (.tup [.str "try", .ref w2, .str (nameAt sz (97 + 0)), .ref e2])
    have sD := sw2.trans (se2.trans sa2)
    have r2 : RN _ (nameAt sz 97) (sz "deep" - 1).toNat (i + 1) (.ref a2) := .try upd_same (sa2 _ _ (se2 _ _ upd_same)) (sa2 _ _ upd_same) (hv.same (sB.trans (sC.trans (sl.trans sD))))
    generalize upd (upd (upd H4 w2 (.tup [v])) e2 (.tup [])) a2 (.tup [.str "try", .ref w2, .str (nameAt sz (97 + 0)), .ref e2]) = H5 at sD r2
    clear sw2 se2 sa2
    refine ⟨(by show 1 ≤ sizeLine; omega), fun l2 hl2 => ?_⟩
    have sl2 := same_of_new hl2 (.lst [.ref a2])
    refine ⟨l, l2, _, _, rfl, rfl, sl2 _ _ (sD _ _ hl3), upd_same, (by show 2 + 1 ≤ sizeLine; omega), fun l4 hl4 => ?_⟩
    have sl4 := same_of_new hl4 (.lst ([.ref a0, .ref a1] ++ [.ref a2]))
    have hl4' : upd (upd H5 l2 (.lst [.ref a2])) l4 (.lst ([.ref a0, .ref a1] ++ [.ref a2])) l4 = some (.lst [.ref a0, .ref a1, .ref a2]) := upd_same
    have sE := sl2.trans sl4
    generalize upd (upd H5 l2 (.lst [.ref a2])) l4 (.lst ([.ref a0, .ref a1] ++ [.ref a2])) = H6 at sE hl4'
    have sF := sA4.trans (sD.trans sE)
    have q0 := r0.same (sC.trans (sl.trans (sD.trans sE)))
    have q1 := r1.same (sl.trans (sD.trans sE))
    have q2 := r2.same sE
    refine ⟨_, rfl, _, _, rfl, rfl, (by show (0 : Int) < 3; decide), ?_⟩
    have hm : (0 + (i : Int)) % 3 = ((i % 3 : Nat) : Int) := by omega
    have hj : i % 3 = 0 ∨ i % 3 = 1 ∨ i % 3 = 2 := by omega
    rcases hj with h | h | h
    · exact ⟨l4, _, 0, _, rfl, (by show V.int ((0 + (i : Int)) % 3) = V.int 0; rw [hm, h]; rfl), SqL.of hl4', atI_nat (j := 0) rfl, _, _, _, rfl, sF, q0⟩
    · exact ⟨l4, _, 1, _, rfl, (by show V.int ((0 + (i : Int)) % 3) = V.int 1; rw [hm, h]; rfl), SqL.of hl4', atI_nat (j := 1) rfl, _, _, _, rfl, sF, q1⟩
    · exact ⟨l4, _, 2, _, rfl, (by show V.int ((0 + (i : Int)) % 3) = V.int 2; rw [hm, h]; rfl), SqL.of hl4', atI_nat (j := 2) rfl, _, _, _, rfl, sF, q2⟩
  · rintro σ H' ⟨v, x2, x3, rfl, sA, hv⟩
    exact ⟨_, rfl, q v H' sA hv⟩
end
end K05

set_option Elab.async false
set_option linter.all false
set_option maxRecDepth 100000
set_option maxHeartbeats 4000000
namespace K05
open PySem L2
/-! ### what is_value, is_row and the count say of the drawn rows -/
theorem isVal_num {H : Hp} {bs ls : List Str} {k : Nat} {a : Addr} {i : Int} (h : H a = some (.tup [.str "number", .int i])) (hi : numV (.int i) = true) : isVal H bs ls k (.ref a) = decide (0 < k) := by
  cases k with
  | zero => rfl
  | succ k =>
    rw [isVal_cons h]
    have e : forms "number" = some (["number"] : List Str) := rfl
    rw [e]
    show (decide (1 = 1) && ([(("number" : Str), V.int i)].all fun p => isPt bs ls (isVal H bs ls k) p.1 p.2)) = _
    rw [List.all_cons, List.all_nil]
    show (true && (isPt bs ls (isVal H bs ls k) "number" (.int i) && true)) = _
    unfold isPt
    rw [if_pos rfl, hi]
    exact (decide_eq_true (by omega)).symm
theorem isVal_VN {H : Hp} {bs ls : List Str} : ∀ {n k : Nat} {v : V}, VN H n v → isVal H bs ls k v = decide (n < k)
  | _, k, _, .zero h => isVal_num h rfl
  | n + 1, k, _, .succ (b := b) (v := v) h1 h2 h3 => by
    cases k with
    | zero => rfl
    | succ k =>
      rw [isVal_cons h1]
      have e : forms "plus" = some (["value", "value"] : List Str) := rfl
      rw [e]
      show (decide (2 = 2) && ([(("value" : Str), v), (("value" : Str), V.ref b)].all fun p => isPt bs ls (isVal H bs ls k) p.1 p.2)) = _
      rw [List.all_cons, List.all_cons, List.all_nil]
      have e1 : ∀ u : V, isPt bs ls (isVal H bs ls k) "value" u = isVal H bs ls k u := fun u => by
        unfold isPt
        rw [if_neg (by decide), if_neg (by decide), if_neg (by decide)]
      show (true && (isPt bs ls (isVal H bs ls k) "value" v && (isPt bs ls (isVal H bs ls k) "value" (.ref b) && true))) = _
      rw [e1, e1, isVal_VN h2, isVal_num h3 rfl, Bool.true_and, Bool.and_true]
      by_cases c : n < k
      · rw [decide_eq_true c, decide_eq_true (show 0 < k by omega), decide_eq_true (show n + 1 < k + 1 by omega)]; rfl
      · rw [decide_eq_false c, decide_eq_false (show ¬ n + 1 < k + 1 by omega)]; rfl
theorem rowsB_tup {H : Hp} {f : V → Bool} {a : Addr} {xs : List V} (h : H a = some (.tup xs)) : rowsB H f (.ref a) = xs.all f := by
  unfold rowsB
  rw [tupAt_tup h]
section
variable {H : Hp} {bs ls : List Str} {kvs : Kvs} {r : Bool} {rec : V → Bool}
theorem rPt_value {v : V} : rPt H bs ls kvs rec "value" v = isVal H bs ls 4 v := by
  unfold rPt
  rw [if_neg (by decide), if_pos rfl]
theorem rPt_rows {v : V} : rPt H bs ls kvs rec "rows" v = rowsB H rec v := by
  unfold rPt
  rw [if_pos rfl]
theorem rPt_box {v : V} : rPt H bs ls kvs rec "box" v = (nmV v && inN bs v) := by
  unfold rPt
  rw [if_neg (by decide), if_neg (by decide), if_neg (by decide), if_pos rfl]
/-- a row that is neither a return nor a call -/
theorem rBody_plain {x : Str} {ks : List Str} {rest : List V} (hk : rforms x = some ks) (hl : rest.length = ks.length) (h1 : x ≠ "return") (h2 : x ≠ "call") : rBody H bs ls kvs r rec x rest = (ks.zip rest).all fun p => rPt H bs ls kvs rec p.1 p.2 := by
  unfold rBody
  rw [hk]
  dsimp only
  rw [decide_eq_true hl, decide_eq_false h1, decide_eq_false h2]
  simp
theorem isRw_RN {nm : Str} {m : Nat} (hnm : nmS nm = true) (hb : inN bs (.str nm) = true) : ∀ {n k : Nat} {v : V}, RN H nm m n v → isRw H bs ls kvs r k v = (decide (n < k) && decide (m < 4))
  | _, 0, _, h => by simp [isRw]
  | _, k + 1, _, .tell (v := v) h1 h2 => by
    rw [isRw_cons h1, rBody_plain (ks := ["value"]) rfl rfl (by decide) (by decide)]
    show ([(("value" : Str), v)].all fun p => rPt H bs ls kvs (isRw H bs ls kvs r k) p.1 p.2) = _
    rw [List.all_cons, List.all_nil]
    show (rPt H bs ls kvs (isRw H bs ls kvs r k) "value" v && true) = _
    rw [rPt_value, isVal_VN h2, decide_eq_true (show 0 < k + 1 by omega)]
    simp
  | n + 1, k + 1, _, .whl (b := b) (c := c) (v := v) h1 h2 h3 h4 => by
    rw [isRw_cons h1, rBody_plain (ks := ["value", "rows"]) rfl rfl (by decide) (by decide)]
    show ([(("value" : Str), V.ref b), (("rows" : Str), V.ref c)].all fun p => rPt H bs ls kvs (isRw H bs ls kvs r k) p.1 p.2) = _
    rw [List.all_cons, List.all_cons, List.all_nil]
    show (rPt H bs ls kvs (isRw H bs ls kvs r k) "value" (.ref b) && (rPt H bs ls kvs (isRw H bs ls kvs r k) "rows" (.ref c) && true)) = _
    rw [rPt_value, rPt_rows, isVal_num h2 rfl, rowsB_tup h3, List.all_cons, List.all_nil, isRw_RN hnm hb h4]
    have e : decide (n + 1 < k + 1) = decide (n < k) := decide_eq_decide.mpr (by omega)
    rw [e]
    simp
  | n + 1, k + 1, _, .iff (b := b) (e := e) (c := c) (v := v) h1 h2 h3 h4 h5 => by
    rw [isRw_cons h1, rBody_plain (ks := ["value", "rows", "rows"]) rfl rfl (by decide) (by decide)]
    show ([(("value" : Str), V.ref b), (("rows" : Str), V.ref e), (("rows" : Str), V.ref c)].all fun p => rPt H bs ls kvs (isRw H bs ls kvs r k) p.1 p.2) = _
    rw [List.all_cons, List.all_cons, List.all_cons, List.all_nil]
    show (rPt H bs ls kvs (isRw H bs ls kvs r k) "value" (.ref b) && (rPt H bs ls kvs (isRw H bs ls kvs r k) "rows" (.ref e) && (rPt H bs ls kvs (isRw H bs ls kvs r k) "rows" (.ref c) && true))) = _
    rw [rPt_value, rPt_rows, rPt_rows, isVal_num h2 rfl, rowsB_tup h3, rowsB_tup h4, List.all_nil, List.all_cons, List.all_nil, isRw_RN hnm hb h5]
    have e : decide (n + 1 < k + 1) = decide (n < k) := decide_eq_decide.mpr (by omega)
    rw [e]
    simp
  | n + 1, k + 1, _, .try (c := c) (e := e) (v := v) h1 h2 h3 h4 => by
    rw [isRw_cons h1, rBody_plain (ks := ["rows", "box", "rows"]) rfl rfl (by decide) (by decide)]
    show ([(("rows" : Str), V.ref c), (("box" : Str), V.str nm), (("rows" : Str), V.ref e)].all fun p => rPt H bs ls kvs (isRw H bs ls kvs r k) p.1 p.2) = _
    rw [List.all_cons, List.all_cons, List.all_cons, List.all_nil]
    show (rPt H bs ls kvs (isRw H bs ls kvs r k) "rows" (.ref c) && (rPt H bs ls kvs (isRw H bs ls kvs r k) "box" (.str nm) && (rPt H bs ls kvs (isRw H bs ls kvs r k) "rows" (.ref e) && true))) = _
    have hn : nmV (.str nm) = true := hnm
    rw [rPt_rows, rPt_rows, rPt_box, hn, hb, rowsB_tup h2, rowsB_tup h3, List.all_nil, List.all_cons, List.all_nil, isRw_RN hnm hb h4]
    have e : decide (n + 1 < k + 1) = decide (n < k) := decide_eq_decide.mpr (by omega)
    rw [e]
    simp
theorem cnt_RN {nm : Str} {m : Nat} : ∀ {n k : Nat} {v : V}, RN H nm m n v → n < k → cnt H k [v] = n + 1
  | _, 0, _, _, h => absurd h (Nat.not_lt_zero _)
  | _, k + 1, _, .tell (v := v) h1 h2, _ => by
    rw [cnt_cons, cnt_nil, inner_eq h1 (ks := ["value"]) rfl]
    show 1 + cnt H k [] + 0 = _
    rw [cnt_nil]
  | n + 1, k + 1, _, .whl (b := b) (c := c) (v := v) h1 h2 h3 h4, h => by
    rw [cnt_cons, cnt_nil, inner_eq h1 (ks := ["value", "rows"]) rfl]
    show 1 + cnt H k ([V.ref c].flatMap (rowsAt H)) + 0 = _
    rw [List.flatMap_cons, List.flatMap_nil, rowsAt_tup h3]
    show 1 + cnt H k [v] + 0 = _
    rw [cnt_RN h4 (by omega)]
    omega
  | n + 1, k + 1, _, .iff (b := b) (e := e) (c := c) (v := v) h1 h2 h3 h4 h5, h => by
    rw [cnt_cons, cnt_nil, inner_eq h1 (ks := ["value", "rows", "rows"]) rfl]
    show 1 + cnt H k ([V.ref e, V.ref c].flatMap (rowsAt H)) + 0 = _
    rw [List.flatMap_cons, List.flatMap_cons, List.flatMap_nil, rowsAt_tup h3, rowsAt_tup h4]
    show 1 + cnt H k [v] + 0 = _
    rw [cnt_RN h5 (by omega)]
    omega
  | n + 1, k + 1, _, .try (c := c) (e := e) (v := v) h1 h2 h3 h4, h => by
    rw [cnt_cons, cnt_nil, inner_eq h1 (ks := ["rows", "box", "rows"]) rfl]
    show 1 + cnt H k ([V.ref c, V.ref e].flatMap (rowsAt H)) + 0 = _
    rw [List.flatMap_cons, List.flatMap_cons, List.flatMap_nil, rowsAt_tup h2, rowsAt_tup h3]
    show 1 + cnt H k [v] + 0 = _
    rw [cnt_RN h4 (by omega)]
    omega
end
end K05

set_option Elab.async false
set_option linter.all false
set_option maxRecDepth 100000
set_option maxHeartbeats 4000000
namespace K05
open PySem L2
seal L2.PE L2.PS L2.PSs L2.PT L2.PW L2.PA L2.PG L2.PGs L2.PI L2.PO L2.PIfs L2.PC L2.OpR L2.CallR L2.IxR L2.SlR L2.PSet L2.UnR
def Lst (F : Nat → V → Prop) (xs : List V) : Prop := ∀ (i : Nat) (x : V), xs[i]? = some x → F i x
theorem Lst.nil {F : Nat → V → Prop} : Lst F [] := fun i x h => by simp at h
theorem Lst.snoc {F : Nat → V → Prop} {xs : List V} {y : V} (h : Lst F xs) (hy : F xs.length y) : Lst F (xs ++ [y]) := fun i x hx => by
  rcases Nat.lt_trichotomy i xs.length with c | c | c
  · rw [List.getElem?_append_left c] at hx
    exact h i x hx
  · subst c
    simp at hx
    exact hx ▸ hy
  · rw [List.getElem?_eq_none (by rw [List.length_append, List.length_singleton]; omega)] at hx
    cases hx
theorem Lst.imp {F G : Nat → V → Prop} {xs : List V} (h : Lst F xs) (k : ∀ i x, F i x → G i x) : Lst G xs := fun i x hx => k i x (h i x hx)
def pName (i : Nat) : Str := ("p" : Str) ++ ⟨#[97 + i]⟩
def fName (i : Nat) : Str := ("f" : Str) ++ ⟨#[97 + i]⟩
def BoxAt (H : Hp) (sz : Str → Int) (i : Nat) (v : V) : Prop := ∃ c, v = V.ref c ∧ H c = some (.tup [.str (nameAt sz (97 + i)), .int (sz "number")])
def ListAt (H : Hp) (sz : Str → Int) (i : Nat) (v : V) : Prop := ∃ c t, v = V.ref c ∧ H c = some (.tup [.str (nameAt sz (97 + (7 + i))), .ref t]) ∧ H t = some (.tup (List.replicate (sz "thing").toNat [V.int 1]).flatten)
theorem BoxAt.same {H H' : Hp} {sz : Str → Int} (s : Same H H') {i : Nat} {v : V} (h : BoxAt H sz i v) : BoxAt H' sz i v := by
  obtain ⟨c, e, h⟩ := h
  exact ⟨c, e, s _ _ h⟩
theorem ListAt.same {H H' : Hp} {sz : Str → Int} (s : Same H H') {i : Nat} {v : V} (h : ListAt H sz i v) : ListAt H' sz i v := by
  obtain ⟨c, t, e, h, k⟩ := h
  exact ⟨c, t, e, s _ _ h, s _ _ k⟩
def FunAt (H : Hp) (sz : Str → Int) (ns : List V) (i : Nat) (v : V) : Prop := ∃ c pa oa e, v = V.ref c ∧ H c = some (.tup [.str (fName i), .ref pa, .ref oa, .ref e]) ∧ H pa = some (.tup (cutV ns none (some (sz "name")))) ∧ H oa = some (.tup (cutV ns (some (sz "name")) none)) ∧ H e = some (.tup [])
theorem FunAt.same {H H' : Hp} {sz : Str → Int} {ns : List V} (s : Same H H') {i : Nat} {v : V} (h : FunAt H sz ns i v) : FunAt H' sz ns i v := by
  obtain ⟨c, pa, oa, e, e1, h1, h2, h3, h4⟩ := h
  exact ⟨c, pa, oa, e, e1, s _ _ h1, s _ _ h2, s _ _ h3, s _ _ h4⟩
def CallAt (H : Hp) (sz : Str → Int) (i : Nat) (v : V) : Prop := ∃ c t z, v = V.ref c ∧ H c = some (.tup [.str "call", .str (nameAt sz (97 + 0)), .str (fName i), .ref t]) ∧ H t = some (.tup (List.replicate (sz "name").toNat [V.ref z]).flatten) ∧ H z = some (.tup [.str "number", .int 1])
theorem CallAt.same {H H' : Hp} {sz : Str → Int} (s : Same H H') {i : Nat} {v : V} (h : CallAt H sz i v) : CallAt H' sz i v := by
  obtain ⟨c, t, z, e, h1, h2, h3⟩ := h
  exact ⟨c, t, z, e, s _ _ h1, s _ _ h2, s _ _ h3⟩
theorem letter {x : Str} {n k : Nat} (hx : x.cps.toList = (List.range n).map (97 + ·)) (hk : k < n) : atI x.cps.toList (k : Int) = some (97 + k) := by
  refine atI_nat (j := k) ?_
  rw [hx, List.getElem?_map, List.getElem?_range hk]
  rfl
theorem lets12 : ("abcdefghijkl" : Str).cps.toList = (List.range 12).map (97 + ·) := by decide +kernel
theorem lets8 : ("abcdefgh" : Str).cps.toList = (List.range 8).map (97 + ·) := by decide +kernel
structure Bnd (sz : Str → Int) : Prop where
  box : 4 ≤ sz "box" ∧ sz "box" ≤ 8
  list : 1 ≤ sz "list" ∧ sz "list" ≤ 5
  thing : 10 ≤ sz "thing" ∧ sz "thing" ≤ 14
  fn : 2 ≤ sz "function" ∧ sz "function" ≤ 6
  name : 1 ≤ sz "name" ∧ sz "name" ≤ 5
  deep : 2 ≤ sz "deep" ∧ sz "deep" ≤ 6
  row : 3 ≤ sz "row" ∧ sz "row" ≤ 7
  sign : 4 ≤ sz "sign" ∧ sz "sign" ≤ 8
  number : 999997 ≤ sz "number" ∧ sz "number" ≤ 1000001
  rows : 57 ≤ sz "rows" ∧ sz "rows" ≤ 62
theorem Near.bnd {sz : Str → Int} (h : Near 2 sz) : Bnd sz := by
  have g : ∀ k lo hi, k ∈ ten → loOf k = lo → hiOf k = hi → lo - 2 ≤ sz k ∧ sz k ≤ hi + 2 := fun k lo hi hk h1 h2 => by
    have := h k hk
    rw [h1, h2] at this
    exact this
  exact ⟨g "box" 6 6 (by decide +kernel) (by decide +kernel) (by decide +kernel), g "list" 3 3 (by decide +kernel) (by decide +kernel) (by decide +kernel), g "thing" 12 12 (by decide +kernel) (by decide +kernel) (by decide +kernel),
    g "function" 4 4 (by decide +kernel) (by decide +kernel) (by decide +kernel), g "name" 3 3 (by decide +kernel) (by decide +kernel) (by decide +kernel), g "deep" 4 4 (by decide +kernel) (by decide +kernel) (by decide +kernel),
    g "row" 5 5 (by decide +kernel) (by decide +kernel) (by decide +kernel), g "sign" 6 6 (by decide +kernel) (by decide +kernel) (by decide +kernel), g "number" 999999 999999 (by decide +kernel) (by decide +kernel) (by decide +kernel), g "rows" 59 60 (by decide +kernel) (by decide +kernel) (by decide +kernel)⟩
structure PartsAt (H : Hp) (sz : Str → Int) (b l f r : Addr) : Prop where
  boxes : ∃ xs, H b = some (.tup xs) ∧ (xs.length : Int) = sz "box" ∧ Lst (BoxAt H sz) xs
  lists : ∃ xs, H l = some (.tup xs) ∧ (xs.length : Int) = sz "list" ∧ Lst (ListAt H sz) xs
  funs : ∃ xs ns, H f = some (.tup xs) ∧ (xs.length : Int) = sz "function" ∧ (ns.length : Int) = 2 * sz "name" ∧ Lst (fun i v => v = .str (pName i)) ns ∧ Lst (FunAt H sz ns) xs
  rows : ∃ v xs c z, H r = some (.tup (v :: xs ++ (List.replicate (sz "rows" - (2 * sz "function" + sz "row")).toNat [V.ref c]).flatten)) ∧ RN H (nameAt sz 97) (sz "deep" - 1).toNat (sz "row" - 1).toNat v ∧ (xs.length : Int) = sz "function" ∧ Lst (CallAt H sz) xs ∧
    H c = some (.tup [.str "tell", .ref z]) ∧ H z = some (.tup [.str "number", .int 1])
section
variable {P : Program} {w : World} {K : PySem.W.Frag} {mg : Str → Option Value} {base : Heap}
theorem sc_lparts : FnScope ["_law_sizes_here", "_law_boxes", "_law_lists", "_law_names", "_law_functions", "_law_k", "_law_name_here", "_law_rows", "_law_values", "_law_many"] ["_law_sizes_here"] (defScope (top 65)) := ⟨rfl, rfl, rfl, by decide +kernel, rfl, by decide +kernel, by decide +kernel⟩
def spLParts : Sp := fun vs H Q _ => ∃ (d : Addr) (sz : Str → Int), vs = [.ref d] ∧ SzAt H d sz ∧ Near 2 sz ∧ ∀ (t b l f r : Addr) (H' : Hp), Same H H' → H' t = some (.tup [.ref b, .ref l, .ref f, .ref r]) → PartsAt H' sz b l f r → Q (.ref t) H'
theorem d_lparts (T : Txt w K mg) (D_name : Def P w K mg base 1 "_law_name" ["_law_sizes_here", "_law_k"] spLName) (D_row : Def P w K mg base 2 "_law_row" ["_law_sizes_here"] spLRow) (S : Src K mg "_law_parts" (top 65) ["_law_sizes_here"]) : Def P w K mg base 3 "_law_parts" ["_law_sizes_here"] spLParts := by
  refine S.ok sc_lparts (fun vs H Q E h => ?_) (fun f cdv A outer s H vs Q E hr h => ?_)
  · obtain ⟨d, sz, rfl, _⟩ := h; rfl
  obtain ⟨d, sz, rfl, hz, hn, q⟩ := h
  refine ⟨_, (pss_cons (ps_set (i := 1) sc_lparts.nd rfl (Or.inl rfl) (pe_cT call_tuple_of rfl T.z_tuple bt_tuple (pac (pe_comp (N' := ["_law_k", "_law_sizes_here"]) (comp_scope (defScope (top 65)) (by rfl) (by decide +kernel) (by decide +kernel) (by decide +kernel) (by decide +kernel) (by decide +kernel) (by decide +kernel)) rfl (capt 1 [0] (by rfl) (by rfl) (by decide +kernel)) (pi_range1 rfl T.z_range (pac (pe_dget (hu_of hr) (pv 0) pe_str (fun _ _ => rfl)) pa_nil)) (fun _ _ _ => pg_name (i := 0) (show (["_law_k", "_law_sizes_here"] : List Str).Nodup by decide +kernel) rfl (Or.inl rfl) (Or.inr rfl)) (fun _ _ _ => pifs_nil) (fun _ _ _ => (pe_tup (pac (pe_def (D_name.mono (by decide)) hr rfl (pac (pv 1) (pac (pv 0) pa_nil))) (pac (pe_dget (hu_of hr) (pv 1) pe_str (fun _ _ => rfl)) pa_nil))))) pa_nil)))
      (pss_cons (ps_set (i := 2) sc_lparts.nd rfl (Or.inl rfl) (pe_cT call_tuple_of rfl T.z_tuple bt_tuple (pac (pe_comp (N' := ["_law_k", "_law_sizes_here"]) (comp_scope (defScope (top 65)) (by rfl) (by decide +kernel) (by decide +kernel) (by decide +kernel) (by decide +kernel) (by decide +kernel) (by decide +kernel)) rfl (capt 1 [0] (by rfl) (by rfl) (by decide +kernel)) (pi_range1 rfl T.z_range (pac (pe_dget (hu_of hr) (pv 0) pe_str (fun _ _ => rfl)) pa_nil)) (fun _ _ _ => pg_name (i := 0) (show (["_law_k", "_law_sizes_here"] : List Str).Nodup by decide +kernel) rfl (Or.inl rfl) (Or.inr rfl)) (fun _ _ _ => pifs_nil) (fun _ _ _ => (pe_tup (pac (pe_def (D_name.mono (by decide)) hr rfl (pac (pv 1) (pac (pe_op op_add pe_int (pv 0)) pa_nil))) (pac (pe_op op_repT (pe_tup (pa_const [.int 1] (by rfl))) (pe_dget (hu_of hr) (pv 1) pe_str (fun _ _ => rfl))) pa_nil))))) pa_nil)))
      (pss_cons (ps_set (i := 3) sc_lparts.nd rfl (Or.inl rfl) (pe_cT call_tuple_of rfl T.z_tuple bt_tuple (pac (pe_comp (N' := ["_law_k"]) (comp_scope (defScope (top 65)) (by rfl) (by decide +kernel) (by decide +kernel) (by decide +kernel) (by decide +kernel) (by decide +kernel) (by decide +kernel)) rfl (capt 1 [] (by rfl) (by rfl) (by decide +kernel)) (pi_range1 rfl T.z_range (pac (pe_op op_mul pe_int (pe_dget (hu_of hr) (pv 0) pe_str (fun _ _ => rfl))) pa_nil)) (fun _ _ _ => pg_name (i := 0) (show (["_law_k"] : List Str).Nodup by decide +kernel) rfl (Or.inl rfl) (Or.inr rfl)) (fun _ _ _ => pifs_nil) (fun _ _ _ => (pe_op op_add_str pe_str (pe_ix ix_str pe_str (pv 0) (fun _ _ => rfl))))) pa_nil)))
      (pss_cons (ps_set (i := 4) sc_lparts.nd rfl (Or.inl rfl) (pe_tup pa_nil))
      (pss_cons (ps_for PassesOwn.never rfl (pi_range1 rfl T.z_range (pac (pe_dget (hu_of hr) (pv 0) pe_str (fun _ _ => rfl)) pa_nil)) (pg_name (i := 5) sc_lparts.nd rfl (Or.inl rfl))
      (pss_cons (ps_set (i := 6) sc_lparts.nd rfl (Or.inl rfl) (pe_op op_add_str pe_str (pe_ix ix_str pe_str (pv 5) (fun _ _ => rfl))))
      (pss_one (ps_set (i := 4) sc_lparts.nd rfl (Or.inl rfl) (pe_op op_catTw (pv 4) (pe_tup (pac (pe_tup (pac (pv 6) (pac (pe_slice sl_tupW (pv 3) po_none (po_some (pe_dget (hu_of hr) (pv 0) pe_str (fun _ _ => rfl)))) (pac (pe_slice sl_tupW (pv 3) (po_some (pe_dget (hu_of hr) (pv 0) pe_str (fun _ _ => rfl))) po_none) (pac (pe_tup pa_nil) pa_nil))))) pa_nil)))))))
      (pss_cons (ps_set (i := 7) sc_lparts.nd rfl (Or.inl rfl) (pe_tup (pac (pe_def (D_row) hr rfl (pac (pv 0) pa_nil)) pa_nil)))
      (pss_cons (ps_for PassesOwn.never rfl (pi_range1 rfl T.z_range (pac (pe_dget (hu_of hr) (pv 0) pe_str (fun _ _ => rfl)) pa_nil)) (pg_name (i := 5) sc_lparts.nd rfl (Or.inl rfl))
      (pss_cut (ps_set (i := 8) sc_lparts.nd rfl (Or.inl rfl) (pe_op op_repT (pe_tup (pac (pe_tup (pa_const [.str "number", .int 1] (by rfl))) pa_nil)) (pe_dget (hu_of hr) (pv 0) pe_str (fun _ _ => rfl))))
      (pss_one (ps_set (i := 7) sc_lparts.nd rfl (Or.inl rfl) (pe_op op_catTw (pv 7) (pe_tup (pac (pe_tup (pac pe_str (pac (pe_def (D_name.mono (by decide)) hr rfl (pac (pv 0) (pac pe_int pa_nil))) (pac (pe_op op_add_str pe_str (pe_ix ix_str pe_str (pv 5) (fun _ _ => rfl))) (pac (pv 8) pa_nil))))) pa_nil)))))))
      (pss_cons (ps_set (i := 9) sc_lparts.nd rfl (Or.inl rfl) (pe_op op_add (pe_op op_mul pe_int (pe_dget (hu_of hr) (pv 0) pe_str (fun _ _ => rfl))) (pe_dget (hu_of hr) (pv 0) pe_str (fun _ _ => rfl))))
      (pss_one (ps_ret (pe_tup (pac (pv 1) (pac (pv 2) (pac (pv 4) (pac (pe_op op_catTw (pv 7) (pe_op op_repT (pe_tup (pac (pe_tup (pac pe_str (pac (pe_tup (pa_const [.str "number", .int 1] (by rfl))) pa_nil))) pa_nil)) (pe_op op_sub (pe_dget (hu_of hr) (pv 0) pe_str (fun _ _ => rfl)) (pv 9)))) pa_nil))))))))))))))), ?_⟩
  have l3 : (100000 : Nat) < sizeLine := by rw [sizeLine_eq]; decide
  have B := hn.bnd
  obtain ⟨⟨x1, x2⟩, ⟨x3, x4⟩, ⟨x5, x6⟩, ⟨x7, x8⟩, ⟨x9, x10⟩, ⟨x11, x12⟩, ⟨x13, x14⟩, ⟨x15, x16⟩, ⟨x17, x18⟩, ⟨x19, x20⟩⟩ := B
  -- the boxes
  refine ⟨_, rfl, d, _, rfl, hz.get (by decide +kernel), sz "box", rfl, by omega, by omega, fun acc hacc => ?_⟩
  refine ⟨fun i m σ2 ys H2 => m = (sz "box").toNat - i ∧ i ≤ (sz "box").toNat ∧ (∃ x0, σ2 = [x0, some (.ref d)]) ∧ ys.length = i ∧ Lst (BoxAt H2 sz) ys ∧ H2 acc = some (.lst ys) ∧ Same H H2, ⟨_, rfl, Nat.zero_le _, ⟨_, rfl⟩, rfl, Lst.nil, upd_same, same_of_new hacc _⟩, ?_⟩
  rintro i _ σ2 ys H2 ⟨rfl, hi, ⟨x0, rfl⟩, hy, hL, hac, sm⟩
  refine ⟨hac, ?_⟩
  by_cases hlt : i < (sz "box").toNat
  · refine .inr ⟨hlt, by omega, ?_⟩
    rintro v H3 ⟨rfl, rfl⟩
    refine ⟨_, rfl, _, rfl, d, sz, i, by rw [Int.zero_add], hz.same sm, hn, by omega, ?_⟩
    refine ⟨_, rfl, d, _, rfl, (hz.same sm).get (by decide +kernel), (by show 2 ≤ sizeLine; omega), fun u hu => ?_⟩
    have su := same_of_new hu (.tup [.str (nameAt sz (97 + i)), .int (sz "number")])
    have ua : u ≠ acc := fun z => by rw [z, hac] at hu; cases hu
    refine ⟨su _ _ hac, _, (by omega : (sz "box").toNat - (i + 1) < (sz "box").toNat - i), rfl, hlt, ⟨_, rfl⟩, by rw [List.length_append, hy]; rfl, ?_, upd_same, fun b o hb => by rw [upd_ne (ne_of_none hb hacc)]; exact su _ _ (sm _ _ hb)⟩
    refine Lst.snoc (hL.imp fun j x hx => ?_) ?_
    · obtain ⟨c, e, hc⟩ := hx
      exact ⟨c, e, by rw [upd_ne (ne_of hc hac (by intro z; cases z))]; exact su _ _ hc⟩
    · rw [hy]
      exact ⟨u, rfl, by rw [upd_ne ua]; exact upd_same⟩
  obtain rfl : i = (sz "box").toNat := by omega
  refine .inl ⟨Nat.le_refl _, acc, ys, rfl, .inl ⟨SqL.of hac, fun tb htb => ?_⟩⟩
  have sB := sm.trans (same_of_new htb (.tup ys))
  have LB : Lst (BoxAt (upd H2 tb (.tup ys)) sz) ys := hL.imp fun _ _ hx => hx.same (same_of_new htb (.tup ys))
  have hB : upd H2 tb (.tup ys) tb = some (.tup ys) := upd_same
  generalize upd H2 tb (.tup ys) = HB at sB LB hB
  clear hL hac hacc sm htb
  -- the lists
  refine ⟨_, rfl, d, _, rfl, (hz.same sB).get (by decide +kernel), sz "list", rfl, by omega, by omega, fun acc hacc => ?_⟩
  refine ⟨fun i m σ2 ys H2 => m = (sz "list").toNat - i ∧ i ≤ (sz "list").toNat ∧ (∃ x0, σ2 = [x0, some (.ref d)]) ∧ ys.length = i ∧ Lst (ListAt H2 sz) ys ∧ H2 acc = some (.lst ys) ∧ Same HB H2, ⟨_, rfl, Nat.zero_le _, ⟨_, rfl⟩, rfl, Lst.nil, upd_same, same_of_new hacc _⟩, ?_⟩
  rintro i _ σ2 zs H2 ⟨rfl, hi, ⟨x0, rfl⟩, hzs, hL, hac, sm⟩
  refine ⟨hac, ?_⟩
  by_cases hlt : i < (sz "list").toNat
  · refine .inr ⟨hlt, by omega, ?_⟩
    rintro v H3 ⟨rfl, rfl⟩
    have hz3 := hz.same (sB.trans sm)
    refine ⟨_, rfl, _, rfl, _, _, rfl, rfl, d, sz, 7 + i, (by show [V.ref d, V.int ((7 : Int) + (0 + (i : Int)))] = _; rw [show (7 : Int) + (0 + (i : Int)) = ((7 + i : Nat) : Int) by omega]), hz3, hn, by omega, ?_⟩
    refine ⟨(by show 1 ≤ sizeLine; omega), fun o ho => ?_⟩
    have so := same_of_new ho (.tup [.int 1])
    refine ⟨_, rfl, d, _, rfl, (hz3.same so).get (by decide +kernel), o, sz "thing", [.int 1], rfl, rfl, upd_same, (by intro z; cases z), (by show 1 ≤ 10; decide), by omega, by omega, fun z => absurd z (by omega), fun _ t ht => ?_⟩
    have st := so.trans (same_of_new ht (.tup (List.replicate (sz "thing").toNat [V.int 1]).flatten))
    have ht' : upd (upd H3 o (.tup [.int 1])) t (.tup (List.replicate (sz "thing").toNat [V.int 1]).flatten) t = some (.tup (List.replicate (sz "thing").toNat [V.int 1]).flatten) := upd_same
    generalize upd (upd H3 o (.tup [.int 1])) t (.tup (List.replicate (sz "thing").toNat [V.int 1]).flatten) = H4 at st ht'
    refine ⟨(by show 2 ≤ sizeLine; omega), fun u hu => ?_⟩
    have su := st.trans (same_of_new hu (.tup [.str (nameAt sz (97 + (7 + i))), .ref t]))
    have su4 := same_of_new hu (.tup [.str (nameAt sz (97 + (7 + i))), .ref t])
    have hac4 := st _ _ hac
    have ua : u ≠ acc := fun z => by rw [z, hac4] at hu; cases hu
    refine ⟨su _ _ hac, _, (by omega : (sz "list").toNat - (i + 1) < (sz "list").toNat - i), rfl, hlt, ⟨_, rfl⟩, by rw [List.length_append, hzs]; rfl, ?_, upd_same, fun b o hb => by rw [upd_ne (ne_of_none hb hacc)]; exact su _ _ (sm _ _ hb)⟩
    refine Lst.snoc (hL.imp fun j x hx => ?_) ?_
    · obtain ⟨c, t', e, hc, ht2⟩ := hx
      exact ⟨c, t', e, by rw [upd_ne (ne_of hc hac (by intro z; cases z))]; exact su _ _ hc, by rw [upd_ne (ne_of ht2 hac (by intro z; cases z))]; exact su _ _ ht2⟩
    · rw [hzs]
      exact ⟨u, t, rfl, by rw [upd_ne ua]; exact upd_same, by rw [upd_ne (ne_of ht' hac4 (by intro z; cases z))]; exact su4 _ _ ht'⟩
  obtain rfl : i = (sz "list").toNat := by omega
  refine .inl ⟨Nat.le_refl _, acc, zs, rfl, .inl ⟨SqL.of hac, fun tl htl => ?_⟩⟩
  have sBL := sm.trans (same_of_new htl (.tup zs))
  have sL := sB.trans sBL
  have LL : Lst (ListAt (upd H2 tl (.tup zs)) sz) zs := hL.imp fun _ _ hx => hx.same (same_of_new htl (.tup zs))
  have hLl : upd H2 tl (.tup zs) tl = some (.tup zs) := upd_same
  generalize upd H2 tl (.tup zs) = HL at sBL sL LL hLl
  have LB' := LB.imp fun _ _ hx => BoxAt.same sBL hx
  have hB' := sBL _ _ hB
  clear hL hac hacc sm htl LB hB sB sBL
  -- the names
  refine ⟨_, rfl, d, _, rfl, (hz.same sL).get (by decide +kernel), 2, _, rfl, rfl, .inl ⟨by decide, by decide⟩, 2 * sz "name", rfl, by omega, by omega, fun acc hacc => ?_⟩
  refine ⟨fun i m σ2 ys H2 => m = (2 * sz "name").toNat - i ∧ i ≤ (2 * sz "name").toNat ∧ (∃ x0, σ2 = [x0]) ∧ ys.length = i ∧ Lst (fun i v => v = .str (pName i)) ys ∧ H2 acc = some (.lst ys) ∧ Same HL H2, ⟨_, rfl, Nat.zero_le _, ⟨_, rfl⟩, rfl, Lst.nil, upd_same, same_of_new hacc _⟩, ?_⟩
  rintro i _ σ2 ns H2 ⟨rfl, hi, ⟨x0, rfl⟩, hns, hL, hac, sm⟩
  refine ⟨hac, ?_⟩
  have la12 : ("abcdefghijkl" : Str).length = 12 := by decide +kernel
  have la8 : ("abcdefgh" : Str).length = 8 := by decide +kernel
  by_cases hlt : i < (2 * sz "name").toNat
  · refine .inr ⟨hlt, by omega, ?_⟩
    rintro v H3 ⟨rfl, rfl⟩
    refine ⟨_, rfl, _, _, _, rfl, by rw [Int.zero_add], by omega, letter lets12 (k := i) (by omega), _, _, rfl, rfl, (by show 1 + 1 ≤ sizeLine; omega), ?_⟩
    refine ⟨hac, _, (by omega : (2 * sz "name").toNat - (i + 1) < (2 * sz "name").toNat - i), rfl, hlt, ⟨_, rfl⟩, by rw [List.length_append, hns]; rfl, Lst.snoc hL (by rw [hns]; rfl), upd_same, fun b o hb => by rw [upd_ne (ne_of_none hb hacc)]; exact sm _ _ hb⟩
  obtain rfl : i = (2 * sz "name").toNat := by omega
  refine .inl ⟨Nat.le_refl _, acc, ns, rfl, .inl ⟨SqL.of hac, fun tn htn => ?_⟩⟩
  have sLN := sm.trans (same_of_new htn (.tup ns))
  have hN : upd H2 tn (.tup ns) tn = some (.tup ns) := upd_same
  generalize upd H2 tn (.tup ns) = HN at sLN hN
  clear hac hacc sm htn
  refine ⟨(by show 0 ≤ sizeLine; omega), fun f0 hf0 => ?_⟩
  have sf0 := sLN.trans (same_of_new hf0 (.tup []))
  have hN' := (same_of_new hf0 (.tup [])) _ _ hN
  have hf0' : upd HN f0 (.tup []) f0 = some (.tup []) := upd_same
  generalize upd HN f0 (.tup []) = HF at sf0 hN' hf0'
  have sF := sL.trans sf0
  -- the functions
  refine ⟨_, rfl, d, _, rfl, (hz.same sF).get (by decide +kernel), sz "function", rfl, by omega, by omega, ?_⟩
  refine for_range (n := (sz "function").toNat) (fun i σ H' => ∃ (fa : Addr) (xs : List V) (y5 y6 y7 y8 y9 : Option V), σ = [some (.ref d), some (.ref tb), some (.ref tl), some (.ref tn), some (.ref fa), y5, y6, y7, y8, y9] ∧ Same HF H' ∧ H' fa = some (.tup xs) ∧ xs.length = i ∧ Lst (FunAt H' sz ns) xs) ⟨f0, [], _, _, _, _, _, rfl, Same.refl HF, hf0', rfl, Lst.nil⟩ ?_ ?_
  · rintro i σ H1 hi ⟨fa, xs, y5, y6, y7, y8, y9, rfl, s1, hfa, hxs, hLx⟩
    have hz1 := hz.same (sF.trans s1)
    have hN1 := s1 _ _ hN'
    refine ⟨_, rfl, _, _, _, rfl, by rw [Int.zero_add], by omega, letter lets8 (k := i) (by omega), _, _, rfl, rfl, (by show 1 + 1 ≤ sizeLine; omega), ?_⟩
    refine ⟨_, rfl, _, rfl, _, rfl, _, rfl, d, _, rfl, hz1.get (by decide +kernel), sz "name", rfl, tn, ns, rfl, hN1, fun pa H2 s2 hpa => ?_⟩
    refine ⟨_, rfl, _, rfl, d, _, rfl, (hz1.same s2).get (by decide +kernel), sz "name", rfl, tn, ns, rfl, s2 _ _ hN1, fun oa H3 s3 hoa => ?_⟩
    refine ⟨(by show 0 ≤ sizeLine; omega), fun e he => ⟨(by show 4 ≤ sizeLine; omega), fun c hc => ⟨(by show 1 ≤ sizeLine; omega), fun o ho => ?_⟩⟩⟩
    have se := same_of_new he (.tup [])
    have sc' := same_of_new hc (.tup [.str (("f" : Str) ++ ⟨#[97 + i]⟩), .ref pa, .ref oa, .ref e])
    have so := same_of_new ho (.tup [.ref c])
    have hF : FunAt _ sz ns i (.ref c) := ⟨c, pa, oa, e, rfl, so _ _ upd_same, so _ _ (sc' _ _ (se _ _ (s3 _ _ hpa))), so _ _ (sc' _ _ (se _ _ hoa)), so _ _ (sc' _ _ upd_same)⟩
    have sAll := s2.trans (s3.trans (se.trans (sc'.trans so)))
    refine ⟨fa, o, xs, [.ref c], rfl, rfl, sAll _ _ hfa, upd_same, (by rw [hxs]; show i + 1 ≤ sizeLine; omega), fun p H6 s6 h6 => ?_⟩
    exact ⟨p, _, _, _, _, _, _, rfl, s1.trans (sAll.trans s6), h6, by rw [List.length_append, hxs]; rfl, Lst.snoc (hLx.imp fun _ _ hx => hx.same (sAll.trans s6)) (by rw [hxs]; exact hF.same s6)⟩
  rintro σ H1 ⟨fa, xf, y5, y6, y7, y8, y9, rfl, s1, hfa, hxf, hLf⟩
  have sF1 := sF.trans s1
  refine ⟨_, rfl, d, sz, rfl, hz.same sF1, hn, fun v0 H2 s2 hv0 => ⟨(by show 1 ≤ sizeLine; omega), fun r0 hr0 => ?_⟩⟩
  have sr0 := same_of_new hr0 (.tup [v0])
  have hr0' : upd H2 r0 (.tup [v0]) r0 = some (.tup [v0]) := upd_same
  have s12 := s2.trans sr0
  have hv0' := hv0.same sr0
  generalize upd H2 r0 (.tup [v0]) = HR at sr0 hr0' s12 hv0'
  have sR := sF1.trans s12
  -- the rows
  refine ⟨_, rfl, d, _, rfl, (hz.same sR).get (by decide +kernel), sz "function", rfl, by omega, by omega, ?_⟩
  refine for_range (n := (sz "function").toNat) (fun i σ H' => ∃ (ra : Addr) (xs : List V) (y5 y6 y8 y9 : Option V), σ = [some (.ref d), some (.ref tb), some (.ref tl), some (.ref tn), some (.ref fa), y5, y6, some (.ref ra), y8, y9] ∧ Same HR H' ∧ H' ra = some (.tup (v0 :: xs)) ∧ xs.length = i ∧ Lst (CallAt H' sz) xs) ⟨r0, [], _, _, _, _, rfl, Same.refl HR, hr0', rfl, Lst.nil⟩ ?_ ?_
  · rintro i σ H3 hi ⟨ra, xs, z5, z6, z8, z9, rfl, s3, hra, hxs, hLx⟩
    have hz3 := hz.same (sR.trans s3)
    refine ⟨fun σ H' => ∃ (t z : Addr), σ = [some (.ref d), some (.ref tb), some (.ref tl), some (.ref tn), some (.ref fa), some (.int (0 + (i : Int))), z6, some (.ref ra), some (.ref t), z9] ∧ Same H3 H' ∧ H' t = some (.tup (List.replicate (sz "name").toNat [V.ref z]).flatten) ∧ H' z = some (.tup [.str "number", .int 1]), ?_, ?_⟩
    · refine ⟨(by show 2 ≤ sizeLine; omega), fun z hz' => ⟨(by show 1 ≤ sizeLine; omega), fun o ho => ?_⟩⟩
      have sz' := same_of_new hz' (.tup [.str "number", .int 1])
      have so := same_of_new ho (.tup [.ref z])
      have szo := sz'.trans so
      refine ⟨_, rfl, d, _, rfl, (hz3.same szo).get (by decide +kernel), o, sz "name", [.ref z], rfl, rfl, upd_same, (by intro y; cases y), (by show 1 ≤ 10; decide), by omega, by omega, fun k1 => ?_, fun k1 t ht => ?_⟩
      · refine ⟨o, z, rfl, szo, ?_, so _ _ upd_same⟩
        rw [k1]
        exact upd_same
      · exact ⟨t, z, rfl, szo.trans (same_of_new ht _), upd_same, (same_of_new ht _) _ _ (so _ _ upd_same)⟩
    · rintro σ H4 ⟨t, z, rfl, s4, ht, hzz⟩
      have hz4 := hz3.same s4
      refine ⟨_, rfl, _, rfl, d, sz, 0, rfl, hz4, hn, by decide, ?_⟩
      refine ⟨_, rfl, _, _, _, rfl, by rw [Int.zero_add], by omega, letter lets8 (k := i) (by omega), _, _, rfl, rfl, (by show 1 + 1 ≤ sizeLine; omega), ?_⟩
      refine ⟨_, rfl, (by show 4 ≤ sizeLine; omega), fun c hc => ⟨(by show 1 ≤ sizeLine; omega), fun o ho => ?_⟩⟩
      have sc' := same_of_new hc (.tup [.str "call", .str (nameAt sz (97 + 0)), .str (("f" : Str) ++ ⟨#[97 + i]⟩), .ref t])
      have so := same_of_new ho (.tup [.ref c])
      have sco := sc'.trans so
      have hC : CallAt _ sz i (.ref c) := ⟨c, t, z, rfl, so _ _ upd_same, sco _ _ ht, sco _ _ hzz⟩
      refine ⟨ra, o, v0 :: xs, [.ref c], rfl, rfl, sco _ _ (s4 _ _ hra), upd_same, (by rw [List.length_cons, hxs]; show i + 1 + 1 ≤ sizeLine; omega), fun p H6 s6 h6 => ?_⟩
      have sN := s4.trans (sco.trans s6)
      exact ⟨p, xs ++ [.ref c], _, _, _, _, rfl, s3.trans sN, h6.trans rfl, by rw [List.length_append, hxs]; rfl, Lst.snoc (hLx.imp fun _ _ hx => hx.same sN) (by rw [hxs]; exact hC.same s6)⟩
  rintro σ H3 ⟨ra, xr, z5, z6, z8, z9, rfl, s3, hra, hxr, hLr⟩
  have s03 := sR.trans s3
  have hz3 := hz.same s03
  refine ⟨_, rfl, d, _, rfl, hz3.get (by decide +kernel), 2, _, rfl, rfl, .inl ⟨by decide, by decide⟩, _, rfl, d, _, rfl, hz3.get (by decide +kernel), _, _, rfl, rfl, ?_⟩
  refine ⟨_, rfl, _, rfl, _, rfl, _, rfl, (by show 2 ≤ sizeLine; omega), fun z hz' => ⟨(by show 2 ≤ sizeLine; omega), fun c hc => ⟨(by show 1 ≤ sizeLine; omega), fun o ho => ?_⟩⟩⟩
  have sz' := same_of_new hz' (.tup [.str "number", .int 1])
  have sc' := same_of_new hc (.tup [.str "tell", .ref z])
  have so := same_of_new ho (.tup [.ref c])
  have szo := sz'.trans (sc'.trans so)
  refine ⟨_, rfl, d, _, rfl, (hz3.same szo).get (by decide +kernel), _, rfl, _, _, rfl, rfl, ?_⟩
  refine ⟨o, sz "rows" - (2 * sz "function" + sz "row"), [.ref c], rfl, rfl, upd_same, (by intro y; cases y), (by show 1 ≤ 10; decide), by omega, by omega, fun z => absurd z (by omega), fun _ tt htt => ?_⟩
  have stt := same_of_new htt (.tup (List.replicate (sz "rows" - (2 * sz "function" + sz "row")).toNat [V.ref c]).flatten)
  have s3t := szo.trans stt
  have ln : ((List.replicate (sz "rows" - (2 * sz "function" + sz "row")).toNat [V.ref c]).flatten).length ≤ 100 := by
    rw [len_rep]
    show _ * 1 ≤ 100
    omega
  refine ⟨ra, tt, v0 :: xr, _, rfl, rfl, s3t _ _ hra, upd_same, (by rw [List.length_cons, hxr]; omega), fun rr H6 s6 h6 => ?_⟩
  refine ⟨(by show 4 ≤ sizeLine; omega), fun t ht => ?_⟩
  have st := same_of_new ht (.tup [.ref tb, .ref tl, .ref fa, .ref rr])
  have s6t := s6.trans st
  have s3e := s3t.trans s6t
  have sRe := s3.trans s3e
  have sLe := sf0.trans (s1.trans (s12.trans sRe))
  refine q t tb tl fa rr _ (s03.trans s3e) upd_same ⟨⟨ys, sLe _ _ hB', by rw [hy]; omega, LB'.imp fun _ _ hx => hx.same sLe⟩, ⟨zs, sLe _ _ hLl, by rw [hzs]; omega, LL.imp fun _ _ hx => hx.same sLe⟩,
    ⟨xf, ns, s12.trans sRe _ _ hfa, by rw [hxf]; omega, by rw [hns]; omega, hL, hLf.imp fun _ _ hx => hx.same (s12.trans sRe)⟩, ⟨v0, xr, c, z, st _ _ h6, hv0'.same sRe, by rw [hxr]; omega, hLr.imp fun _ _ hx => hx.same s3e, s6t _ _ (stt _ _ (so _ _ upd_same)), s6t _ _ (stt _ _ (so _ _ (sc' _ _ upd_same)))⟩⟩
end
end K05

set_option Elab.async false
set_option linter.all false
set_option maxRecDepth 100000
set_option maxHeartbeats 4000000
namespace K05
open PySem L2
/-! ### the drawn names -/
theorem fold_one (c : Nat) : ∀ (m : Nat) (acc : Array Nat), ((List.replicate m #[c]).foldl (· ++ ·) acc).toList = acc.toList ++ List.replicate m c
  | 0, acc => by simp
  | m + 1, acc => by
    rw [List.replicate_succ, List.foldl_cons, fold_one c m, List.replicate_succ]
    simp
theorem mul_cps {c : Nat} {n : Int} (hn : 2 ≤ n) : (Txt.mul ⟨#[c]⟩ n).cps.toList = List.replicate n.toNat c := by
  unfold Txt.mul
  have e : ¬ (n == 1 || (⟨#[c]⟩ : Str).length == 0) = true := by
    have h1 : (n == 1) = false := beq_eq_false_iff_ne.mpr (by omega)
    have h2 : ((⟨#[c]⟩ : Str).length == 0) = false := rfl
    rw [h1, h2]
    simp
  rw [if_neg (by omega), if_neg e]
  show ((List.replicate n.toNat #[c]).foldl (· ++ ·) #[]).toList = _
  rw [fold_one]
  simp
theorem str_len (x : Str) : x.length = x.cps.toList.length := by simp [Str.length]
theorem small_at {i : Nat} (h : i < 26) : small (97 + i) = true := by
  have : ∀ j, j < 26 → small (97 + j) = true := by decide
  exact this i h
theorem nm_name {sz : Str → Int} (B : Bnd sz) {i : Nat} (hi : i < 26) : nmS (nameAt sz (97 + i)) = decide (sz "sign" ≤ 6) := by
  have e := mul_cps (c := 97 + i) (n := sz "sign") (by have := B.sign; omega)
  unfold nmS nameAt
  rw [str_len, e, List.length_replicate]
  have h : (List.replicate (sz "sign").toNat (97 + i)).all small = true := by
    rw [List.all_eq_true]
    intro x hx
    rw [(List.mem_replicate.mp hx).2]
    exact small_at hi
  rw [h, Bool.and_true]
  have := B.sign
  exact decide_eq_decide.mpr (by omega)
theorem name_inj {sz : Str → Int} (B : Bnd sz) {i j : Nat} (h : nameAt sz (97 + i) = nameAt sz (97 + j)) : i = j := by
  have e1 := mul_cps (c := 97 + i) (n := sz "sign") (by have := B.sign; omega)
  have e2 := mul_cps (c := 97 + j) (n := sz "sign") (by have := B.sign; omega)
  have h' : (Txt.mul ⟨#[97 + i]⟩ (sz "sign")).cps.toList = (Txt.mul ⟨#[97 + j]⟩ (sz "sign")).cps.toList := congrArg (fun x : Str => x.cps.toList) h
  rw [e1, e2] at h'
  have hp : (sz "sign").toNat = ((sz "sign").toNat - 1) + 1 := by have := B.sign; omega
  rw [hp, List.replicate_succ, List.replicate_succ] at h'
  injection h' with h' _
  omega
theorem two_cps (a : Str) (c d : Nat) (ha : a.cps.toList = [d]) : (a ++ (⟨#[c]⟩ : Str)).cps.toList = [d, c] := by
  show (a.cps ++ #[c]).toList = _
  rw [Array.toList_append, ha]
  rfl
theorem p_cps (i : Nat) : (pName i).cps.toList = [112, 97 + i] := two_cps _ _ _ (by decide +kernel)
theorem f_cps (i : Nat) : (fName i).cps.toList = [102, 97 + i] := two_cps _ _ _ (by decide +kernel)
theorem nm_two {x : Str} {c i : Nat} (hc : small c = true) (hi : i < 26) (e : x.cps.toList = [c, 97 + i]) : nmS x = true := by
  unfold nmS
  rw [str_len, e]
  show (decide (1 ≤ 2 ∧ 2 ≤ 6) && (small c && (small (97 + i) && true))) = true
  rw [hc, small_at hi]
  rfl
theorem nm_p {i : Nat} (hi : i < 26) : nmS (pName i) = true := nm_two (by decide) hi (p_cps i)
theorem nm_f {i : Nat} (hi : i < 26) : nmS (fName i) = true := nm_two (by decide) hi (f_cps i)
theorem p_inj {i j : Nat} (h : pName i = pName j) : i = j := by
  have h' : (pName i).cps.toList = (pName j).cps.toList := congrArg (fun x : Str => x.cps.toList) h
  rw [p_cps, p_cps] at h'
  injection h' with _ h'
  injection h' with h' _
  omega
theorem f_inj {i j : Nat} (h : fName i = fName j) : i = j := by
  have h' : (fName i).cps.toList = (fName j).cps.toList := congrArg (fun x : Str => x.cps.toList) h
  rw [f_cps, f_cps] at h'
  injection h' with _ h'
  injection h' with h' _
  omega
theorem name_p {sz : Str → Int} (B : Bnd sz) {i j : Nat} : nameAt sz (97 + i) ≠ pName j := fun h => by
  have e1 := mul_cps (c := 97 + i) (n := sz "sign") (by have := B.sign; omega)
  have h' : (Txt.mul ⟨#[97 + i]⟩ (sz "sign")).cps.toList = (pName j).cps.toList := congrArg (fun x : Str => x.cps.toList) h
  rw [e1, p_cps] at h'
  have := congrArg List.length h'
  rw [List.length_replicate] at this
  have hs := B.sign
  have : (sz "sign").toNat = 2 := this
  omega
/-- things told apart by their places -/
theorem nodup_of {xs : List Str} {F : Nat → Str} (inj : ∀ i j, F i = F j → i = j) (h : ∀ i x, xs[i]? = some x → x = F i) : xs.Nodup := by
  rw [List.nodup_iff_pairwise_ne, List.pairwise_iff_getElem]
  intro i j hi hj hij e
  have h1 := h i _ (List.getElem?_eq_getElem hi)
  have h2 := h j _ (List.getElem?_eq_getElem hj)
  have := inj i j (by rw [← h1, ← h2, e])
  omega
end K05

set_option Elab.async false
set_option linter.all false
set_option maxRecDepth 100000
set_option maxHeartbeats 4000000
namespace K05
open PySem L2
theorem all_const {f : V → Bool} {c : Bool} : ∀ {xs : List V}, (∀ x ∈ xs, f x = c) → xs ≠ [] → xs.all f = c
  | [], _, h => absurd rfl h
  | [x], h, _ => by rw [List.all_cons, List.all_nil, h x List.mem_cons_self, Bool.and_true]
  | x :: y :: r, h, _ => by
    rw [List.all_cons, h x List.mem_cons_self, all_const (xs := y :: r) (fun z hz => h z (List.mem_cons_of_mem _ hz)) (by simp), Bool.and_self]
theorem Lst.mem {F : Nat → V → Prop} {xs : List V} (h : Lst F xs) {x : V} (hx : x ∈ xs) : ∃ i, i < xs.length ∧ F i x := by
  obtain ⟨i, hi, e⟩ := List.getElem_of_mem hx
  exact ⟨i, hi, h i x (by rw [List.getElem?_eq_getElem hi, e])⟩
theorem flat_one (n : Nat) (v : V) : (List.replicate n [v]).flatten = List.replicate n v := by
  induction n with
  | zero => rfl
  | succ n ih => rw [List.replicate_succ, List.flatten_cons, ih, List.replicate_succ]; rfl
theorem tupOf_tup {H : Hp} {m : Nat} {φ : Hp → V → Bool} {a : Addr} {xs : List V} (h : H a = some (.tup xs)) : tupOf H m φ (.ref a) = (decide (xs.length ≤ m) && xs.all (φ H)) := by
  unfold tupOf
  rw [tupAt_tup h]
theorem things_tup {H : Hp} {a : Addr} {xs : List V} (h : H a = some (.tup xs)) : thingsV H (.ref a) = xs := by
  unfold thingsV
  rw [tupAt_tup h]
  rfl
section
variable {H : Hp} {sz : Str → Int}
theorem box_eq (B : Bnd sz) {i : Nat} {v : V} (hi : i < 26) (h : BoxAt H sz i v) : boxV H v = (decide (sz "sign" ≤ 6) && decide (sz "number" ≤ 999999)) := by
  obtain ⟨c, rfl, hc⟩ := h
  unfold boxV
  rw [tupAt_tup hc]
  show (nmS (nameAt sz (97 + i)) && (decide (0 ≤ sz "number") && decide (sz "number" ≤ 999999))) = _
  rw [nm_name B hi, decide_eq_true (show 0 ≤ sz "number" by have := B.number; omega), Bool.true_and]
theorem list_eq (B : Bnd sz) {i : Nat} {v : V} (hi : 7 + i < 26) (h : ListAt H sz i v) : listV H v = (decide (sz "sign" ≤ 6) && decide (sz "thing" ≤ 12)) := by
  obtain ⟨c, t, rfl, hc, ht⟩ := h
  unfold listV
  rw [tupAt_tup hc]
  show (nmS (nameAt sz (97 + (7 + i))) && tupOf H 12 (fun _ x => numV x) (.ref t)) = _
  rw [nm_name B hi, tupOf_tup ht, flat_one, List.length_replicate, all_const (c := true) (fun x hx => by rw [(List.mem_replicate.mp hx).2]; rfl) (by
    have := B.thing
    intro z
    have := congrArg List.length z
    rw [List.length_replicate] at this
    have : (sz "thing").toNat = 0 := this
    omega), Bool.and_true]
  congr 1
  have := B.thing
  exact decide_eq_decide.mpr (by omega)
theorem nms_box {xs : List V} (h : Lst (BoxAt H sz) xs) : ∀ i x, (nmsOf H xs)[i]? = some x → x = nameAt sz (97 + i) := by
  intro i x hx
  unfold nmsOf at hx
  rw [List.getElem?_map] at hx
  cases e : xs[i]? with
  | none => rw [e] at hx; cases hx
  | some v =>
    rw [e] at hx
    obtain ⟨c, rfl, hc⟩ := h i v e
    have hx' : strV (fstV H (.ref c)) = x := by simpa using hx
    have ef : fstV H (.ref c) = .str (nameAt sz (97 + i)) := by unfold fstV; rw [tupAt_tup hc]
    rw [ef] at hx'
    exact hx'.symm
theorem nms_list {xs : List V} (h : Lst (ListAt H sz) xs) : ∀ i x, (nmsOf H xs)[i]? = some x → x = nameAt sz (97 + (7 + i)) := by
  intro i x hx
  unfold nmsOf at hx
  rw [List.getElem?_map] at hx
  cases e : xs[i]? with
  | none => rw [e] at hx; cases hx
  | some v =>
    rw [e] at hx
    obtain ⟨c, t, rfl, hc, _⟩ := h i v e
    have hx' : strV (fstV H (.ref c)) = x := by simpa using hx
    have ef : fstV H (.ref c) = .str (nameAt sz (97 + (7 + i))) := by unfold fstV; rw [tupAt_tup hc]
    rw [ef] at hx'
    exact hx'.symm
theorem vars_eq (B : Bnd sz) {b l f r : Addr} (h : PartsAt H sz b l f r) : varsOk H (.ref b) (.ref l) = decide (sz "box" ≤ 6 ∧ sz "list" ≤ 3 ∧ sz "thing" ≤ 12 ∧ sz "sign" ≤ 6 ∧ sz "number" ≤ 999999) := by
  obtain ⟨xb, hb, lb, Lb⟩ := h.boxes
  obtain ⟨xl, hl, ll, Ll⟩ := h.lists
  have B1 := B.box
  have B2 := B.list
  have nb : xb ≠ [] := fun z => by rw [z] at lb; simp at lb; omega
  have nl : xl ≠ [] := fun z => by rw [z] at ll; simp at ll; omega
  have e1 : xb.all (boxV H) = (decide (sz "sign" ≤ 6) && decide (sz "number" ≤ 999999)) := all_const (fun x hx => by
    obtain ⟨i, hi, hx⟩ := Lb.mem hx
    exact box_eq B (by omega) hx) nb
  have e2 : xl.all (listV H) = (decide (sz "sign" ≤ 6) && decide (sz "thing" ≤ 12)) := all_const (fun x hx => by
    obtain ⟨i, hi, hx⟩ := Ll.mem hx
    exact list_eq B (by omega) hx) nl
  unfold varsOk
  rw [tupOf_tup hb, tupOf_tup hl, things_tup hb, things_tup hl, e1, e2]
  by_cases c : sz "box" ≤ 6 ∧ sz "list" ≤ 3 ∧ sz "thing" ≤ 12 ∧ sz "sign" ≤ 6 ∧ sz "number" ≤ 999999
  · rw [decide_eq_true c]
    obtain ⟨c1, c2, c3, c4, c5⟩ := c
    have hN : (nmsOf H xb ++ nmsOf H xl).Nodup := by
      rw [List.nodup_append]
      refine ⟨nodup_of (F := fun i => nameAt sz (97 + i)) (fun i j e => name_inj B e) (nms_box Lb), nodup_of (F := fun i => nameAt sz (97 + (7 + i))) (fun i j e => by have := name_inj B e; omega) (nms_list Ll), ?_⟩
      intro x hx y hy e
      obtain ⟨i, hi, ei⟩ := List.getElem_of_mem hx
      obtain ⟨j, hj, ej⟩ := List.getElem_of_mem hy
      have h1 := nms_box Lb i x (by rw [List.getElem?_eq_getElem hi, ei])
      have h2 := nms_list Ll j y (by rw [List.getElem?_eq_getElem hj, ej])
      have := name_inj B (h1.symm.trans (e.trans h2))
      have hli : i < xb.length := by unfold nmsOf at hi; rw [List.length_map] at hi; exact hi
      omega
    rw [decide_eq_true c4, decide_eq_true c5, decide_eq_true c3, decide_eq_true (show xb.length ≤ 6 by omega), decide_eq_true (show xl.length ≤ 3 by omega), decide_eq_true hN]
    rfl
  · rw [decide_eq_false c]
    by_cases c1 : xb.length ≤ 6
    · by_cases c2 : xl.length ≤ 3
      · by_cases c4 : sz "sign" ≤ 6
        · by_cases c5 : sz "number" ≤ 999999
          · have c3 : ¬ sz "thing" ≤ 12 := fun c3 => c ⟨by omega, by omega, c3, c4, c5⟩
            rw [decide_eq_false c3]
            simp
          · rw [decide_eq_false c5]
            simp
        · rw [decide_eq_false c4]
          simp
      · rw [decide_eq_false c2]
        simp
    · rw [decide_eq_false c1]
      simp
end
end K05

set_option Elab.async false
set_option linter.all false
set_option maxRecDepth 100000
set_option maxHeartbeats 4000000
namespace K05
open PySem L2
theorem cut_to (xs : List V) (j : Nat) : cutV xs none (some (j : Int)) = xs.take j := by
  unfold cutV
  rw [HT.sIx_nat, HT.sIx_none]
  rcases Nat.le_total j xs.length with h | h
  · rw [Nat.min_eq_left h]; simp
  · rw [Nat.min_eq_right h]; simp [List.take_of_length_le h]
theorem cut_from (xs : List V) (j : Nat) : cutV xs (some (j : Int)) none = xs.drop j := by
  unfold cutV
  rw [HT.sIx_nat, HT.sIx_none]
  rcases Nat.le_total j xs.length with h | h
  · rw [Nat.min_eq_left h, List.take_of_length_le (by rw [List.length_drop]; exact Nat.le_refl _)]
  · rw [Nat.min_eq_right h, List.drop_of_length_le h, List.drop_of_length_le (Nat.le_refl _), List.take_nil]
section
variable {H : Hp} {sz : Str → Int}
theorem cuts (B : Bnd sz) (ns : List V) : cutV ns none (some (sz "name")) = ns.take (sz "name").toNat ∧ cutV ns (some (sz "name")) none = ns.drop (sz "name").toNat := by
  have e : sz "name" = (((sz "name").toNat : Nat) : Int) := by have := B.name; omega
  constructor
  · conv => lhs; rw [e]
    exact cut_to ns _
  · conv => lhs; rw [e]
    exact cut_from ns _
theorem pn_at {ns : List V} (h : Lst (fun i v => v = .str (pName i)) ns) : ∀ i x, (ns.map strV)[i]? = some x → x = pName i := by
  intro i x hx
  rw [List.getElem?_map] at hx
  cases e : ns[i]? with
  | none => rw [e] at hx; cases hx
  | some v =>
    rw [e] at hx
    have := h i v e
    subst this
    have hx' : strV (V.str (pName i)) = x := by simpa using hx
    exact hx'.symm
theorem pn_nm {ns : List V} (h : Lst (fun i v => v = .str (pName i)) ns) (hl : ns.length ≤ 26) : ∀ x ∈ ns, nmV x = true := by
  intro x hx
  obtain ⟨i, hi, rfl⟩ := h.mem hx
  exact nm_p (by omega)
theorem fun_eq (B : Bnd sz) {ns : List V} (hl : (ns.length : Int) = 2 * sz "name") (hn : Lst (fun i v => v = .str (pName i)) ns) {i : Nat} {v : V} (hi : i < 26) (h : FunAt H sz ns i v) : funV H v = decide (sz "name" ≤ 3) ∧ ownV H v = ns.map strV := by
  obtain ⟨c, pa, oa, e, rfl, hc, hp, ho, he⟩ := h
  obtain ⟨c1, c2⟩ := cuts B ns
  rw [c1] at hp
  rw [c2] at ho
  have Bn := B.name
  have hm := pn_nm hn (by omega)
  have a1 : (ns.take (sz "name").toNat).all nmV = true := List.all_eq_true.mpr fun x hx => hm x (List.mem_of_mem_take hx)
  have a2 : (ns.drop (sz "name").toNat).all nmV = true := List.all_eq_true.mpr fun x hx => hm x (List.mem_of_mem_drop hx)
  constructor
  · unfold funV
    rw [tupAt_tup hc]
    show (nmS (fName i) && (tupOf H 3 (fun _ x => nmV x) (.ref pa) && (tupOf H 3 (fun _ x => nmV x) (.ref oa) && (tupAt H (.ref e)).isSome))) = _
    rw [nm_f hi, tupOf_tup hp, tupOf_tup ho, tupAt_tup he]
    show (true && ((decide ((ns.take (sz "name").toNat).length ≤ 3) && (ns.take (sz "name").toNat).all nmV) && ((decide ((ns.drop (sz "name").toNat).length ≤ 3) && (ns.drop (sz "name").toNat).all nmV) && true))) = _
    rw [a1, a2, List.length_take, List.length_drop]
    have e1 : decide (min (sz "name").toNat ns.length ≤ 3) = decide (sz "name" ≤ 3) := decide_eq_decide.mpr (by omega)
    have e2 : decide (ns.length - (sz "name").toNat ≤ 3) = decide (sz "name" ≤ 3) := decide_eq_decide.mpr (by omega)
    rw [e1, e2]
    simp
  · unfold ownV
    rw [tupAt_tup hc]
    show (thingsV H (.ref pa)).map strV ++ (thingsV H (.ref oa)).map strV = _
    rw [things_tup hp, things_tup ho, ← List.map_append, List.take_append_drop]
theorem nms_fun {ns xs : List V} (h : Lst (FunAt H sz ns) xs) : ∀ i x, (nmsOf H xs)[i]? = some x → x = fName i := by
  intro i x hx
  unfold nmsOf at hx
  rw [List.getElem?_map] at hx
  cases e : xs[i]? with
  | none => rw [e] at hx; cases hx
  | some v =>
    rw [e] at hx
    obtain ⟨c, pa, oa, e', rfl, hc, _⟩ := h i v e
    have hx' : strV (fstV H (.ref c)) = x := by simpa using hx
    have ef : fstV H (.ref c) = .str (fName i) := by unfold fstV; rw [tupAt_tup hc]
    rw [ef] at hx'
    exact hx'.symm
theorem funs_eq (B : Bnd sz) {b l f r : Addr} (h : PartsAt H sz b l f r) {ts : List Str} (hts : ts.Nodup) (htn : ∀ x ∈ ts, ∃ i, x = nameAt sz (97 + i)) : funsOk H ts (.ref f) = decide (sz "function" ≤ 4 ∧ sz "name" ≤ 3) := by
  obtain ⟨xf, ns, hf, lf, ln, hn, Lf⟩ := h.funs
  have B1 := B.fn
  have B2 := B.name
  have nf : xf ≠ [] := fun z => by rw [z] at lf; simp at lf; omega
  have e1 : xf.all (funV H) = decide (sz "name" ≤ 3) := all_const (fun x hx => by
    obtain ⟨i, hi, hx⟩ := Lf.mem hx
    exact (fun_eq B ln hn (by omega) hx).1) nf
  have e2 : (nmsOf H xf).Nodup := nodup_of (F := fName) (fun i j e => f_inj e) (nms_fun Lf)
  have hd : (ts ++ ns.map strV).Nodup := by
    rw [List.nodup_append]
    refine ⟨hts, nodup_of (F := pName) (fun i j e => p_inj e) (pn_at hn), ?_⟩
    intro x hx y hy e
    obtain ⟨i, rfl⟩ := htn x hx
    obtain ⟨j, hj, ej⟩ := List.getElem_of_mem hy
    have h2 := pn_at hn j y (by rw [List.getElem?_eq_getElem hj, ej])
    exact name_p B (e.trans h2)
  have e3 : (xf.all fun g => decide (ts ++ ownV H g).Nodup) = true := List.all_eq_true.mpr fun x hx => by
    obtain ⟨i, hi, hx⟩ := Lf.mem hx
    rw [(fun_eq B ln hn (by omega) hx).2]
    exact decide_eq_true hd
  unfold funsOk
  rw [tupOf_tup hf, things_tup hf, e1, decide_eq_true e2, e3]
  by_cases c1 : sz "function" ≤ 4
  · have c1' : xf.length ≤ 4 := by omega
    rw [decide_eq_true c1']
    by_cases c2 : sz "name" ≤ 3
    · rw [decide_eq_true c2, decide_eq_true (show _ ∧ _ from ⟨c1, c2⟩)]; rfl
    · rw [decide_eq_false c2, decide_eq_false (fun z => c2 z.2)]; rfl
  · have c1' : ¬ xf.length ≤ 4 := by omega
    rw [decide_eq_false c1', decide_eq_false (show ¬ (sz "function" ≤ 4 ∧ sz "name" ≤ 3) from fun z => c1 z.1)]
    simp
end
end K05

set_option Elab.async false
set_option linter.all false
set_option maxRecDepth 100000
set_option maxHeartbeats 4000000
namespace K05
open PySem L2
theorem val_merge {k : Key} {u : V} : ∀ {l acc : List (Key × V)}, (∀ kv ∈ l, kv.1 = k → kv.2 = u) → ((∃ kv ∈ l, kv.1 = k) ∨ valV acc k = some u) → valV (mergeK acc l) k = some u
  | [], acc, _, h => by
    rcases h with ⟨kv, hkv, _⟩ | h
    · simp at hkv
    · exact h
  | p :: r, acc, ha, h => by
    show valV (mergeK (putK acc p.1 p.2) r) k = some u
    refine val_merge (fun kv hkv => ha kv (List.mem_cons_of_mem _ hkv)) ?_
    rw [valV_put]
    by_cases c : k = p.1
    · exact .inr (by rw [if_pos c, ha p List.mem_cons_self c.symm])
    · rw [if_neg c]
      rcases h with ⟨kv, hkv, e⟩ | h
      · rcases List.mem_cons.mp hkv with rfl | hkv
        · exact absurd e.symm c
        · exact .inl ⟨kv, hkv, e⟩
      · exact .inr h
section
variable {H : Hp} {sz : Str → Int}
theorem pars_eq (B : Bnd sz) {ns : List V} (hl : (ns.length : Int) = 2 * sz "name") {i : Nat} {v : V} (h : FunAt H sz ns i v) : ((parsV H v).length : Int) = sz "name" ∧ strV (fstV H v) = fName i ∧ (∃ e, fourV H v = .ref e ∧ H e = some (.tup [])) ∧ frows H v = [] := by
  obtain ⟨c, pa, oa, e, rfl, hc, hp, ho, he⟩ := h
  rw [(cuts B ns).1] at hp
  have Bn := B.name
  refine ⟨?_, ?_, ⟨e, ?_, he⟩, frows_eq hc he⟩
  · rw [parsV_eq hc hp, List.length_take]
    omega
  · have ef : fstV H (.ref c) = .str (fName i) := by unfold fstV; rw [tupAt_tup hc]
    rw [ef]
    rfl
  · unfold fourV
    rw [tupAt_tup hc]
theorem kvs_val (B : Bnd sz) {ns xf : List V} (hl : (ns.length : Int) = 2 * sz "name") (L : Lst (FunAt H sz ns) xf) {i : Nat} (hi : i < xf.length) : valV (kvsOf H xf) (Sum.inr (fName i)) = some (.int (sz "name")) := by
  unfold kvsOf
  refine val_merge (fun kv hkv _ => ?_) (.inl ?_)
  · obtain ⟨x, hx, rfl⟩ := List.mem_map.mp hkv
    obtain ⟨j, _, hj⟩ := L.mem hx
    show V.int ((parsV H x).length : Int) = _
    rw [(pars_eq B hl hj).1]
  · refine ⟨_, List.mem_map.mpr ⟨xf[i], List.getElem_mem hi, rfl⟩, ?_⟩
    have hj := L i xf[i] (List.getElem?_eq_getElem hi)
    show (Sum.inr (strV (fstV H xf[i])) : Key) = _
    rw [(pars_eq B hl hj).2.1]
theorem call_ok (B : Bnd sz) {bs ls : List Str} {kvs : Kvs} {r : Bool} {k : Nat} (hs : sz "sign" ≤ 6) (hb : inN bs (.str (nameAt sz (97 + 0))) = true) {i : Nat} {v : V} (hi : i < 26) (hk : valV kvs (Sum.inr (fName i)) = some (.int (sz "name"))) (h : CallAt H sz i v) :
    isRw H bs ls kvs r (k + 1) v = true := by
  obtain ⟨c, t, z, rfl, hc, ht, hz⟩ := h
  have Bn := B.name
  rw [flat_one] at ht
  rw [isRw_cons hc]
  unfold rBody
  have e : rforms "call" = some (["box", "function", "values"] : List Str) := rfl
  rw [e]
  have p1 : rPt H bs ls kvs (isRw H bs ls kvs r k) "box" (.str (nameAt sz (97 + 0))) = true := by
    rw [rPt_box]
    show (nmS (nameAt sz (97 + 0)) && inN bs (.str (nameAt sz (97 + 0)))) = true
    rw [nm_name B (by decide), hb, decide_eq_true hs]
    rfl
  have p2 : rPt H bs ls kvs (isRw H bs ls kvs r k) "function" (.str (fName i)) = true := by
    unfold rPt
    rw [if_neg (by decide), if_neg (by decide), if_neg (by decide), if_neg (by decide), if_neg (by decide), if_pos rfl]
    show (nmS (fName i) && (valV kvs (Sum.inr (fName i))).isSome) = true
    rw [nm_f hi, hk]
    rfl
  have p3 : rPt H bs ls kvs (isRw H bs ls kvs r k) "values" (.ref t) = true := by
    unfold rPt
    rw [if_neg (by decide), if_neg (by decide), if_pos rfl, rowsB_tup ht]
    refine List.all_eq_true.mpr fun x hx => ?_
    rw [(List.mem_replicate.mp hx).2, isVal_num hz rfl]
    rfl
  have p4 : callB H kvs [.str (nameAt sz (97 + 0)), .str (fName i), .ref t] = true := by
    show (match tupAt H (.ref t) with
      | some xs => decide (valV kvs (Sum.inr (fName i)) = some (V.int (xs.length : Int)))
      | none => false) = true
    rw [tupAt_tup ht, hk]
    dsimp only
    rw [List.length_replicate]
    refine decide_eq_true ?_
    congr 2
    omega
  show (decide (3 = 3) && (!(decide (("call" : Str) = "return") && !r) && (([(("box" : Str), V.str (nameAt sz (97 + 0))), (("function" : Str), V.str (fName i)), (("values" : Str), V.ref t)].all fun p => rPt H bs ls kvs (isRw H bs ls kvs r k) p.1 p.2) && (!decide (("call" : Str) = "call") || callB H kvs [.str (nameAt sz (97 + 0)), .str (fName i), .ref t])))) = true
  rw [List.all_cons, List.all_cons, List.all_cons, List.all_nil, p4]
  show (decide (3 = 3) && (!(decide (("call" : Str) = "return") && !r) && ((rPt H bs ls kvs (isRw H bs ls kvs r k) "box" (.str (nameAt sz (97 + 0))) && (rPt H bs ls kvs (isRw H bs ls kvs r k) "function" (.str (fName i)) && (rPt H bs ls kvs (isRw H bs ls kvs r k) "values" (.ref t) && true))) && (!decide (("call" : Str) = "call") || true)))) = true
  rw [p1, p2, p3, decide_eq_false (show ¬ (("call" : Str) = "return") by decide)]
  simp
theorem tell_ok {bs ls : List Str} {kvs : Kvs} {r : Bool} {k : Nat} {c z : Addr} (hc : H c = some (.tup [.str "tell", .ref z])) (hz : H z = some (.tup [.str "number", .int 1])) : isRw H bs ls kvs r (k + 1) (.ref c) = true := by
  rw [isRw_cons hc, rBody_plain (ks := ["value"]) rfl rfl (by decide) (by decide)]
  show ([(("value" : Str), V.ref z)].all fun p => rPt H bs ls kvs (isRw H bs ls kvs r k) p.1 p.2) = _
  rw [List.all_cons, List.all_nil]
  show (rPt H bs ls kvs (isRw H bs ls kvs r k) "value" (.ref z) && true) = _
  rw [rPt_value, isVal_num hz rfl]
  rfl
theorem call_cnt {i k : Nat} {v : V} (h : CallAt H sz i v) : cnt H (k + 1) [v] = 1 := by
  obtain ⟨c, t, z, rfl, hc, ht, hz⟩ := h
  rw [cnt_cons, cnt_nil, inner_eq hc (ks := ["box", "function", "values"]) rfl]
  show 1 + cnt H k [] + 0 = 1
  rw [cnt_nil]
theorem tell_cnt {k : Nat} {c z : Addr} (hc : H c = some (.tup [.str "tell", .ref z])) : cnt H (k + 1) [V.ref c] = 1 := by
  rw [cnt_cons, cnt_nil, inner_eq hc (ks := ["value"]) rfl]
  show 1 + cnt H k [] + 0 = 1
  rw [cnt_nil]
theorem cnt_ones {k : Nat} : ∀ {xs : List V}, (∀ x ∈ xs, cnt H (k + 1) [x] = 1) → cnt H (k + 1) xs = xs.length
  | [], _ => by rw [cnt_nil]; rfl
  | x :: r, h => by
    have e : x :: r = [x] ++ r := rfl
    rw [e, cnt_app, h x List.mem_cons_self, cnt_ones fun y hy => h y (List.mem_cons_of_mem _ hy), List.length_append]
    rfl
end
end K05

set_option Elab.async false
set_option linter.all false
set_option maxRecDepth 100000
set_option maxHeartbeats 4000000
namespace K05
open PySem L2
section
variable {H : Hp} {sz : Str → Int}
theorem nms_len (xs : List V) : (nmsOf H xs).length = xs.length := List.length_map _
theorem in_box (B : Bnd sz) {xb : List V} (lb : (xb.length : Int) = sz "box") (L : Lst (BoxAt H sz) xb) : inN (nmsOf H xb) (.str (nameAt sz (97 + 0))) = true := by
  show ((nmsOf H xb).map V.str).any _ = true
  have h0 : 0 < (nmsOf H xb).length := by rw [nms_len]; have := B.box; omega
  have e := nms_box L 0 _ (List.getElem?_eq_getElem h0)
  refine List.any_eq_true.mpr ⟨V.str ((nmsOf H xb)[0]), List.mem_map.mpr ⟨_, List.getElem_mem h0, rfl⟩, ?_⟩
  rw [e]
  show (nameAt sz (97 + 0) == nameAt sz (97 + 0)) = true
  exact beq_self_eq_true _
theorem rows_eq (B : Bnd sz) {b l f r : Addr} {xb xl xf : List V} (h : PartsAt H sz b l f r) (hb : H b = some (.tup xb)) (hf : H f = some (.tup xf)) (hs : sz "sign" ≤ 6) : rowsOk H xb xl xf (.ref r) = decide (sz "deep" ≤ 4 ∧ sz "row" ≤ 5) := by
  obtain ⟨xb', hb', lb, Lb⟩ := h.boxes
  rw [hb] at hb'; cases hb'
  obtain ⟨xf', ns, hf', lf, ln, hn, Lf⟩ := h.funs
  rw [hf] at hf'; cases hf'
  obtain ⟨v, xr, c, z, hr, hv, lr, Lr, hc, hz⟩ := h.rows
  have B1 := B.deep
  have B2 := B.row
  have B3 := B.fn
  have e1 : xf.all (fRows H xb xl xf) = true := List.all_eq_true.mpr fun x hx => by
    obtain ⟨i, _, hx⟩ := Lf.mem hx
    obtain ⟨_, _, ⟨e, e4, he⟩, _⟩ := pars_eq B ln hx
    unfold fRows
    rw [e4, rowsB_tup he]
    rfl
  have hib := in_box B lb Lb
  have e2 : isRw H (nmsOf H xb) (nmsOf H xl) (kvsOf H xf) false 5 v = (decide ((sz "row" - 1).toNat < 5) && decide ((sz "deep" - 1).toNat < 4)) := isRw_RN (by rw [show (97 : Nat) = 97 + 0 from rfl, nm_name B (by decide), decide_eq_true hs]) hib hv
  have e3 : xr.all (isRw H (nmsOf H xb) (nmsOf H xl) (kvsOf H xf) false 5) = true := List.all_eq_true.mpr fun x hx => by
    obtain ⟨i, hi, hx⟩ := Lr.mem hx
    exact call_ok B hs hib (by omega) (kvs_val B ln Lf (by omega)) hx
  unfold rowsOk
  rw [e1, rowsB_tup hr, flat_one, List.all_append, List.all_cons, e2, e3, Bool.true_and]
  have e4 : (List.replicate (sz "rows" - (2 * sz "function" + sz "row")).toNat (V.ref c)).all (isRw H (nmsOf H xb) (nmsOf H xl) (kvsOf H xf) false 5) = true := List.all_eq_true.mpr fun x hx => by
    rw [(List.mem_replicate.mp hx).2]
    exact tell_ok hc hz
  rw [e4, Bool.and_true, Bool.and_true, ← Bool.decide_and]
  exact decide_eq_decide.mpr (by omega)
theorem total_eq (B : Bnd sz) {b l f r : Addr} (h : PartsAt H sz b l f r) (hw : sz "row" ≤ 5) : (total H (.ref f) (.ref r) : Int) = sz "rows" := by
  obtain ⟨xf, ns, hf, lf, ln, hn, Lf⟩ := h.funs
  obtain ⟨v, xr, c, z, hr, hv, lr, Lr, hc, hz⟩ := h.rows
  have B2 := B.row
  have B3 := B.fn
  have B4 := B.rows
  have e1 : cntF H xf = xf.length := by
    have : xf.map (fun g => 1 + cnt H 5 (frows H g)) = xf.map (fun _ => 1) := List.map_congr_left fun x hx => by
      obtain ⟨i, _, hx⟩ := Lf.mem hx
      rw [(pars_eq B ln hx).2.2.2, cnt_nil]
    unfold cntF
    rw [this]
    clear this lf hf Lf
    induction xf with
    | nil => rfl
    | cons a t ih => rw [List.map_cons, List.sum_cons, ih, List.length_cons]; omega
  have e2 : cnt H 5 [v] = (sz "row" - 1).toNat + 1 := cnt_RN hv (by omega)
  have e3 : cnt H 5 xr = xr.length := cnt_ones fun x hx => by
    obtain ⟨i, _, hx⟩ := Lr.mem hx
    exact call_cnt hx
  have e4 : cnt H 5 (List.replicate (sz "rows" - (2 * sz "function" + sz "row")).toNat (V.ref c)) = (sz "rows" - (2 * sz "function" + sz "row")).toNat := by
    rw [cnt_ones fun x hx => by rw [(List.mem_replicate.mp hx).2]; exact tell_cnt hc, List.length_replicate]
  unfold total
  rw [things_tup hf, things_tup hr, flat_one, e1, cnt_app]
  have e5 : cnt H 5 (v :: xr) = cnt H 5 [v] + cnt H 5 xr := by rw [← cnt_app]; rfl
  rw [e5, e2, e3, e4]
  omega
/-- what program_of says of the drawn parts is what is due -/
theorem verdict_eq (B : Bnd sz) {b l f r : Addr} (h : PartsAt H sz b l f r) : verdict H (.ref b) (.ref l) (.ref f) (.ref r) = (if dueOf sz = "program" then 1 else if dueOf sz = "row" then 2 else if dueOf sz = "long" then 3 else 0) := by
  obtain ⟨xb, hb, lb, Lb⟩ := h.boxes
  obtain ⟨xl, hl, ll, Ll⟩ := h.lists
  obtain ⟨xf, ns, hf, lf, ln, hn, Lf⟩ := h.funs
  obtain ⟨v, xr, c, z, hr, _⟩ := id h.rows
  have n1 : ¬ (("row" : Str) = "program") := by decide
  have n2 : ¬ (("long" : Str) = "program") := by decide
  have n3 : ¬ (("long" : Str) = "row") := by decide
  have n4 : ¬ (("" : Str) = "program") := by decide
  have n5 : ¬ (("" : Str) = "row") := by decide
  have n6 : ¬ (("" : Str) = "long") := by decide
  unfold verdict
  rw [vars_eq B h]
  by_cases c1 : sz "box" ≤ 6 ∧ sz "list" ≤ 3 ∧ sz "thing" ≤ 12 ∧ sz "sign" ≤ 6 ∧ sz "number" ≤ 999999
  case neg =>
    rw [if_pos (decide_eq_false c1)]
    have : dueOf sz = "program" := by
      unfold dueOf
      split
      · rfl
      split
      · rfl
      split
      · rfl
      · exact absurd (by omega) c1
    rw [if_pos this]
  rw [if_neg (by rw [decide_eq_true c1]; exact Bool.noConfusion)]
  have hN : (nmsOf H (thingsV H (.ref b)) ++ nmsOf H (thingsV H (.ref l))).Nodup := by
    have := vars_eq B h
    rw [decide_eq_true c1] at this
    unfold varsOk at this
    rw [Bool.and_eq_true, Bool.and_eq_true] at this
    exact of_decide_eq_true this.2.2
  rw [funs_eq B h hN (fun x hx => by
    rw [things_tup hb, things_tup hl] at hx
    rcases List.mem_append.mp hx with hx | hx
    · obtain ⟨i, hi, e⟩ := List.getElem_of_mem hx
      exact ⟨i, nms_box Lb i x (by rw [List.getElem?_eq_getElem hi, e])⟩
    · obtain ⟨i, hi, e⟩ := List.getElem_of_mem hx
      exact ⟨7 + i, nms_list Ll i x (by rw [List.getElem?_eq_getElem hi, e])⟩)]
  by_cases c2 : sz "function" ≤ 4 ∧ sz "name" ≤ 3
  case neg =>
    rw [if_pos (decide_eq_false c2)]
    have : dueOf sz = "program" := by
      unfold dueOf
      split
      · rfl
      split
      · rfl
      · exact absurd (by omega) c2
    rw [if_pos this]
  rw [if_neg (by rw [decide_eq_true c2]; exact Bool.noConfusion), if_neg (by rw [tupAt_tup hr]; exact Option.some_ne_none _), things_tup hb, things_tup hl, things_tup hf, rows_eq B h hb hf c1.2.2.2.1]
  by_cases c3 : sz "deep" ≤ 4 ∧ sz "row" ≤ 5
  case neg =>
    rw [if_pos (decide_eq_false c3)]
    have : dueOf sz = "row" := by
      unfold dueOf
      rw [if_neg (by omega), if_neg (by omega), if_neg (by omega), if_pos (by omega)]
    rw [this, if_neg n1, if_pos rfl]
  rw [if_neg (by rw [decide_eq_true c3]; exact Bool.noConfusion)]
  have ht := total_eq B h c3.2
  have hdu : dueOf sz = (if 60 < sz "rows" then ("long" : Str) else ("" : Str)) := by
    unfold dueOf
    rw [if_neg (by omega), if_neg (by omega), if_neg (by omega), if_neg (by omega)]
  by_cases c4 : 60 < sz "rows"
  · rw [if_pos c4] at hdu
    rw [if_pos (by omega), hdu, if_neg n2, if_neg n3, if_pos rfl]
  · rw [if_neg c4] at hdu
    rw [if_neg (by omega), hdu, if_neg n4, if_neg n5, if_neg n6]
end
end K05

set_option Elab.async false
set_option linter.all false
set_option maxRecDepth 100000
set_option maxHeartbeats 4000000
namespace K05
open PySem L2
section
variable {p : Addr} {H : Hp} {sz : Str → Int}
theorem Dt.tup {n : Nat} {a : Addr} {xs : List V} (h : H a = some (.tup xs)) (hl : xs.length ≤ 9100) (hx : ∀ x ∈ xs, Dt p H n x) : Dt p H (n + 1) (.ref a) := .inl ⟨xs, h, hl, hx⟩
theorem Dt.int {n : Nat} {i : Int} : Dt p H (n + 1) (.int i) := trivial
theorem Dt.text {n : Nat} {x : Str} (h : x.length ≤ 9100) : Dt p H (n + 1) (.str x) := h
theorem dt_num {n : Nat} {a : Addr} {i : Int} (h : H a = some (.tup [.str "number", .int i])) : Dt p H (n + 2) (.ref a) := Dt.tup h (by simp) fun x hx => by
  simp at hx
  rcases hx with rfl | rfl
  · exact Dt.text (by decide +kernel)
  · exact Dt.int
theorem dt_VN : ∀ {n : Nat} {v : V}, VN H n v → Dt p H (n + 2) v
  | _, _, .zero h => dt_num h
  | n + 1, _, .succ h1 h2 h3 => Dt.tup h1 (by simp) fun x hx => by
    simp at hx
    rcases hx with rfl | rfl | rfl
    · exact Dt.text (by decide +kernel)
    · exact dt_VN h2
    · exact dt_num h3
theorem dt_RN {nm : Str} {m : Nat} (hnm : nm.length ≤ 9100) : ∀ {n : Nat} {v : V}, RN H nm m n v → Dt p H (m + 2 * n + 4) v
  | _, _, .tell h1 h2 => Dt.tup h1 (by simp) fun x hx => by
    simp at hx
    rcases hx with rfl | rfl
    · exact Dt.text (by decide +kernel)
    · exact (dt_VN h2).up (by omega)
  | n + 1, _, .whl h1 h2 h3 h4 => Dt.tup (p := p) (n := m + 2 * n + 5) h1 (by simp) fun x hx => by
    simp at hx
    rcases hx with rfl | rfl | rfl
    · exact Dt.text (by decide +kernel)
    · exact (dt_num (n := 0) h2).up (by omega)
    · exact Dt.tup h3 (by simp) fun y hy => by simp at hy; subst hy; exact dt_RN hnm h4
  | n + 1, _, .iff h1 h2 h3 h4 h5 => Dt.tup (p := p) (n := m + 2 * n + 5) h1 (by simp) fun x hx => by
    simp at hx
    rcases hx with rfl | rfl | rfl | rfl
    · exact Dt.text (by decide +kernel)
    · exact (dt_num (n := 0) h2).up (by omega)
    · exact Dt.tup h3 (by simp) fun y hy => by simp at hy
    · exact Dt.tup h4 (by simp) fun y hy => by simp at hy; subst hy; exact dt_RN hnm h5
  | n + 1, _, .try h1 h2 h3 h4 => Dt.tup (p := p) (n := m + 2 * n + 5) h1 (by simp) fun x hx => by
    simp at hx
    rcases hx with rfl | rfl | rfl | rfl
    · exact Dt.text (by decide +kernel)
    · exact Dt.tup h2 (by simp) fun y hy => by simp at hy; subst hy; exact dt_RN hnm h4
    · exact Dt.text hnm
    · exact Dt.tup h3 (by simp) fun y hy => by simp at hy
theorem name_len (B : Bnd sz) (i : Nat) : (nameAt sz (97 + i)).length ≤ 9100 := by
  have e := mul_cps (c := 97 + i) (n := sz "sign") (by have := B.sign; omega)
  unfold nameAt
  rw [str_len, e, List.length_replicate]
  have := B.sign
  omega
theorem dt_parts (B : Bnd sz) {b l f r : Addr} (h : PartsAt H sz b l f r) : Dt p H 30 (.ref b) ∧ Dt p H 30 (.ref l) ∧ Dt p H 30 (.ref f) ∧ Dt p H 30 (.ref r) := by
  obtain ⟨xb, hb, lb, Lb⟩ := h.boxes
  obtain ⟨xl, hl, ll, Ll⟩ := h.lists
  obtain ⟨xf, ns, hf, lf, ln, hn, Lf⟩ := h.funs
  obtain ⟨v, xr, c, z, hr, hv, lr, Lr, hc, hz⟩ := h.rows
  have B1 := B.box
  have B2 := B.list
  have B3 := B.fn
  have B4 := B.name
  have B5 := B.thing
  have B6 := B.rows
  have B7 := B.row
  have B8 := B.deep
  have ps : ∀ x ∈ ns, Dt p H 27 x := fun x hx => by
    obtain ⟨i, _, rfl⟩ := hn.mem hx
    exact Dt.text (by rw [str_len, p_cps]; show 2 ≤ 9100; omega)
  refine ⟨Dt.tup hb (by omega) fun x hx => ?_, Dt.tup hl (by omega) fun x hx => ?_, Dt.tup hf (by omega) fun x hx => ?_, Dt.tup hr ?_ fun x hx => ?_⟩
  · obtain ⟨i, _, c', rfl, hc'⟩ := Lb.mem hx
    exact Dt.tup hc' (by simp) fun y hy => by
      simp at hy
      rcases hy with rfl | rfl
      · exact Dt.text (name_len B i)
      · exact Dt.int
  · obtain ⟨i, _, c', t, rfl, hc', ht⟩ := Ll.mem hx
    rw [flat_one] at ht
    exact Dt.tup hc' (by simp) fun y hy => by
      simp at hy
      rcases hy with rfl | rfl
      · exact Dt.text (name_len B (7 + i))
      · exact Dt.tup ht (by rw [List.length_replicate]; omega) fun u hu => by rw [(List.mem_replicate.mp hu).2]; exact Dt.int
  · obtain ⟨i, _, c', pa, oa, e, rfl, hc', hp, ho, he⟩ := Lf.mem hx
    rw [(cuts B ns).1] at hp
    rw [(cuts B ns).2] at ho
    exact Dt.tup hc' (by simp) fun y hy => by
      simp at hy
      rcases hy with rfl | rfl | rfl | rfl
      · exact Dt.text (by rw [str_len, f_cps]; show 2 ≤ 9100; omega)
      · exact Dt.tup hp (by rw [List.length_take]; omega) fun u hu => ps u (List.mem_of_mem_take hu)
      · exact Dt.tup ho (by rw [List.length_drop]; omega) fun u hu => ps u (List.mem_of_mem_drop hu)
      · exact Dt.tup he (by simp) fun u hu => by simp at hu
  · rw [flat_one, List.length_append, List.length_cons, List.length_replicate]
    omega
  · rw [flat_one] at hx
    rcases List.mem_append.mp hx with hx | hx
    · rcases List.mem_cons.mp hx with rfl | hx
      · exact (dt_RN (name_len B 0) hv).up (by omega)
      · obtain ⟨i, _, c', t, z', rfl, hc', ht, hz'⟩ := Lr.mem hx
        rw [flat_one] at ht
        exact Dt.tup hc' (by simp) fun y hy => by
          simp at hy
          rcases hy with rfl | rfl | rfl | rfl
          · exact Dt.text (by decide +kernel)
          · exact Dt.text (name_len B 0)
          · exact Dt.text (by rw [str_len, f_cps]; show 2 ≤ 9100; omega)
          · exact Dt.tup ht (by rw [List.length_replicate]; omega) fun u hu => by rw [(List.mem_replicate.mp hu).2]; exact (dt_num (n := 0) hz').up (by omega)
    · rw [(List.mem_replicate.mp hx).2]
      exact Dt.tup hc (by simp) fun y hy => by
        simp at hy
        rcases hy with rfl | rfl
        · exact Dt.text (by decide +kernel)
        · exact (dt_num (n := 0) hz).up (by omega)
end
end K05

set_option Elab.async false
set_option linter.all false
set_option maxRecDepth 100000
set_option maxHeartbeats 4000000
/-! == of two tuples whose items are alike. -/
namespace L2
open PySem PySem.Spec PyProof.Rows PySem.SeqAt
theorem op_eqTA {X : Cx} (hu : X.A.units + 64 < cLine) : OpR X (compareOp .Eq) (fun x y H Q => ∃ (a b : Addr) (xs ys : List V) (n : Nat), x = .ref a ∧ y = .ref b ∧ SqT X.K H a xs ∧ SqT X.K H b ys ∧ n ≤ 60 ∧ Paired (Alike H n) xs ys ∧ Q (.bl true) H) := by
  intro pins s σ H x y v u Q I rx ry h
  obtain ⟨a, b, xs, ys, n, rfl, rfl, ha, hb, hn, p, q⟩ := h
  cases rx
  cases ry
  obtain ⟨its, r1, p1, _⟩ := I.tuple ha
  obtain ⟨jts, r2, p2, _⟩ := I.tuple hb
  have hl : its.toArray.size = jts.toArray.size := by rw [List.size_toArray, List.size_toArray, ← r1.length, ← r2.length, p.length]
  refine SeqAt.eq_tupleAt (e := fun _ => true) (show s.heap.IsTuple a its.toArray from p1) (show s.heap.IsTuple b jts.toArray from p2) (by omega) (fun j h1 h2 => ?_) ⟨.bl true, H, I, ?_, q⟩
  · obtain ⟨x, y, hxy, rx, ry⟩ := items_alike p r1 r2 h1 h2
    exact alike_eq I hxy rx ry (by show X.A.units + 1 + n < cLine; omega)
  · show Value.bool _ = Value.bool true
    congr 1
    rw [hl]; simp
end L2

set_option Elab.async false
set_option linter.all false
set_option maxRecDepth 100000
set_option maxHeartbeats 4000000
/-! A try whose handler knows the names that were set ahead of the call that raises. -/
namespace L2
open PySem PySem.Spec PyProof.Rows
abbrev Cx.trS (X : Cx) (pn : List (Addr × Obj)) (E1 : St → XK) : Cx := { X with pn := pn, xe := fun e s' => ∃ σ H s, Inv { X with pn := pn } [] σ H s ∧ CX1 X.prog X.w X.stack H s (E1 σ) e s' }
/-- what is raised here is wanted by the names as they are -/
def PassesS (X : Cx) (E : St → XK) : Prop := ∀ (pins : List (Addr × Obj)) (σ : St) (H : Hp) (s : Shared) (e : Value) (s' : Shared), Inv X pins σ H s → CX1 X.prog X.w X.stack H s (E σ) e s' → X.xe e s'
theorem trS_pass {X : Cx} {pn : List (Addr × Obj)} {E1 : St → XK} : PassesS (X.trS pn E1) E1 := by
  intro pins σ H s e s' I h
  refine ⟨σ, H, s, ?_, h⟩
  have J : Inv (X.trS pn E1) [] σ H s := I.pins_of fun p hp => absurd hp (by simp)
  exact ⟨J.ok.pnx pn X.xe, J.os, J.bare, J.base, J.loc, J.cell, J.free, J.freeC, J.pin, J.hok, J.len⟩
def tDefXS (sp : Sp) (E : St → XK) (t : TA) : TE := fun σ H Q => t σ H fun vs H1 => sp vs H1 Q (E σ)
theorem pe_defXS {X : Cx} {k : Nat} {x : Str} {ps : List Str} {sp : Sp} {E : St → XK} {p pos : Pos} {e : Expr} {es : List Expr} {t : TA} (D : DefX X.prog X.w X.K X.mg X.base k x ps sp) (hr : Room k X.A) (hp : PassesS X E) (hg : Gl X x) (ha : PA X (e :: es) t)
    (hdb : (x == ("__debug__" : Str)) = false := by decide) (hpl : (e :: es).all plainE = true := by rfl) : PE X (.Call (.Name x p) (e :: es) [] pos) (tDefXS sp E t) := by
  obtain ⟨f, fd, F, hm, hk, hb⟩ := D.ex
  intro pins s σ H Q I h
  rw [List.all_cons, Bool.and_eq_true] at hpl
  refine wpAny_Call_Name_kw (ld_glob I hg hm ?_ hdb)
  refine PySem.W.callWith_K (h₀ := X.base) I.ok.mod.kin hk (thn (ha pos pins s σ H _ I h) fun us s1 ⟨vs, H1, I1, r, q⟩ => ⟨I1.kIn, ?_⟩) (star_cons hpl.1) (star_all hpl.2)
  have hl : us.length = ps.length := by rw [← r.length]; exact F.len _ _ _ _ q
  refine wpAny_call (codeAny_mono (F.run X.A X.stack s1 H1 ⟨us, []⟩ us vs Q (E σ) hr I1.env0 (by have w := hb s1 us I1.kIn (by simpa using hl); simpa using w) r q) fun r s' hq => ?_)
  cases r with
  | error e => exact hp pins σ H1 s1 e s' I1 hq
  | ok fl =>
    cases fl with
    | ret u => exact I1.after hq
    | next => exact False.elim hq
    | brk => exact False.elim hq
    | cont => exact False.elim hq
def tTryS (K : PySem.W.Frag) (R : Addr) (L i : Nat) (tb : (St → XK) → TS) (ts : Addr → Addr → TS) : TS := fun D σ H => ∃ E1 : St → XK, tb E1 D σ H ∧
  ∀ (C : Addr) (od : Option Addr) (H' : Hp) (a : Addr) (σ' : St), E1 σ' (.ref C) od H' → σ'.length = L → PySem.W.subIn K (.ref C) (.ref R) = some true ∧ ts a C (goneEnds i D) (σ'.set i (some (.ref a))) H'
theorem ps_tryS {X : Cx} {x n : Str} {R : Addr} {i : Nat} {body suite : List Stmt} {b0 : Stmt} {np hpos pos : Pos} {tb : (St → XK) → TS} {ts : Addr → Addr → TS} (fr : Frm X) (hN : X.N.Nodup) (hi : X.N[i]? = some n) (hl : X.env.scope.names.lookup n = some .local) (hf : X.fn n = true)
    (hg : Gl X x) (hm : X.mg x = some (.ref R)) (hR : HitK X.K R) (hb : ∀ pn E1, PSs (X.trS pn E1) body (tb E1)) (hs : ∀ pn a C, Hd (X.hn pn a) a C → PSs (X.hn pn a) (b0 :: suite) (ts a C))
    (hd : (x == ("__debug__" : Str)) = false := by decide) : PS X (.Try body [.ExceptHandler (some (.Name x np)) (some n) (b0 :: suite) hpos] [] [] pos) (tTryS X.K R X.N.length i tb ts) := by
  intro pins s σ H D I h
  obtain ⟨E1, hb1, hh⟩ := h
  have ok := I.ok
  refine wpAny_Try_except (wpAny_mono (hb (X.pn ++ pins) E1 [] s σ H D (I.toPn _) hb1) (fun f s1 q => ?_) fun e s1 q => ?_)
  · have q' := SP.ofPn ok q
    cases f with
    | next => exact wpAny_execs_nil q'
    | brk => exact q'
    | cont => exact q'
    | ret u => exact q'
  obtain ⟨σ', H0, s0, J, a, C, H', rfl, fly, hE⟩ := q
  obtain ⟨hsub, hsu⟩ := hh C none H' a σ' hE J.len
  have nloc : ∀ {b : Addr}, s0.heap.get? b = none → b ≠ X.env.locals := fun z e => by
    obtain ⟨m, ⟨o, _, _, ho, _⟩, _⟩ := J.loc
    rw [e] at z
    rw [z] at ho; cases ho
  have nfs : ∀ {b : Addr}, s0.heap.get? b = none → b ∉ X.fs := fun z e => by
    obtain ⟨_, o, ho, _⟩ := J.funs.mem e
    rw [z] at ho; cases ho
  have hand : ∀ {fl : Value} {s2 : Shared} (f2 : Fl X.prog X.w X.stack H0 s0 H' a C fl s2), ∃ t T, s2.heap.get? a = some (exo C t (.ref T)) ∧ Inv (X.hn ((a, exo C t (.ref T)) :: (X.pn ++ pins)) a) [] σ' H' s2 := fun {fl s2} f2 => by
    obtain ⟨T, ⟨⟨t, ha⟩, _⟩, _⟩ := f2.ex
    exact ⟨t, T, ha, (f2.inv (X := { X with pn := X.pn ++ pins }) J).toHn ha f2.na (nloc f2.new) (nfs f2.new) (by intro v z; cases z)⟩
  refine fly.note (X := { X with pn := X.pn ++ pins }) J fr.st fr.fr ok.frames fun s2 f2 => ?_
  refine f2.land (X := { X with pn := X.pn ++ pins }) (f2.frF (X := { X with pn := X.pn ++ pins }) J) fun s3 f3 => ?_
  obtain ⟨t3, T3, ha3, I3⟩ := hand f3
  refine wpAny_handleBy_cons (codeAny_handlers_test ?_) (by intro z; cases z)
  refine ld_glob (X := X.hn ((a, exo C t3 (.ref T3)) :: (X.pn ++ pins)) a) I3 hg hm ?_ hd
  refine exc_hit I3.kIn hR ha3 rfl hsub ?_
  refine codeAny_handlers_suite_as ?_
  refine f3.land (X := { X with pn := X.pn ++ pins }) (f3.frF (X := { X with pn := X.pn ++ pins }) J) fun s4 f4 => ?_
  obtain ⟨t4, T4, ha4, I4⟩ := hand f4
  refine store_ok (X := X.hn ((a, exo C t4 (.ref T4)) :: (X.pn ++ pins)) a) (v := .ref a) I4 hN hi (.inl hl) rfl (fun s5 I5 => ?_) (.inl hf)
  refine wpAny_mono (hs _ a C ⟨rfl, t4, .ref T4, List.mem_cons_self⟩ [] s5 _ H' (goneEnds i D) I5 hsu) (fun fl s6 q6 => ?_) fun _ _ z => z.elim
  have okP : Cx.Ok { X with pn := X.pn ++ pins } := ok.pnx _ _
  have go : ∀ {σ6 : St} {H6 : Hp} {Q : Unit → Shared → Prop}, Inv (X.hn ((a, exo C t4 (.ref T4)) :: (X.pn ++ pins)) a) [] σ6 H6 s6 → (∀ s7, Inv X pins (σ6.set i none) H6 s7 → Q () s7) →
      wpAny (model X.prog X.w) X.A (do bindName X.env n .none; unbindBehindTheSuite X.env n hpos) Q X.xe s6 := fun {σ6 H6 Q} I6 k => by
    have J6 : Inv X pins σ6 H6 s6 := Inv.ofPn (E := X.xe) ok (I6.ofHn okP)
    obtain ⟨m, hn, _⟩ := id J6.loc
    refine wpAny_nameGoes_keeps hl hn (by rw [ok.kind]; rfl) fun h' v hn' hs' => ?_
    exact k _ (J6.goes hN hi hl hn hn' hs')
  cases fl with
  | next => obtain ⟨σ6, H6, I6, q⟩ := q6; exact go I6 fun s7 I7 => ⟨_, _, I7, q⟩
  | brk => obtain ⟨σ6, H6, I6, q⟩ := q6; exact go I6 fun s7 I7 => ⟨_, _, I7, q⟩
  | cont => obtain ⟨σ6, H6, I6, q⟩ := q6; exact go I6 fun s7 I7 => ⟨_, _, I7, q⟩
  | ret u => obtain ⟨v, σ6, H6, I6, r, q⟩ := q6; exact go I6 fun s7 I7 => ⟨v, _, _, I7, r, q⟩

end L2

set_option Elab.async false
set_option linter.all false
set_option maxRecDepth 100000
set_option maxHeartbeats 4000000
namespace K05
open PySem L2
section
variable {H : Hp} {sz : Str → Int}
theorem cnt_zero (H : Hp) (l : List V) : cnt H 0 l = 0 := rfl
theorem cnt_RN_le {nm : Str} {m : Nat} : ∀ {n k : Nat} {v : V}, RN H nm m n v → cnt H k [v] ≤ n + 1
  | _, 0, _, _ => by rw [cnt_zero]; omega
  | _, k + 1, _, .tell (v := v) h1 h2 => by
    rw [cnt_cons, cnt_nil, inner_eq h1 (ks := ["value"]) rfl]
    show 1 + cnt H k [] + 0 ≤ _
    rw [cnt_nil]
    omega
  | n + 1, k + 1, _, .whl (b := b) (c := c) (v := v) h1 h2 h3 h4 => by
    rw [cnt_cons, cnt_nil, inner_eq h1 (ks := ["value", "rows"]) rfl]
    show 1 + cnt H k ([V.ref c].flatMap (rowsAt H)) + 0 ≤ _
    rw [List.flatMap_cons, List.flatMap_nil, rowsAt_tup h3]
    show 1 + cnt H k [v] + 0 ≤ _
    have := cnt_RN_le (k := k) h4
    omega
  | n + 1, k + 1, _, .iff (b := b) (e := e) (c := c) (v := v) h1 h2 h3 h4 h5 => by
    rw [cnt_cons, cnt_nil, inner_eq h1 (ks := ["value", "rows", "rows"]) rfl]
    show 1 + cnt H k ([V.ref e, V.ref c].flatMap (rowsAt H)) + 0 ≤ _
    rw [List.flatMap_cons, List.flatMap_cons, List.flatMap_nil, rowsAt_tup h3, rowsAt_tup h4]
    show 1 + cnt H k [v] + 0 ≤ _
    have := cnt_RN_le (k := k) h5
    omega
  | n + 1, k + 1, _, .try (c := c) (e := e) (v := v) h1 h2 h3 h4 => by
    rw [cnt_cons, cnt_nil, inner_eq h1 (ks := ["rows", "box", "rows"]) rfl]
    show 1 + cnt H k ([V.ref c, V.ref e].flatMap (rowsAt H)) + 0 ≤ _
    rw [List.flatMap_cons, List.flatMap_cons, List.flatMap_nil, rowsAt_tup h2, rowsAt_tup h3]
    show 1 + cnt H k [v] + 0 ≤ _
    have := cnt_RN_le (k := k) h4
    omega
theorem total_le (B : Bnd sz) {b l f r : Addr} (h : PartsAt H sz b l f r) : total H (.ref f) (.ref r) ≤ 1000000 := by
  obtain ⟨xf, ns, hf, lf, ln, hn, Lf⟩ := h.funs
  obtain ⟨v, xr, c, z, hr, hv, lr, Lr, hc, hz⟩ := h.rows
  have B2 := B.row
  have B3 := B.fn
  have B4 := B.rows
  have e1 : cntF H xf = xf.length := by
    have : xf.map (fun g => 1 + cnt H 5 (frows H g)) = xf.map (fun _ => 1) := List.map_congr_left fun x hx => by
      obtain ⟨i, _, hx⟩ := Lf.mem hx
      rw [(pars_eq B ln hx).2.2.2, cnt_nil]
    unfold cntF
    rw [this]
    clear this lf hf Lf
    induction xf with
    | nil => rfl
    | cons a t ih => rw [List.map_cons, List.sum_cons, ih, List.length_cons]; omega
  have e2 : cnt H 5 [v] ≤ (sz "row" - 1).toNat + 1 := cnt_RN_le hv
  have e3 : cnt H 5 xr = xr.length := cnt_ones fun x hx => by
    obtain ⟨i, _, hx⟩ := Lr.mem hx
    exact call_cnt hx
  have e4 : cnt H 5 (List.replicate (sz "rows" - (2 * sz "function" + sz "row")).toNat (V.ref c)) = (sz "rows" - (2 * sz "function" + sz "row")).toNat := by
    rw [cnt_ones fun x hx => by rw [(List.mem_replicate.mp hx).2]; exact tell_cnt hc, List.length_replicate]
  unfold total
  rw [things_tup hf, things_tup hr, flat_one, e1, cnt_app]
  have e5 : cnt H 5 (v :: xr) = cnt H 5 [v] + cnt H 5 xr := by rw [← cnt_app]; rfl
  rw [e5, e3, e4]
  omega
theorem PartsAt.same {H' : Hp} (s : Same H H') {b l f r : Addr} (h : PartsAt H sz b l f r) : PartsAt H' sz b l f r := by
  obtain ⟨⟨xb, hb, lb, Lb⟩, ⟨xl, hl, ll, Ll⟩, ⟨xf, ns, hf, lf, ln, hn, Lf⟩, ⟨v, xr, c, z, hr, hv, lr, Lr, hc, hz⟩⟩ := h
  exact ⟨⟨xb, s _ _ hb, lb, Lb.imp fun _ _ z => z.same s⟩, ⟨xl, s _ _ hl, ll, Ll.imp fun _ _ z => z.same s⟩, ⟨xf, ns, s _ _ hf, lf, ln, hn, Lf.imp fun _ _ z => z.same s⟩, ⟨v, xr, c, z, s _ _ hr, hv.same s, lr, Lr.imp fun _ _ z => z.same s, s _ _ hc, s _ _ hz⟩⟩
/-- what program_of takes has functions and rows that rows_of can number -/
theorem verdict_rows {p : Addr} {n : Nat} {b l f r : V} (hf : Dt p H n f) (hr : Dt p H n r) (v : verdict H b l f r = 0) : ∃ (af ar : Addr) (xf xr : List V), f = .ref af ∧ r = .ref ar ∧ H af = some (.tup xf) ∧ H ar = some (.tup xr) ∧ (∀ g ∈ xf, FnIs H g) ∧ (∀ u ∈ xr, RwOk H 5 u) ∧ total H f r = cntF H xf + cnt H 5 xr := by
  unfold verdict at v
  by_cases v1 : varsOk H b l = false
  · rw [if_pos v1] at v; cases v
  rw [if_neg v1] at v
  by_cases v2 : funsOk H (nmsOf H (thingsV H b) ++ nmsOf H (thingsV H l)) f = false
  · rw [if_pos v2] at v; cases v
  rw [if_neg v2] at v
  have v2' := eq_true_of_ne_false v2
  unfold funsOk at v2'
  rw [Bool.and_eq_true, Bool.and_eq_true] at v2'
  obtain ⟨af, xf, rfl, haf, tf, lf, allf⟩ := tupOf_parts v2'.1
  by_cases v3 : tupAt H r = none
  · rw [if_pos v3] at v; cases v
  rw [if_neg v3] at v
  obtain ⟨xr, hxr⟩ := Option.ne_none_iff_exists'.mp v3
  obtain ⟨ar, rfl, har⟩ := at_ref hxr
  by_cases v4 : rowsOk H (thingsV H b) (thingsV H l) (thingsV H (.ref af)) (.ref ar) = false
  · rw [if_pos v4] at v; cases v
  have v4' := eq_true_of_ne_false v4
  unfold rowsOk at v4'
  rw [Bool.and_eq_true, tf] at v4'
  obtain ⟨mf, hxf⟩ := hf.parts haf
  refine ⟨af, ar, xf, xr, rfl, rfl, haf, har, fun g hg => ?_, rowsB_rows hr har v4'.2, ?_⟩
  · obtain ⟨b', pa, oa, ra, y, ps, os, rs, rfl, hb', _, hp, ho, hra, _⟩ := fun_parts (List.all_eq_true.mp allf g hg)
    have e4 : fourV H (.ref b') = .ref ra := by unfold fourV; rw [tupAt_tup hb']
    have hfr := List.all_eq_true.mp v4'.1 _ hg
    unfold fRows at hfr
    rw [e4] at hfr
    obtain ⟨m', hx'⟩ := (hxf _ hg).parts hb'
    exact ⟨b', ra, _, _, _, rs, rfl, hb', hra, rowsB_rows (hx' _ (by simp)) hra hfr⟩
  · unfold total
    rw [tf, things_tup har]
end
theorem due_cases (sz : Str → Int) : dueOf sz = "program" ∨ dueOf sz = "row" ∨ dueOf sz = "long" ∨ dueOf sz = "" := by
  unfold dueOf
  split
  · exact .inl rfl
  split
  · exact .inl rfl
  split
  · exact .inl rfl
  split
  · exact .inr (.inl rfl)
  split
  · exact .inr (.inr (.inl rfl))
  · exact .inr (.inr (.inr rfl))
theorem due_one {x : Str} {k : Nat} (e : k = if x = "program" then 1 else if x = "row" then 2 else if x = "long" then 3 else 0) : (k = 1 → x = "program") ∧ (k = 2 → x = "row") ∧ (k = 3 → x = "long") ∧ (k = 0 → (x = "program" ∨ x = "row" ∨ x = "long" ∨ x = "") → x = "") := by
  subst e
  split
  · rename_i h; exact ⟨fun _ => h, fun z => absurd z (by decide), fun z => absurd z (by decide), fun z => absurd z (by decide)⟩
  split
  · rename_i h; exact ⟨fun z => absurd z (by decide), fun _ => h, fun z => absurd z (by decide), fun z => absurd z (by decide)⟩
  split
  · rename_i h; exact ⟨fun z => absurd z (by decide), fun z => absurd z (by decide), fun _ => h, fun z => absurd z (by decide)⟩
  · rename_i h1 h2 h3
    exact ⟨fun z => absurd z (by decide), fun z => absurd z (by decide), fun z => absurd z (by decide), fun _ z => (by rcases z with z | z | z | z <;> first | exact absurd z h1 | exact absurd z h2 | exact absurd z h3 | exact z)⟩
theorem due_row {sz : Str → Int} (h : dueOf sz = "") : sz "row" ≤ 5 := by
  unfold dueOf at h
  split at h
  · exact absurd h (by decide)
  split at h
  · exact absurd h (by decide)
  split at h
  · exact absurd h (by decide)
  split at h
  · exact absurd h (by decide)
  · omega
seal L2.PE L2.PS L2.PSs L2.PT L2.PW L2.PA L2.PG L2.PGs L2.PI L2.PO L2.PIfs L2.PC L2.OpR L2.CallR L2.IxR L2.SlR L2.PSet L2.UnR
section
variable {P : Program} {w : World} {K : PySem.W.Frag} {mg : Str → Option Value} {base : Heap} {R c_NoProgram c_NoRow c_TooLong c_NoWorld c_NoText c_NoStep c_NoCell c_NoDoor c_NoWord : Addr}
theorem sc_law : FnScope ["_law_script", "_law_sizes_here", "_law_parts_here", "_law_due_here", "_law_found", "_law_e"] ["_law_script"] (defScope (top 67)) := ⟨rfl, rfl, rfl, by decide +kernel, rfl, by decide +kernel, by decide +kernel⟩
def spLaw (K : PySem.W.Frag) : Sp := fun vs H Q _ => ∃ (a : Addr) (ns : List Int), vs = [.ref a] ∧ SqL K H a (ns.map V.int) ∧ ∀ H', Q (.bl true) H'
theorem d_law (T : Txt w K mg) (Z : Ecs K mg R c_NoProgram c_NoRow c_TooLong c_NoWorld c_NoText c_NoStep c_NoCell c_NoDoor c_NoWord) (D_sizes : Def P w K mg base 2 "_law_sizes" ["_law_script"] (spSizes K)) (D_parts : Def P w K mg base 3 "_law_parts" ["_law_sizes_here"] spLParts)
    (D_due : Def P w K mg base 1 "_law_due" ["_law_sizes_here"] spDue) (D_prog : DefX P w K mg base 28 "program_of" ["boxes", "lists", "functions", "rows"] (spProg c_NoProgram c_NoRow c_TooLong)) (D_rows_of : Def P w K mg base 8 "rows_of" ["program"] spRowsOf)
    (D_class : DefH P w K mg base 28 "_law_class" ["_law_e"] (spClass c_NoProgram c_NoRow c_TooLong))
    {f : Addr} {fd : FuncData} (F : Fun K "law" "law" (top 67) f fd) : FnOk P w K mg base CX0 29 f fd ["_law_script"] (spLaw K) := by
  refine F.ok sc_law (fun vs H Q E h => ?_) (fun cdv A outer s H vs Q E hr h => ?_)
  · obtain ⟨a, ns, rfl, _⟩ := h; rfl
  obtain ⟨a, ns, rfl, hS, q⟩ := h
  refine ⟨_, (pss_cons (ps_set (i := 1) sc_law.nd rfl (Or.inl rfl) (pe_def (D_sizes.mono (by decide)) hr rfl (pac (pv 0) pa_nil)))
      (pss_cons (ps_set (i := 2) sc_law.nd rfl (Or.inl rfl) (pe_def (D_parts.mono (by decide)) hr rfl (pac (pv 1) pa_nil)))
      (pss_cons (ps_set (i := 3) sc_law.nd rfl (Or.inl rfl) (pe_def (D_due.mono (by decide)) hr rfl (pac (pv 1) pa_nil)))
      (pss_cons (ps_tryS (i := 5) (R := R) ⟨rfl, rfl, rfl⟩ sc_law.nd rfl rfl rfl rfl Z.m0 Z.hit (fun pn E1 => pss_one (ps_set (i := 4) sc_law.nd rfl (Or.inl rfl) (pe_defXS D_prog hr trS_pass rfl (pac (pe_ix (show IxR _ (rIxT K) from ix_tup) (pv 2) pe_int (fun _ _ => rfl)) (pac (pe_ix (show IxR _ (rIxT K) from ix_tup) (pv 2) pe_int (fun _ _ => rfl)) (pac (pe_ix (show IxR _ (rIxT K) from ix_tup) (pv 2) pe_int (fun _ _ => rfl)) (pac (pe_ix (show IxR _ (rIxT K) from ix_tup) (pv 2) pe_int (fun _ _ => rfl)) pa_nil))))))) (fun pn a C hh => pss_one (ps_ret (pe_and (pe_cmpR op_ne (pv 3) pe_str (nomark _)) (pe_one (pe_cmpR op_eq (pe_defH D_class hh (hr.hand a) rfl (pac (pv 5) pa_nil)) (pv 3) (nomark _)))))))
      (pss_one (ps_ret (pe_and (pe_cmpR op_eq (pv 3) pe_str (nomark _)) (pe_and (pe_cmpR (op_eqTA hr.units) (pv 4) (pv 2) (nomark _)) (pe_one (pe_cmpR op_eq (pe_cB call_len_seq rfl T.z_len bt_len (pac (pe_def (D_rows_of.mono (by decide)) hr rfl (pac (pv 4) pa_nil)) pa_nil)) (pe_dget (hu_of hr) (pv 1) pe_str (fun _ _ => rfl)) (nomark _))))))))))), ?_⟩
  refine ⟨_, rfl, a, ns, rfl, hS, fun d sz H1 s1 hz hn => ?_⟩
  refine ⟨_, rfl, d, sz, rfl, hz, hn, fun t b l f r H2 s2 ht hP => ?_⟩
  refine ⟨_, rfl, d, sz, rfl, hz.same s2, fun H3 s3 => ?_⟩
  have B := hn.bnd
  have hP3 := hP.same s3
  have hz3 := (hz.same s2).same s3
  have ht3 := s3 _ _ ht
  obtain ⟨tb, tl, tf, tr⟩ := dt_parts (p := t) B hP3
  have eV := verdict_eq B hP3
  have hT := due_cases sz
  generalize hdue : dueOf sz = due at eV hT
  refine ⟨fun σ' cls _ H' => σ' = [some (.ref a), some (.ref d), some (.ref t), some (.str due), none, none] ∧ ((cls = .ref c_NoProgram ∧ due = "program") ∨ (cls = .ref c_NoRow ∧ due = "row") ∨ (cls = .ref c_TooLong ∧ due = "long")), ?_, ?_⟩
  · refine ⟨_, rfl, t, _, 0, _, rfl, rfl, SqT.of ht3, atI_nat (j := 0) rfl, _, rfl, t, _, 1, _, rfl, rfl, SqT.of ht3, atI_nat (j := 1) rfl, _, rfl, t, _, 2, _, rfl, rfl, SqT.of ht3, atI_nat (j := 2) rfl, _, rfl, t, _, 3, _, rfl, rfl, SqT.of ht3, atI_nat (j := 3) rfl, .ref b, .ref l, .ref f, .ref r, t, 30, rfl, tb, tl, tf, tr, total_le B hP3,
      fun v0 u H4 s4 hu h4 => ?_, fun v1 H4 s4 => ⟨rfl, .inl ⟨rfl, (due_one (v1.symm.trans eV)).1 rfl⟩⟩, fun v2 H4 s4 => ⟨rfl, .inr (.inl ⟨rfl, (due_one (v2.symm.trans eV)).2.1 rfl⟩)⟩, fun v3 H4 s4 => ⟨rfl, .inr (.inr ⟨rfl, (due_one (v3.symm.trans eV)).2.2.1 rfl⟩)⟩⟩
    have d0 := (due_one (v0.symm.trans eV)).2.2.2 rfl hT
    subst d0
    obtain ⟨af, ar, xf, xr, ef, er, haf, har, hF, hR, ht0⟩ := verdict_rows tf tr v0
    cases ef
    cases er
    have hrow : sz "row" ≤ 5 := due_row hdue
    have hte := total_eq B hP3 hrow
    have tk := TK.of s4
    have ec : cntF H4 xf + cnt H4 5 xr = total H3 (.ref f) (.ref r) := by rw [ht0, cntF_tk tk hF, cnt_tk tk hR]
    have hle := total_le B hP3
    refine ⟨_, rfl, rfl, _, rfl, ifT (by rw [decide_eq_true rfl]) ?_⟩
    refine ⟨_, rfl, _, rfl, u, t, _, _, 1, rfl, rfl, SqT.of h4, SqT.of (s4 _ _ ht3), by decide, .cons (.inl ⟨rfl, .inr ⟨_, rfl⟩⟩) (.cons (.inl ⟨rfl, .inr ⟨_, rfl⟩⟩) (.cons (.inl ⟨rfl, .inr ⟨_, rfl⟩⟩) (.cons (.inl ⟨rfl, .inr ⟨_, rfl⟩⟩) .nil))), _, rfl, ?_⟩
    refine ifT rfl ?_
    refine ⟨_, rfl, u, f, r, _, _, xf, xr, rfl, h4, s4 _ _ haf, s4 _ _ har, fun g hg => (hF g hg).tk tk, fun y hy => (hR y hy).tk tk, by rw [ec]; exact hle, fun H5 p us s5 hp h5 hus => ?_⟩
    rw [ec] at hus
    refine ⟨p, us, rfl, .inl (SqL.of h5), _, rfl, d, _, rfl, (((hz3.same s4).same s5).get (k := "rows") (by decide +kernel)), ?_⟩
    refine ⟨rfl, ?_⟩
    show Q (.bl (decide (V.int (us.length : Int) = V.int (sz "rows")))) H5
    rw [decide_eq_true (show V.int (us.length : Int) = V.int (sz "rows") from congrArg V.int (by omega))]
    exact q H5
  · rintro C od H' e σ' ⟨rfl, h⟩ hlen
    rcases h with ⟨e1, rfl⟩ | ⟨e1, rfl⟩ | ⟨e1, rfl⟩
    · cases e1
      refine ⟨Z.o1.sub, ?_⟩
      refine ⟨_, rfl, rfl, _, rfl, ifT (by decide) ?_⟩
      refine ⟨_, rfl, rfl, .inl ⟨rfl, fun H5 s5 => ?_⟩⟩
      exact ⟨_, rfl, rfl, q H5⟩
    · cases e1
      refine ⟨Z.o2.sub, ?_⟩
      refine ⟨_, rfl, rfl, _, rfl, ifT (by decide) ?_⟩
      refine ⟨_, rfl, rfl, .inr (.inl ⟨rfl, fun H5 s5 => ?_⟩)⟩
      exact ⟨_, rfl, rfl, q H5⟩
    · cases e1
      refine ⟨Z.o3.sub, ?_⟩
      refine ⟨_, rfl, rfl, _, rfl, ifT (by decide) ?_⟩
      refine ⟨_, rfl, rfl, .inr (.inr ⟨rfl, fun H5 s5 => ?_⟩)⟩
      exact ⟨_, rfl, rfl, q H5⟩
end
end K05

set_option Elab.async false
set_option linter.all false
set_option maxRecDepth 100000
set_option maxHeartbeats 4000000
namespace K05
open PySem L2
section
variable {w : World} {K : PySem.W.Frag} {mg : Str → Option Value} {h : Heap}
/-! ### the text's top -/
theorem src_mk {x : Str} {st : Stmt} {ps : List Str} {f : Addr} {oc : Value} {od an : Option Addr} {osl : Array (Option Value)} {kV doc pm cdv ct : Value} (X : K.In h) (G : h.Ns mainGlobals mg)
    (hb : ∀ (kV doc pm : Value) (an : Option Addr) (cdv ct : Value) (us : List Value), us.length = ps.length → bindArgs (PySem.W.fnOf x x (defArgs st) (defBody st) (defScope st) .none kV doc pm an cdv ct) ⟨us, []⟩ = pure (ps.zip us))
    (a : PySem.W.nsIn K mainGlobals x = some (some (.ref f))) (l : K.lookup f = some ⟨oc, od, .func (PySem.W.fnOf x x (defArgs st) (defBody st) (defScope st) .none kV doc pm an cdv ct), osl⟩)
    (c : PySem.W.codeIn K cdv x = true) (k : PySem.W.keepIn K (.ref f) = true) : Src K mg x st ps :=
  have F := fun_mk (st := st) l c k
  ⟨f, _, F, PySem.W.mg_of X G a, F.binds hb⟩
theorem srci_mk {qual : Str} {st : Stmt} {ps : List Str} {C f : Addr} {oc : Value} {od an : Option Addr} {osl : Array (Option Value)} {kV doc pm cdv ct : Value}
    (hb : ∀ (kV doc pm : Value) (an : Option Addr) (cdv ct : Value) (us : List Value), us.length = ps.length → bindArgs (PySem.W.fnOf "__init__" qual (defArgs st) (defBody st) (defScope st) .none kV doc pm an cdv ct) ⟨us, []⟩ = pure (ps.zip us))
    (a : PySem.W.findIn K (.ref C) "__init__" = some (some (.ref f))) (i : PySem.W.isFn K (.ref f) = true) (l : K.lookup f = some ⟨oc, od, .func (PySem.W.fnOf "__init__" qual (defArgs st) (defBody st) (defScope st) .none kV doc pm an cdv ct), osl⟩)
    (c : PySem.W.codeIn K cdv qual = true) (k : PySem.W.keepIn K (.ref f) = true) (mk : PySem.W.makesIn K C = true) (kc : PySem.W.keepIn K (.ref C) = true) : SrcI K C qual st ps :=
  have F := fun_mk (st := st) l c k
  ⟨f, _, F, ⟨mk, a, i, kc⟩, F.binds hb⟩
theorem bi14 (kV doc pm : Value) (an : Option Addr) (cdv ct : Value) (us : List Value) (hl : us.length = (["thing"] : List Str).length) : bindArgs (PySem.W.fnOf "has_word" "has_word" (defArgs (top 14)) (defBody (top 14)) (defScope (top 14)) .none kV doc pm an cdv ct) ⟨us, []⟩ = pure ((["thing"] : List Str).zip us) :=
  match us, hl with | [_], _ => rfl
theorem bi15 (kV doc pm : Value) (an : Option Addr) (cdv ct : Value) (us : List Value) (hl : us.length = (["word"] : List Str).length) : bindArgs (PySem.W.fnOf "value_kinds" "value_kinds" (defArgs (top 15)) (defBody (top 15)) (defScope (top 15)) .none kV doc pm an cdv ct) ⟨us, []⟩ = pure ((["word"] : List Str).zip us) :=
  match us, hl with | [_], _ => rfl
theorem bi16 (kV doc pm : Value) (an : Option Addr) (cdv ct : Value) (us : List Value) (hl : us.length = (["word"] : List Str).length) : bindArgs (PySem.W.fnOf "row_kinds" "row_kinds" (defArgs (top 16)) (defBody (top 16)) (defScope (top 16)) .none kV doc pm an cdv ct) ⟨us, []⟩ = pure ((["word"] : List Str).zip us) :=
  match us, hl with | [_], _ => rfl
theorem bi17 (kV doc pm : Value) (an : Option Addr) (cdv ct : Value) (us : List Value) (hl : us.length = (["row"] : List Str).length) : bindArgs (PySem.W.fnOf "parts_within" "parts_within" (defArgs (top 17)) (defBody (top 17)) (defScope (top 17)) .none kV doc pm an cdv ct) ⟨us, []⟩ = pure ((["row"] : List Str).zip us) :=
  match us, hl with | [_], _ => rfl
theorem bi20 (kV doc pm : Value) (an : Option Addr) (cdv ct : Value) (us : List Value) (hl : us.length = (["program"] : List Str).length) : bindArgs (PySem.W.fnOf "rows_of" "rows_of" (defArgs (top 20)) (defBody (top 20)) (defScope (top 20)) .none kV doc pm an cdv ct) ⟨us, []⟩ = pure ((["program"] : List Str).zip us) :=
  match us, hl with | [_], _ => rfl
theorem bi21 (kV doc pm : Value) (an : Option Addr) (cdv ct : Value) (us : List Value) (hl : us.length = (["triples", "rows", "around"] : List Str).length) : bindArgs (PySem.W.fnOf "add_rows" "add_rows" (defArgs (top 21)) (defBody (top 21)) (defScope (top 21)) .none kV doc pm an cdv ct) ⟨us, []⟩ = pure ((["triples", "rows", "around"] : List Str).zip us) :=
  match us, hl with | [_, _, _], _ => rfl
theorem bi26 (kV doc pm : Value) (an : Option Addr) (cdv ct : Value) (us : List Value) (hl : us.length = (["thing"] : List Str).length) : bindArgs (PySem.W.fnOf "is_name" "is_name" (defArgs (top 26)) (defBody (top 26)) (defScope (top 26)) .none kV doc pm an cdv ct) ⟨us, []⟩ = pure ((["thing"] : List Str).zip us) :=
  match us, hl with | [_], _ => rfl
theorem bi27 (kV doc pm : Value) (an : Option Addr) (cdv ct : Value) (us : List Value) (hl : us.length = (["thing", "least", "most"] : List Str).length) : bindArgs (PySem.W.fnOf "is_whole" "is_whole" (defArgs (top 27)) (defBody (top 27)) (defScope (top 27)) .none kV doc pm an cdv ct) ⟨us, []⟩ = pure ((["thing", "least", "most"] : List Str).zip us) :=
  match us, hl with | [_, _, _], _ => rfl
theorem bi28 (kV doc pm : Value) (an : Option Addr) (cdv ct : Value) (us : List Value) (hl : us.length = (["thing"] : List Str).length) : bindArgs (PySem.W.fnOf "is_number" "is_number" (defArgs (top 28)) (defBody (top 28)) (defScope (top 28)) .none kV doc pm an cdv ct) ⟨us, []⟩ = pure ((["thing"] : List Str).zip us) :=
  match us, hl with | [_], _ => rfl
theorem bi29 (kV doc pm : Value) (an : Option Addr) (cdv ct : Value) (us : List Value) (hl : us.length = (["thing", "boxes", "lists"] : List Str).length) : bindArgs (PySem.W.fnOf "is_value" "is_value" (defArgs (top 29)) (defBody (top 29)) (defScope (top 29)) .none kV doc pm an cdv ct) ⟨us, []⟩ = pure ((["thing", "boxes", "lists"] : List Str).zip us) :=
  match us, hl with | [_, _, _], _ => rfl
theorem bi30 (kV doc pm : Value) (an : Option Addr) (cdv ct : Value) (us : List Value) (hl : us.length = (["thing", "boxes", "lists", "depth"] : List Str).length) : bindArgs (PySem.W.fnOf "is_value_within" "is_value_within" (defArgs (top 30)) (defBody (top 30)) (defScope (top 30)) .none kV doc pm an cdv ct) ⟨us, []⟩ = pure ((["thing", "boxes", "lists", "depth"] : List Str).zip us) :=
  match us, hl with | [_, _, _, _], _ => rfl
theorem bi31 (kV doc pm : Value) (an : Option Addr) (cdv ct : Value) (us : List Value) (hl : us.length = (["kind", "part", "boxes", "lists", "depth"] : List Str).length) : bindArgs (PySem.W.fnOf "is_part" "is_part" (defArgs (top 31)) (defBody (top 31)) (defScope (top 31)) .none kV doc pm an cdv ct) ⟨us, []⟩ = pure ((["kind", "part", "boxes", "lists", "depth"] : List Str).zip us) :=
  match us, hl with | [_, _, _, _, _], _ => rfl
theorem bi41 (kV doc pm : Value) (an : Option Addr) (cdv ct : Value) (us : List Value) (hl : us.length = (["boxes", "lists", "functions", "rows"] : List Str).length) : bindArgs (PySem.W.fnOf "program_of" "program_of" (defArgs (top 41)) (defBody (top 41)) (defScope (top 41)) .none kV doc pm an cdv ct) ⟨us, []⟩ = pure ((["boxes", "lists", "functions", "rows"] : List Str).zip us) :=
  match us, hl with | [_, _, _, _], _ => rfl
theorem bi42 (kV doc pm : Value) (an : Option Addr) (cdv ct : Value) (us : List Value) (hl : us.length = (["boxes", "lists"] : List Str).length) : bindArgs (PySem.W.fnOf "check_variables" "check_variables" (defArgs (top 42)) (defBody (top 42)) (defScope (top 42)) .none kV doc pm an cdv ct) ⟨us, []⟩ = pure ((["boxes", "lists"] : List Str).zip us) :=
  match us, hl with | [_, _], _ => rfl
theorem bi43 (kV doc pm : Value) (an : Option Addr) (cdv ct : Value) (us : List Value) (hl : us.length = (["functions", "taken"] : List Str).length) : bindArgs (PySem.W.fnOf "check_functions" "check_functions" (defArgs (top 43)) (defBody (top 43)) (defScope (top 43)) .none kV doc pm an cdv ct) ⟨us, []⟩ = pure ((["functions", "taken"] : List Str).zip us) :=
  match us, hl with | [_, _], _ => rfl
theorem bi44 (kV doc pm : Value) (an : Option Addr) (cdv ct : Value) (us : List Value) (hl : us.length = (["program"] : List Str).length) : bindArgs (PySem.W.fnOf "check_rows" "check_rows" (defArgs (top 44)) (defBody (top 44)) (defScope (top 44)) .none kV doc pm an cdv ct) ⟨us, []⟩ = pure ((["program"] : List Str).zip us) :=
  match us, hl with | [_], _ => rfl
theorem bi45 (kV doc pm : Value) (an : Option Addr) (cdv ct : Value) (us : List Value) (hl : us.length = (["thing", "most", "is_one"] : List Str).length) : bindArgs (PySem.W.fnOf "is_tuple_of" "is_tuple_of" (defArgs (top 45)) (defBody (top 45)) (defScope (top 45)) .none kV doc pm an cdv ct) ⟨us, []⟩ = pure ((["thing", "most", "is_one"] : List Str).zip us) :=
  match us, hl with | [_, _, _], _ => rfl
theorem bi46 (kV doc pm : Value) (an : Option Addr) (cdv ct : Value) (us : List Value) (hl : us.length = (["thing"] : List Str).length) : bindArgs (PySem.W.fnOf "is_pair" "is_pair" (defArgs (top 46)) (defBody (top 46)) (defScope (top 46)) .none kV doc pm an cdv ct) ⟨us, []⟩ = pure ((["thing"] : List Str).zip us) :=
  match us, hl with | [_], _ => rfl
theorem bi47 (kV doc pm : Value) (an : Option Addr) (cdv ct : Value) (us : List Value) (hl : us.length = (["thing"] : List Str).length) : bindArgs (PySem.W.fnOf "is_box" "is_box" (defArgs (top 47)) (defBody (top 47)) (defScope (top 47)) .none kV doc pm an cdv ct) ⟨us, []⟩ = pure ((["thing"] : List Str).zip us) :=
  match us, hl with | [_], _ => rfl
theorem bi48 (kV doc pm : Value) (an : Option Addr) (cdv ct : Value) (us : List Value) (hl : us.length = (["thing"] : List Str).length) : bindArgs (PySem.W.fnOf "is_list" "is_list" (defArgs (top 48)) (defBody (top 48)) (defScope (top 48)) .none kV doc pm an cdv ct) ⟨us, []⟩ = pure ((["thing"] : List Str).zip us) :=
  match us, hl with | [_], _ => rfl
theorem bi49 (kV doc pm : Value) (an : Option Addr) (cdv ct : Value) (us : List Value) (hl : us.length = (["thing"] : List Str).length) : bindArgs (PySem.W.fnOf "is_function" "is_function" (defArgs (top 49)) (defBody (top 49)) (defScope (top 49)) .none kV doc pm an cdv ct) ⟨us, []⟩ = pure ((["thing"] : List Str).zip us) :=
  match us, hl with | [_], _ => rfl
theorem bi50 (kV doc pm : Value) (an : Option Addr) (cdv ct : Value) (us : List Value) (hl : us.length = (["things"] : List Str).length) : bindArgs (PySem.W.fnOf "names_of" "names_of" (defArgs (top 50)) (defBody (top 50)) (defScope (top 50)) .none kV doc pm an cdv ct) ⟨us, []⟩ = pure ((["things"] : List Str).zip us) :=
  match us, hl with | [_], _ => rfl
theorem bi51 (kV doc pm : Value) (an : Option Addr) (cdv ct : Value) (us : List Value) (hl : us.length = (["function"] : List Str).length) : bindArgs (PySem.W.fnOf "own_names" "own_names" (defArgs (top 51)) (defBody (top 51)) (defScope (top 51)) .none kV doc pm an cdv ct) ⟨us, []⟩ = pure ((["function"] : List Str).zip us) :=
  match us, hl with | [_], _ => rfl
theorem bi52 (kV doc pm : Value) (an : Option Addr) (cdv ct : Value) (us : List Value) (hl : us.length = (["names"] : List Str).length) : bindArgs (PySem.W.fnOf "are_unlike" "are_unlike" (defArgs (top 52)) (defBody (top 52)) (defScope (top 52)) .none kV doc pm an cdv ct) ⟨us, []⟩ = pure ((["names"] : List Str).zip us) :=
  match us, hl with | [_], _ => rfl
theorem bi53 (kV doc pm : Value) (an : Option Addr) (cdv ct : Value) (us : List Value) (hl : us.length = (["rows", "scope", "depth"] : List Str).length) : bindArgs (PySem.W.fnOf "are_rows" "are_rows" (defArgs (top 53)) (defBody (top 53)) (defScope (top 53)) .none kV doc pm an cdv ct) ⟨us, []⟩ = pure ((["rows", "scope", "depth"] : List Str).zip us) :=
  match us, hl with | [_, _, _], _ => rfl
theorem bi54 (kV doc pm : Value) (an : Option Addr) (cdv ct : Value) (us : List Value) (hl : us.length = (["row", "scope", "depth"] : List Str).length) : bindArgs (PySem.W.fnOf "is_row" "is_row" (defArgs (top 54)) (defBody (top 54)) (defScope (top 54)) .none kV doc pm an cdv ct) ⟨us, []⟩ = pure ((["row", "scope", "depth"] : List Str).zip us) :=
  match us, hl with | [_, _, _], _ => rfl
theorem bi55 (kV doc pm : Value) (an : Option Addr) (cdv ct : Value) (us : List Value) (hl : us.length = (["kind", "part", "scope", "depth"] : List Str).length) : bindArgs (PySem.W.fnOf "is_row_part" "is_row_part" (defArgs (top 55)) (defBody (top 55)) (defScope (top 55)) .none kV doc pm an cdv ct) ⟨us, []⟩ = pure ((["kind", "part", "scope", "depth"] : List Str).zip us) :=
  match us, hl with | [_, _, _, _], _ => rfl
theorem bi57 (kV doc pm : Value) (an : Option Addr) (cdv ct : Value) (us : List Value) (hl : us.length = (["_law_script", "_law_k"] : List Str).length) : bindArgs (PySem.W.fnOf "_law_cell_at" "_law_cell_at" (defArgs (top 57)) (defBody (top 57)) (defScope (top 57)) .none kV doc pm an cdv ct) ⟨us, []⟩ = pure ((["_law_script", "_law_k"] : List Str).zip us) :=
  match us, hl with | [_, _], _ => rfl
theorem bi58 (kV doc pm : Value) (an : Option Addr) (cdv ct : Value) (us : List Value) (hl : us.length = (["_law_cell", "_law_k"] : List Str).length) : bindArgs (PySem.W.fnOf "_law_state" "_law_state" (defArgs (top 58)) (defBody (top 58)) (defScope (top 58)) .none kV doc pm an cdv ct) ⟨us, []⟩ = pure ((["_law_cell", "_law_k"] : List Str).zip us) :=
  match us, hl with | [_, _], _ => rfl
theorem bi59 (kV doc pm : Value) (an : Option Addr) (cdv ct : Value) (us : List Value) (hl : us.length = (["_law_state_here", "_law_size"] : List Str).length) : bindArgs (PySem.W.fnOf "_law_next" "_law_next" (defArgs (top 59)) (defBody (top 59)) (defScope (top 59)) .none kV doc pm an cdv ct) ⟨us, []⟩ = pure ((["_law_state_here", "_law_size"] : List Str).zip us) :=
  match us, hl with | [_, _], _ => rfl
theorem bi60 (kV doc pm : Value) (an : Option Addr) (cdv ct : Value) (us : List Value) (hl : us.length = (["_law_e"] : List Str).length) : bindArgs (PySem.W.fnOf "_law_class" "_law_class" (defArgs (top 60)) (defBody (top 60)) (defScope (top 60)) .none kV doc pm an cdv ct) ⟨us, []⟩ = pure ((["_law_e"] : List Str).zip us) :=
  match us, hl with | [_], _ => rfl
theorem bi61 (kV doc pm : Value) (an : Option Addr) (cdv ct : Value) (us : List Value) (hl : us.length = (["_law_script"] : List Str).length) : bindArgs (PySem.W.fnOf "_law_sizes" "_law_sizes" (defArgs (top 61)) (defBody (top 61)) (defScope (top 61)) .none kV doc pm an cdv ct) ⟨us, []⟩ = pure ((["_law_script"] : List Str).zip us) :=
  match us, hl with | [_], _ => rfl
theorem bi62 (kV doc pm : Value) (an : Option Addr) (cdv ct : Value) (us : List Value) (hl : us.length = (["_law_sizes_here", "_law_k"] : List Str).length) : bindArgs (PySem.W.fnOf "_law_name" "_law_name" (defArgs (top 62)) (defBody (top 62)) (defScope (top 62)) .none kV doc pm an cdv ct) ⟨us, []⟩ = pure ((["_law_sizes_here", "_law_k"] : List Str).zip us) :=
  match us, hl with | [_, _], _ => rfl
theorem bi63 (kV doc pm : Value) (an : Option Addr) (cdv ct : Value) (us : List Value) (hl : us.length = (["_law_sizes_here"] : List Str).length) : bindArgs (PySem.W.fnOf "_law_value" "_law_value" (defArgs (top 63)) (defBody (top 63)) (defScope (top 63)) .none kV doc pm an cdv ct) ⟨us, []⟩ = pure ((["_law_sizes_here"] : List Str).zip us) :=
  match us, hl with | [_], _ => rfl
theorem bi64 (kV doc pm : Value) (an : Option Addr) (cdv ct : Value) (us : List Value) (hl : us.length = (["_law_sizes_here"] : List Str).length) : bindArgs (PySem.W.fnOf "_law_row" "_law_row" (defArgs (top 64)) (defBody (top 64)) (defScope (top 64)) .none kV doc pm an cdv ct) ⟨us, []⟩ = pure ((["_law_sizes_here"] : List Str).zip us) :=
  match us, hl with | [_], _ => rfl
theorem bi65 (kV doc pm : Value) (an : Option Addr) (cdv ct : Value) (us : List Value) (hl : us.length = (["_law_sizes_here"] : List Str).length) : bindArgs (PySem.W.fnOf "_law_parts" "_law_parts" (defArgs (top 65)) (defBody (top 65)) (defScope (top 65)) .none kV doc pm an cdv ct) ⟨us, []⟩ = pure ((["_law_sizes_here"] : List Str).zip us) :=
  match us, hl with | [_], _ => rfl
theorem bi66 (kV doc pm : Value) (an : Option Addr) (cdv ct : Value) (us : List Value) (hl : us.length = (["_law_sizes_here"] : List Str).length) : bindArgs (PySem.W.fnOf "_law_due" "_law_due" (defArgs (top 66)) (defBody (top 66)) (defScope (top 66)) .none kV doc pm an cdv ct) ⟨us, []⟩ = pure ((["_law_sizes_here"] : List Str).zip us) :=
  match us, hl with | [_], _ => rfl
theorem bm0 (kV doc pm : Value) (an : Option Addr) (cdv ct : Value) (us : List Value) (hl : us.length = (["self", "boxes", "lists", "param_counts", "may_return"] : List Str).length) : bindArgs (PySem.W.fnOf "__init__" "Scope.__init__" (defArgs (scl 0)) (defBody (scl 0)) (defScope (scl 0)) .none kV doc pm an cdv ct) ⟨us, []⟩ = pure ((["self", "boxes", "lists", "param_counts", "may_return"] : List Str).zip us) :=
  match us, hl with | [_, _, _, _, _], _ => rfl
theorem tab_mk {a a0 a1 a2 a3 a4 a5 a6 a7 a8 a9 a10 a11 : Addr} {h0 h1 h2 h3 h4 h5 h6 h7 h8 h9 h10 h11 : Int} {t0 t1 t2 t3 t4 t5 t6 t7 t8 t9 t10 t11 : Tok} {n : Nat} (l : K.lookup a = some ⟨.type "dict", none, .dict #[⟨h0, .str "number" t0, .ref a0⟩, ⟨h1, .str "box" t1, .ref a1⟩, ⟨h2, .str "plus" t2, .ref a2⟩, ⟨h3, .str "minus" t3, .ref a3⟩, ⟨h4, .str "times" t4, .ref a4⟩, ⟨h5, .str "over" t5, .ref a5⟩, ⟨h6, .str "rest" t6, .ref a6⟩, ⟨h7, .str "less" t7, .ref a7⟩, ⟨h8, .str "same" t8, .ref a8⟩, ⟨h9, .str "not" t9, .ref a9⟩, ⟨h10, .str "item" t10, .ref a10⟩, ⟨h11, .str "size" t11, .ref a11⟩] n, #[]⟩) (lo : (a == sysModules) = false)
    (e0 : h0 = PyData.keyHash w.params "number")
    (e1 : h1 = PyData.keyHash w.params "box")
    (e2 : h2 = PyData.keyHash w.params "plus")
    (e3 : h3 = PyData.keyHash w.params "minus")
    (e4 : h4 = PyData.keyHash w.params "times")
    (e5 : h5 = PyData.keyHash w.params "over")
    (e6 : h6 = PyData.keyHash w.params "rest")
    (e7 : h7 = PyData.keyHash w.params "less")
    (e8 : h8 = PyData.keyHash w.params "same")
    (e9 : h9 = PyData.keyHash w.params "not")
    (e10 : h10 = PyData.keyHash w.params "item")
    (e11 : h11 = PyData.keyHash w.params "size")
    {o0 : Obj} (l0 : K.lookup a0 = some o0) (c0 : o0.cls = .type "tuple") {m0 : Nat} {u00 : Tok} (d0 : o0.data = .seq #[.str "number" u00] m0)
    {o1 : Obj} (l1 : K.lookup a1 = some o1) (c1 : o1.cls = .type "tuple") {m1 : Nat} {u10 : Tok} (d1 : o1.data = .seq #[.str "box" u10] m1)
    {o2 : Obj} (l2 : K.lookup a2 = some o2) (c2 : o2.cls = .type "tuple") {m2 : Nat} {u20 u21 : Tok} (d2 : o2.data = .seq #[.str "value" u20, .str "value" u21] m2)
    {o3 : Obj} (l3 : K.lookup a3 = some o3) (c3 : o3.cls = .type "tuple") {m3 : Nat} {u30 u31 : Tok} (d3 : o3.data = .seq #[.str "value" u30, .str "value" u31] m3)
    {o4 : Obj} (l4 : K.lookup a4 = some o4) (c4 : o4.cls = .type "tuple") {m4 : Nat} {u40 u41 : Tok} (d4 : o4.data = .seq #[.str "value" u40, .str "value" u41] m4)
    {o5 : Obj} (l5 : K.lookup a5 = some o5) (c5 : o5.cls = .type "tuple") {m5 : Nat} {u50 u51 : Tok} (d5 : o5.data = .seq #[.str "value" u50, .str "value" u51] m5)
    {o6 : Obj} (l6 : K.lookup a6 = some o6) (c6 : o6.cls = .type "tuple") {m6 : Nat} {u60 u61 : Tok} (d6 : o6.data = .seq #[.str "value" u60, .str "value" u61] m6)
    {o7 : Obj} (l7 : K.lookup a7 = some o7) (c7 : o7.cls = .type "tuple") {m7 : Nat} {u70 u71 : Tok} (d7 : o7.data = .seq #[.str "value" u70, .str "value" u71] m7)
    {o8 : Obj} (l8 : K.lookup a8 = some o8) (c8 : o8.cls = .type "tuple") {m8 : Nat} {u80 u81 : Tok} (d8 : o8.data = .seq #[.str "value" u80, .str "value" u81] m8)
    {o9 : Obj} (l9 : K.lookup a9 = some o9) (c9 : o9.cls = .type "tuple") {m9 : Nat} {u90 : Tok} (d9 : o9.data = .seq #[.str "value" u90] m9)
    {o10 : Obj} (l10 : K.lookup a10 = some o10) (c10 : o10.cls = .type "tuple") {m10 : Nat} {u100 u101 : Tok} (d10 : o10.data = .seq #[.str "list" u100, .str "value" u101] m10)
    {o11 : Obj} (l11 : K.lookup a11 = some o11) (c11 : o11.cls = .type "tuple") {m11 : Nat} {u110 : Tok} (d11 : o11.data = .seq #[.str "list" u110] m11)
    : TabK w K a forms := by
  have nz : ∀ {x y : Str}, x ≠ y → (y == x) = false := fun h => by simpa using fun z => h z.symm
  refine ⟨⟨_, n, l, ⟨⟨_, _, rfl, e0⟩, ⟨_, _, rfl, e1⟩, ⟨_, _, rfl, e2⟩, ⟨_, _, rfl, e3⟩, ⟨_, _, rfl, e4⟩, ⟨_, _, rfl, e5⟩, ⟨_, _, rfl, e6⟩, ⟨_, _, rfl, e7⟩, ⟨_, _, rfl, e8⟩, ⟨_, _, rfl, e9⟩, ⟨_, _, rfl, e10⟩, ⟨_, _, rfl, e11⟩, trivial⟩, fun x => ?_⟩, lo⟩
  by_cases q0 : x = "number"
  · subst q0
    exact ⟨a0, by rfl, o0, _, m0, l0, c0, d0, (by show 1 ≤ sizeLine; decide), .cons ⟨_, rfl⟩ (.nil)⟩
  by_cases q1 : x = "box"
  · subst q1
    exact ⟨a1, by rfl, o1, _, m1, l1, c1, d1, (by show 1 ≤ sizeLine; decide), .cons ⟨_, rfl⟩ (.nil)⟩
  by_cases q2 : x = "plus"
  · subst q2
    exact ⟨a2, by rfl, o2, _, m2, l2, c2, d2, (by show 2 ≤ sizeLine; decide), .cons ⟨_, rfl⟩ (.cons ⟨_, rfl⟩ (.nil))⟩
  by_cases q3 : x = "minus"
  · subst q3
    exact ⟨a3, by rfl, o3, _, m3, l3, c3, d3, (by show 2 ≤ sizeLine; decide), .cons ⟨_, rfl⟩ (.cons ⟨_, rfl⟩ (.nil))⟩
  by_cases q4 : x = "times"
  · subst q4
    exact ⟨a4, by rfl, o4, _, m4, l4, c4, d4, (by show 2 ≤ sizeLine; decide), .cons ⟨_, rfl⟩ (.cons ⟨_, rfl⟩ (.nil))⟩
  by_cases q5 : x = "over"
  · subst q5
    exact ⟨a5, by rfl, o5, _, m5, l5, c5, d5, (by show 2 ≤ sizeLine; decide), .cons ⟨_, rfl⟩ (.cons ⟨_, rfl⟩ (.nil))⟩
  by_cases q6 : x = "rest"
  · subst q6
    exact ⟨a6, by rfl, o6, _, m6, l6, c6, d6, (by show 2 ≤ sizeLine; decide), .cons ⟨_, rfl⟩ (.cons ⟨_, rfl⟩ (.nil))⟩
  by_cases q7 : x = "less"
  · subst q7
    exact ⟨a7, by rfl, o7, _, m7, l7, c7, d7, (by show 2 ≤ sizeLine; decide), .cons ⟨_, rfl⟩ (.cons ⟨_, rfl⟩ (.nil))⟩
  by_cases q8 : x = "same"
  · subst q8
    exact ⟨a8, by rfl, o8, _, m8, l8, c8, d8, (by show 2 ≤ sizeLine; decide), .cons ⟨_, rfl⟩ (.cons ⟨_, rfl⟩ (.nil))⟩
  by_cases q9 : x = "not"
  · subst q9
    exact ⟨a9, by rfl, o9, _, m9, l9, c9, d9, (by show 1 ≤ sizeLine; decide), .cons ⟨_, rfl⟩ (.nil)⟩
  by_cases q10 : x = "item"
  · subst q10
    exact ⟨a10, by rfl, o10, _, m10, l10, c10, d10, (by show 2 ≤ sizeLine; decide), .cons ⟨_, rfl⟩ (.cons ⟨_, rfl⟩ (.nil))⟩
  by_cases q11 : x = "size"
  · subst q11
    exact ⟨a11, by rfl, o11, _, m11, l11, c11, d11, (by show 1 ≤ sizeLine; decide), .cons ⟨_, rfl⟩ (.nil)⟩
  have ef : forms x = none := by
    unfold forms
    rw [if_neg q0, if_neg q1, if_neg q2, if_neg q3, if_neg q4, if_neg q5, if_neg q6, if_neg q7, if_neg q8, if_neg q9, if_neg q10, if_neg q11]
  rw [ef]
  show Option.map _ (Array.find? _ _) = none
  rw [show (Array.find? (fun e : DictEntry => Value.isStrOf x e.key) #[⟨h0, .str "number" t0, .ref a0⟩, ⟨h1, .str "box" t1, .ref a1⟩, ⟨h2, .str "plus" t2, .ref a2⟩, ⟨h3, .str "minus" t3, .ref a3⟩, ⟨h4, .str "times" t4, .ref a4⟩, ⟨h5, .str "over" t5, .ref a5⟩, ⟨h6, .str "rest" t6, .ref a6⟩, ⟨h7, .str "less" t7, .ref a7⟩, ⟨h8, .str "same" t8, .ref a8⟩, ⟨h9, .str "not" t9, .ref a9⟩, ⟨h10, .str "item" t10, .ref a10⟩, ⟨h11, .str "size" t11, .ref a11⟩]) = none from by
    rw [Array.find?_eq_none]
    intro e he
    simp only [Array.mem_def, List.mem_cons, List.not_mem_nil, or_false] at he
    rcases he with rfl | rfl | rfl | rfl | rfl | rfl | rfl | rfl | rfl | rfl | rfl | rfl
    · show ¬ (("number" : Str) == x) = true; rw [nz q0]; decide
    · show ¬ (("box" : Str) == x) = true; rw [nz q1]; decide
    · show ¬ (("plus" : Str) == x) = true; rw [nz q2]; decide
    · show ¬ (("minus" : Str) == x) = true; rw [nz q3]; decide
    · show ¬ (("times" : Str) == x) = true; rw [nz q4]; decide
    · show ¬ (("over" : Str) == x) = true; rw [nz q5]; decide
    · show ¬ (("rest" : Str) == x) = true; rw [nz q6]; decide
    · show ¬ (("less" : Str) == x) = true; rw [nz q7]; decide
    · show ¬ (("same" : Str) == x) = true; rw [nz q8]; decide
    · show ¬ (("not" : Str) == x) = true; rw [nz q9]; decide
    · show ¬ (("item" : Str) == x) = true; rw [nz q10]; decide
    · show ¬ (("size" : Str) == x) = true; rw [nz q11]; decide]
  rfl
theorem rtab_mk {a a0 a1 a2 a3 a4 a5 a6 a7 a8 a9 a10 a11 : Addr} {h0 h1 h2 h3 h4 h5 h6 h7 h8 h9 h10 h11 : Int} {t0 t1 t2 t3 t4 t5 t6 t7 t8 t9 t10 t11 : Tok} {n : Nat} (l : K.lookup a = some ⟨.type "dict", none, .dict #[⟨h0, .str "set" t0, .ref a0⟩, ⟨h1, .str "push" t1, .ref a1⟩, ⟨h2, .str "pop" t2, .ref a2⟩, ⟨h3, .str "put" t3, .ref a3⟩, ⟨h4, .str "ask" t4, .ref a4⟩, ⟨h5, .str "tell" t5, .ref a5⟩, ⟨h6, .str "if" t6, .ref a6⟩, ⟨h7, .str "while" t7, .ref a7⟩, ⟨h8, .str "try" t8, .ref a8⟩, ⟨h9, .str "fail" t9, .ref a9⟩, ⟨h10, .str "call" t10, .ref a10⟩, ⟨h11, .str "return" t11, .ref a11⟩] n, #[]⟩) (lo : (a == sysModules) = false)
    (e0 : h0 = PyData.keyHash w.params "set")
    (e1 : h1 = PyData.keyHash w.params "push")
    (e2 : h2 = PyData.keyHash w.params "pop")
    (e3 : h3 = PyData.keyHash w.params "put")
    (e4 : h4 = PyData.keyHash w.params "ask")
    (e5 : h5 = PyData.keyHash w.params "tell")
    (e6 : h6 = PyData.keyHash w.params "if")
    (e7 : h7 = PyData.keyHash w.params "while")
    (e8 : h8 = PyData.keyHash w.params "try")
    (e9 : h9 = PyData.keyHash w.params "fail")
    (e10 : h10 = PyData.keyHash w.params "call")
    (e11 : h11 = PyData.keyHash w.params "return")
    {o0 : Obj} (l0 : K.lookup a0 = some o0) (c0 : o0.cls = .type "tuple") {m0 : Nat} {u00 u01 : Tok} (d0 : o0.data = .seq #[.str "box" u00, .str "value" u01] m0)
    {o1 : Obj} (l1 : K.lookup a1 = some o1) (c1 : o1.cls = .type "tuple") {m1 : Nat} {u10 u11 : Tok} (d1 : o1.data = .seq #[.str "list" u10, .str "value" u11] m1)
    {o2 : Obj} (l2 : K.lookup a2 = some o2) (c2 : o2.cls = .type "tuple") {m2 : Nat} {u20 u21 : Tok} (d2 : o2.data = .seq #[.str "box" u20, .str "list" u21] m2)
    {o3 : Obj} (l3 : K.lookup a3 = some o3) (c3 : o3.cls = .type "tuple") {m3 : Nat} {u30 u31 u32 : Tok} (d3 : o3.data = .seq #[.str "list" u30, .str "value" u31, .str "value" u32] m3)
    {o4 : Obj} (l4 : K.lookup a4 = some o4) (c4 : o4.cls = .type "tuple") {m4 : Nat} {u40 u41 : Tok} (d4 : o4.data = .seq #[.str "box" u40, .str "door" u41] m4)
    {o5 : Obj} (l5 : K.lookup a5 = some o5) (c5 : o5.cls = .type "tuple") {m5 : Nat} {u50 : Tok} (d5 : o5.data = .seq #[.str "value" u50] m5)
    {o6 : Obj} (l6 : K.lookup a6 = some o6) (c6 : o6.cls = .type "tuple") {m6 : Nat} {u60 u61 u62 : Tok} (d6 : o6.data = .seq #[.str "value" u60, .str "rows" u61, .str "rows" u62] m6)
    {o7 : Obj} (l7 : K.lookup a7 = some o7) (c7 : o7.cls = .type "tuple") {m7 : Nat} {u70 u71 : Tok} (d7 : o7.data = .seq #[.str "value" u70, .str "rows" u71] m7)
    {o8 : Obj} (l8 : K.lookup a8 = some o8) (c8 : o8.cls = .type "tuple") {m8 : Nat} {u80 u81 u82 : Tok} (d8 : o8.data = .seq #[.str "rows" u80, .str "box" u81, .str "rows" u82] m8)
    {o9 : Obj} (l9 : K.lookup a9 = some o9) (c9 : o9.cls = .type "tuple") {m9 : Nat} {u90 : Tok} (d9 : o9.data = .seq #[.str "value" u90] m9)
    {o10 : Obj} (l10 : K.lookup a10 = some o10) (c10 : o10.cls = .type "tuple") {m10 : Nat} {u100 u101 u102 : Tok} (d10 : o10.data = .seq #[.str "box" u100, .str "function" u101, .str "values" u102] m10)
    {o11 : Obj} (l11 : K.lookup a11 = some o11) (c11 : o11.cls = .type "tuple") {m11 : Nat} {u110 : Tok} (d11 : o11.data = .seq #[.str "value" u110] m11)
    : TabK w K a rforms := by
  have nz : ∀ {x y : Str}, x ≠ y → (y == x) = false := fun h => by simpa using fun z => h z.symm
  refine ⟨⟨_, n, l, ⟨⟨_, _, rfl, e0⟩, ⟨_, _, rfl, e1⟩, ⟨_, _, rfl, e2⟩, ⟨_, _, rfl, e3⟩, ⟨_, _, rfl, e4⟩, ⟨_, _, rfl, e5⟩, ⟨_, _, rfl, e6⟩, ⟨_, _, rfl, e7⟩, ⟨_, _, rfl, e8⟩, ⟨_, _, rfl, e9⟩, ⟨_, _, rfl, e10⟩, ⟨_, _, rfl, e11⟩, trivial⟩, fun x => ?_⟩, lo⟩
  by_cases q0 : x = "set"
  · subst q0
    exact ⟨a0, by rfl, o0, _, m0, l0, c0, d0, (by show 2 ≤ sizeLine; decide), .cons ⟨_, rfl⟩ (.cons ⟨_, rfl⟩ (.nil))⟩
  by_cases q1 : x = "push"
  · subst q1
    exact ⟨a1, by rfl, o1, _, m1, l1, c1, d1, (by show 2 ≤ sizeLine; decide), .cons ⟨_, rfl⟩ (.cons ⟨_, rfl⟩ (.nil))⟩
  by_cases q2 : x = "pop"
  · subst q2
    exact ⟨a2, by rfl, o2, _, m2, l2, c2, d2, (by show 2 ≤ sizeLine; decide), .cons ⟨_, rfl⟩ (.cons ⟨_, rfl⟩ (.nil))⟩
  by_cases q3 : x = "put"
  · subst q3
    exact ⟨a3, by rfl, o3, _, m3, l3, c3, d3, (by show 3 ≤ sizeLine; decide), .cons ⟨_, rfl⟩ (.cons ⟨_, rfl⟩ (.cons ⟨_, rfl⟩ (.nil)))⟩
  by_cases q4 : x = "ask"
  · subst q4
    exact ⟨a4, by rfl, o4, _, m4, l4, c4, d4, (by show 2 ≤ sizeLine; decide), .cons ⟨_, rfl⟩ (.cons ⟨_, rfl⟩ (.nil))⟩
  by_cases q5 : x = "tell"
  · subst q5
    exact ⟨a5, by rfl, o5, _, m5, l5, c5, d5, (by show 1 ≤ sizeLine; decide), .cons ⟨_, rfl⟩ (.nil)⟩
  by_cases q6 : x = "if"
  · subst q6
    exact ⟨a6, by rfl, o6, _, m6, l6, c6, d6, (by show 3 ≤ sizeLine; decide), .cons ⟨_, rfl⟩ (.cons ⟨_, rfl⟩ (.cons ⟨_, rfl⟩ (.nil)))⟩
  by_cases q7 : x = "while"
  · subst q7
    exact ⟨a7, by rfl, o7, _, m7, l7, c7, d7, (by show 2 ≤ sizeLine; decide), .cons ⟨_, rfl⟩ (.cons ⟨_, rfl⟩ (.nil))⟩
  by_cases q8 : x = "try"
  · subst q8
    exact ⟨a8, by rfl, o8, _, m8, l8, c8, d8, (by show 3 ≤ sizeLine; decide), .cons ⟨_, rfl⟩ (.cons ⟨_, rfl⟩ (.cons ⟨_, rfl⟩ (.nil)))⟩
  by_cases q9 : x = "fail"
  · subst q9
    exact ⟨a9, by rfl, o9, _, m9, l9, c9, d9, (by show 1 ≤ sizeLine; decide), .cons ⟨_, rfl⟩ (.nil)⟩
  by_cases q10 : x = "call"
  · subst q10
    exact ⟨a10, by rfl, o10, _, m10, l10, c10, d10, (by show 3 ≤ sizeLine; decide), .cons ⟨_, rfl⟩ (.cons ⟨_, rfl⟩ (.cons ⟨_, rfl⟩ (.nil)))⟩
  by_cases q11 : x = "return"
  · subst q11
    exact ⟨a11, by rfl, o11, _, m11, l11, c11, d11, (by show 1 ≤ sizeLine; decide), .cons ⟨_, rfl⟩ (.nil)⟩
  have ef : rforms x = none := by
    unfold rforms
    rw [if_neg q0, if_neg q1, if_neg q2, if_neg q3, if_neg q4, if_neg q5, if_neg q6, if_neg q7, if_neg q8, if_neg q9, if_neg q10, if_neg q11]
  rw [ef]
  show Option.map _ (Array.find? _ _) = none
  rw [show (Array.find? (fun e : DictEntry => Value.isStrOf x e.key) #[⟨h0, .str "set" t0, .ref a0⟩, ⟨h1, .str "push" t1, .ref a1⟩, ⟨h2, .str "pop" t2, .ref a2⟩, ⟨h3, .str "put" t3, .ref a3⟩, ⟨h4, .str "ask" t4, .ref a4⟩, ⟨h5, .str "tell" t5, .ref a5⟩, ⟨h6, .str "if" t6, .ref a6⟩, ⟨h7, .str "while" t7, .ref a7⟩, ⟨h8, .str "try" t8, .ref a8⟩, ⟨h9, .str "fail" t9, .ref a9⟩, ⟨h10, .str "call" t10, .ref a10⟩, ⟨h11, .str "return" t11, .ref a11⟩]) = none from by
    rw [Array.find?_eq_none]
    intro e he
    simp only [Array.mem_def, List.mem_cons, List.not_mem_nil, or_false] at he
    rcases he with rfl | rfl | rfl | rfl | rfl | rfl | rfl | rfl | rfl | rfl | rfl | rfl
    · show ¬ (("set" : Str) == x) = true; rw [nz q0]; decide
    · show ¬ (("push" : Str) == x) = true; rw [nz q1]; decide
    · show ¬ (("pop" : Str) == x) = true; rw [nz q2]; decide
    · show ¬ (("put" : Str) == x) = true; rw [nz q3]; decide
    · show ¬ (("ask" : Str) == x) = true; rw [nz q4]; decide
    · show ¬ (("tell" : Str) == x) = true; rw [nz q5]; decide
    · show ¬ (("if" : Str) == x) = true; rw [nz q6]; decide
    · show ¬ (("while" : Str) == x) = true; rw [nz q7]; decide
    · show ¬ (("try" : Str) == x) = true; rw [nz q8]; decide
    · show ¬ (("fail" : Str) == x) = true; rw [nz q9]; decide
    · show ¬ (("call" : Str) == x) = true; rw [nz q10]; decide
    · show ¬ (("return" : Str) == x) = true; rw [nz q11]; decide]
  rfl
end
theorem all {P : Program} {w : World} {K : PySem.W.Frag} {mg : Str → Option Value} {base : Heap} {R C1 C2 C3 C4 C5 C6 C7 C8 C9 CS : Addr} (T : Txt w K mg) (Z : Ecs K mg R C1 C2 C3 C4 C5 C6 C7 C8 C9) (W : SCl K mg CS) (M0 : SrcI K CS "Scope.__init__" (scl 0) ["self", "boxes", "lists", "param_counts", "may_return"])
    (S14 : Src K mg "has_word" (top 14) ["thing"])
    (S15 : Src K mg "value_kinds" (top 15) ["word"])
    (S16 : Src K mg "row_kinds" (top 16) ["word"])
    (S17 : Src K mg "parts_within" (top 17) ["row"])
    (S20 : Src K mg "rows_of" (top 20) ["program"])
    (S21 : Src K mg "add_rows" (top 21) ["triples", "rows", "around"])
    (S26 : Src K mg "is_name" (top 26) ["thing"])
    (S27 : Src K mg "is_whole" (top 27) ["thing", "least", "most"])
    (S28 : Src K mg "is_number" (top 28) ["thing"])
    (S29 : Src K mg "is_value" (top 29) ["thing", "boxes", "lists"])
    (S30 : Src K mg "is_value_within" (top 30) ["thing", "boxes", "lists", "depth"])
    (S31 : Src K mg "is_part" (top 31) ["kind", "part", "boxes", "lists", "depth"])
    (S41 : Src K mg "program_of" (top 41) ["boxes", "lists", "functions", "rows"])
    (S42 : Src K mg "check_variables" (top 42) ["boxes", "lists"])
    (S43 : Src K mg "check_functions" (top 43) ["functions", "taken"])
    (S44 : Src K mg "check_rows" (top 44) ["program"])
    (S45 : Src K mg "is_tuple_of" (top 45) ["thing", "most", "is_one"])
    (S46 : Src K mg "is_pair" (top 46) ["thing"])
    (S47 : Src K mg "is_box" (top 47) ["thing"])
    (S48 : Src K mg "is_list" (top 48) ["thing"])
    (S49 : Src K mg "is_function" (top 49) ["thing"])
    (S50 : Src K mg "names_of" (top 50) ["things"])
    (S51 : Src K mg "own_names" (top 51) ["function"])
    (S52 : Src K mg "are_unlike" (top 52) ["names"])
    (S53 : Src K mg "are_rows" (top 53) ["rows", "scope", "depth"])
    (S54 : Src K mg "is_row" (top 54) ["row", "scope", "depth"])
    (S55 : Src K mg "is_row_part" (top 55) ["kind", "part", "scope", "depth"])
    (S57 : Src K mg "_law_cell_at" (top 57) ["_law_script", "_law_k"])
    (S58 : Src K mg "_law_state" (top 58) ["_law_cell", "_law_k"])
    (S59 : Src K mg "_law_next" (top 59) ["_law_state_here", "_law_size"])
    (S60 : Src K mg "_law_class" (top 60) ["_law_e"])
    (S61 : Src K mg "_law_sizes" (top 61) ["_law_script"])
    (S62 : Src K mg "_law_name" (top 62) ["_law_sizes_here", "_law_k"])
    (S63 : Src K mg "_law_value" (top 63) ["_law_sizes_here"])
    (S64 : Src K mg "_law_row" (top 64) ["_law_sizes_here"])
    (S65 : Src K mg "_law_parts" (top 65) ["_law_sizes_here"])
    (S66 : Src K mg "_law_due" (top 66) ["_law_sizes_here"])
    {f : Addr} {fd : FuncData} (F : Fun K "law" "law" (top 67) f fd) : FnOk P w K mg base CX0 29 f fd ["_law_script"] (spLaw K) :=
  have D_name := d_is_name T S26
  have D_num := d_is_number T (d_is_whole T S27) S28
  have D_val := d_value_all T S14 S15 D_name D_num S29 S30 S31
  have D_nms := d_names_of T S50
  have D_own := d_own T S51
  have D_unl := d_unlike T S52
  have D_pair := d_pair T S46
  have D_hw := d_has_word T S14
  have D_rk := d_row_kinds T S16
  have r0 : Def P w K mg base 9 "is_row_part" ["kind", "part", "scope", "depth"] (spRPart CS 0) := S55.no fun vs H Q E h => by
    obtain ⟨_, _, _, _, k', _, _, _, _, _, _, _, hk, _⟩ := h
    omega
  have w0 := d_row (j := 8) T W D_hw D_rk S54 r0
  have a0 := d_are T S53 w0
  have r1 := d_rpart (j := 0) T W D_name D_val S55 a0
  have w1 := d_row (j := 11) T W D_hw D_rk S54 r1
  have a1 := d_are T S53 w1
  have r2 := d_rpart (j := 3) T W D_name D_val S55 a1
  have w2 := d_row (j := 14) T W D_hw D_rk S54 r2
  have a2 := d_are T S53 w2
  have r3 := d_rpart (j := 6) T W D_name D_val S55 a2
  have w3 := d_row (j := 17) T W D_hw D_rk S54 r3
  have a3 := d_are T S53 w3
  have r4 := d_rpart (j := 9) T W D_name D_val S55 a3
  have w4 := d_row (j := 20) T W D_hw D_rk S54 r4
  have a4 := d_are T S53 w4
  have r5 := d_rpart (j := 12) T W D_name D_val S55 a4
  have w5 := d_row (j := 23) T W D_hw D_rk S54 r5
  have a5 := d_are T S53 w5
  have D_rows_of := d_rows_of T (d_add T (d_parts T S17) S21 5) S20
  have D_vars := d_vars T Z.m1 Z.o1.exc (d_box T D_name D_num D_pair S47) (d_list T D_name D_num D_pair (d_tuple_of (k := 2) T S45) S48) (d_tuple_of (k := 4) T S45) D_nms D_unl S42
  have D_funs := d_funs T Z.m1 Z.o1.exc (d_fun T D_name (d_tuple_of (k := 1) T S45) S49) (d_tuple_of (k := 3) T S45) D_nms D_unl D_own S43
  have D_crows := d_crows T W Z.m2 Z.o2.exc ((d_init W M0).mono (by decide)) a5 D_nms D_own S44
  have D_prog := d_prog T Z.m1 Z.o1.exc Z.m3 Z.o3.exc D_vars D_funs D_crows D_nms D_rows_of S41
  have D_next := d_next S59
  have D_nm := d_lname T S62
  d_law T Z (d_sizes T D_next (d_cell_at T S57) (d_state S58) S61) (d_lparts T D_nm (d_lrow T (d_lvalue T S63) D_nm S64) S65) (d_due T S66) D_prog D_rows_of ((d_class T Z S60).mono (by decide)) F
theorem law_mk {l : PySem.W.OpenLaw} {w : World} {K : PySem.W.Frag} {h : Heap} {mg : Str → Option Value} {fa f3 : Addr} {R C1 C2 C3 C4 C5 C6 C7 C8 C9 CS : Addr} (X : K.In h) (G : h.Ns mainGlobals mg) (hfa : mg "law" = some (.ref fa)) (T : Txt w K mg) (Z : Ecs K mg R C1 C2 C3 C4 C5 C6 C7 C8 C9) (W : SCl K mg CS) (M0 : SrcI K CS "Scope.__init__" (scl 0) ["self", "boxes", "lists", "param_counts", "may_return"])
    (S14 : Src K mg "has_word" (top 14) ["thing"])
    (S15 : Src K mg "value_kinds" (top 15) ["word"])
    (S16 : Src K mg "row_kinds" (top 16) ["word"])
    (S17 : Src K mg "parts_within" (top 17) ["row"])
    (S20 : Src K mg "rows_of" (top 20) ["program"])
    (S21 : Src K mg "add_rows" (top 21) ["triples", "rows", "around"])
    (S26 : Src K mg "is_name" (top 26) ["thing"])
    (S27 : Src K mg "is_whole" (top 27) ["thing", "least", "most"])
    (S28 : Src K mg "is_number" (top 28) ["thing"])
    (S29 : Src K mg "is_value" (top 29) ["thing", "boxes", "lists"])
    (S30 : Src K mg "is_value_within" (top 30) ["thing", "boxes", "lists", "depth"])
    (S31 : Src K mg "is_part" (top 31) ["kind", "part", "boxes", "lists", "depth"])
    (S41 : Src K mg "program_of" (top 41) ["boxes", "lists", "functions", "rows"])
    (S42 : Src K mg "check_variables" (top 42) ["boxes", "lists"])
    (S43 : Src K mg "check_functions" (top 43) ["functions", "taken"])
    (S44 : Src K mg "check_rows" (top 44) ["program"])
    (S45 : Src K mg "is_tuple_of" (top 45) ["thing", "most", "is_one"])
    (S46 : Src K mg "is_pair" (top 46) ["thing"])
    (S47 : Src K mg "is_box" (top 47) ["thing"])
    (S48 : Src K mg "is_list" (top 48) ["thing"])
    (S49 : Src K mg "is_function" (top 49) ["thing"])
    (S50 : Src K mg "names_of" (top 50) ["things"])
    (S51 : Src K mg "own_names" (top 51) ["function"])
    (S52 : Src K mg "are_unlike" (top 52) ["names"])
    (S53 : Src K mg "are_rows" (top 53) ["rows", "scope", "depth"])
    (S54 : Src K mg "is_row" (top 54) ["row", "scope", "depth"])
    (S55 : Src K mg "is_row_part" (top 55) ["kind", "part", "scope", "depth"])
    (S57 : Src K mg "_law_cell_at" (top 57) ["_law_script", "_law_k"])
    (S58 : Src K mg "_law_state" (top 58) ["_law_cell", "_law_k"])
    (S59 : Src K mg "_law_next" (top 59) ["_law_state_here", "_law_size"])
    (S60 : Src K mg "_law_class" (top 60) ["_law_e"])
    (S61 : Src K mg "_law_sizes" (top 61) ["_law_script"])
    (S62 : Src K mg "_law_name" (top 62) ["_law_sizes_here", "_law_k"])
    (S63 : Src K mg "_law_value" (top 63) ["_law_sizes_here"])
    (S64 : Src K mg "_law_row" (top 64) ["_law_sizes_here"])
    (S65 : Src K mg "_law_parts" (top 65) ["_law_sizes_here"])
    (S66 : Src K mg "_law_due" (top 66) ["_law_sizes_here"])
    {od3 an3 : Option Addr} {sl3 : Array (Option Value)} {oc3 kV3 dc3 pm3 cd3 ct3 : Value}
    (a3 : PySem.W.nsIn K mainGlobals "law" = some (some (.ref f3))) (l3 : K.lookup f3 = some ⟨oc3, od3, .func (PySem.W.fnOf "law" "law" (defArgs (top 67)) (defBody (top 67)) (defScope (top 67)) .none kV3 dc3 pm3 an3 cd3 ct3), sl3⟩) (c3 : PySem.W.codeIn K cd3 "law" = true) (k3 : PySem.W.keepIn K (.ref f3) = true) :
    ∃ fd : FuncData, (∀ (s : Shared) (v : Value), BindsTo s fd ⟨[v], []⟩ [("_law_script", v)]) ∧ ∀ base : Heap, K.In base → base.Ns mainGlobals mg → FnOk l.prog w K mg base CX0 29 fa fd ["_law_script"] (spLaw K) := by
  have e := hfa.symm.trans (PySem.W.mg_of X G a3)
  cases e
  have F3 := fun_mk (st := top 67) l3 c3 k3
  refine ⟨PySem.W.fnOf "law" "law" (defArgs (top 67)) (defBody (top 67)) (defScope (top 67)) .none kV3 dc3 pm3 an3 cd3 ct3, fun s v => .of_eq rfl, fun base _ _ => ?_⟩
  exact all T Z W M0 S14 S15 S16 S17 S20 S21 S26 S27 S28 S29 S30 S31 S41 S42 S43 S44 S45 S46 S47 S48 S49 S50 S51 S52 S53 S54 S55 S57 S58 S59 S60 S61 S62 S63 S64 S65 S66 F3
theorem txt_mk {w : World} {K : PySem.W.Frag} {h : Heap} {mg : Str → Option Value} (X : K.In h) (G : h.Ns mainGlobals mg) {t0 t1 t2 t3 t4 t5 t6 t7 t8 t9 t10 : Tok}
    (z0 : PySem.W.nsIn K mainGlobals "len" = some none) (z1 : PySem.W.nsIn K mainGlobals "isinstance" = some none) (z2 : PySem.W.nsIn K mainGlobals "all" = some none) (z3 : PySem.W.nsIn K mainGlobals "zip" = some none) (z4 : PySem.W.nsIn K mainGlobals "range" = some none) (z5 : PySem.W.nsIn K mainGlobals "list" = some none) (z6 : PySem.W.nsIn K mainGlobals "tuple" = some none) (z7 : PySem.W.nsIn K mainGlobals "str" = some none) (z8 : PySem.W.nsIn K mainGlobals "int" = some none) (z9 : PySem.W.nsIn K mainGlobals "bool" = some none) (z10 : PySem.W.nsIn K mainGlobals "set" = some none) (z11 : PySem.W.nsIn K mainGlobals "dict" = some none) (z12 : PySem.W.nsIn K mainGlobals "ValueError" = some none)
    (m0 : PySem.W.nsIn K mainGlobals "MOST_LETTERS" = some (some (.int 6 t0))) (m1 : PySem.W.nsIn K mainGlobals "GREATEST" = some (some (.int 999999 t1))) (m2 : PySem.W.nsIn K mainGlobals "DEEPEST" = some (some (.int 4 t2))) (m3 : PySem.W.nsIn K mainGlobals "NO_ROW" = some (some (.int (-1) t3))) (m4 : PySem.W.nsIn K mainGlobals "MOST_BOXES" = some (some (.int 6 t4))) (m5 : PySem.W.nsIn K mainGlobals "MOST_LISTS" = some (some (.int 3 t5))) (m6 : PySem.W.nsIn K mainGlobals "MOST_THINGS" = some (some (.int 12 t6))) (m7 : PySem.W.nsIn K mainGlobals "MOST_FUNCTIONS" = some (some (.int 4 t7))) (m8 : PySem.W.nsIn K mainGlobals "MOST_NAMES" = some (some (.int 3 t8))) (m9 : PySem.W.nsIn K mainGlobals "DEEPEST_ROW" = some (some (.int 5 t9))) (m10 : PySem.W.nsIn K mainGlobals "MOST_NUMBERS" = some (some (.int 60 t10))) {av ar : Addr}
    (mv : PySem.W.nsIn K mainGlobals "VALUE_FORMS" = some (some (.ref av))) (mr : PySem.W.nsIn K mainGlobals "ROW_FORMS" = some (some (.ref ar))) (tv : TabK w K av forms) (tr : TabK w K ar rforms) : Txt w K mg :=
  ⟨PySem.W.mg_none_of X G z0, PySem.W.mg_none_of X G z1, PySem.W.mg_none_of X G z2, PySem.W.mg_none_of X G z3, PySem.W.mg_none_of X G z4, PySem.W.mg_none_of X G z5, PySem.W.mg_none_of X G z6, PySem.W.mg_none_of X G z7, PySem.W.mg_none_of X G z8, PySem.W.mg_none_of X G z9, PySem.W.mg_none_of X G z10, PySem.W.mg_none_of X G z11, PySem.W.mg_none_of X G z12, ⟨_, PySem.W.mg_of X G m0⟩, ⟨_, PySem.W.mg_of X G m1⟩, ⟨_, PySem.W.mg_of X G m2⟩, ⟨_, PySem.W.mg_of X G m3⟩, ⟨_, PySem.W.mg_of X G m4⟩, ⟨_, PySem.W.mg_of X G m5⟩, ⟨_, PySem.W.mg_of X G m6⟩, ⟨_, PySem.W.mg_of X G m7⟩, ⟨_, PySem.W.mg_of X G m8⟩, ⟨_, PySem.W.mg_of X G m9⟩, ⟨_, PySem.W.mg_of X G m10⟩, ⟨av, PySem.W.mg_of X G mv, tv⟩, ⟨ar, PySem.W.mg_of X G mr, tr⟩⟩
theorem kit_self {K : PySem.W.Frag} {v : Value} : PySem.W.kitOne K v v = some true := by unfold PySem.W.kitOne; rw [if_pos (beq_self_eq_true _)]
theorem kit_ref {K : PySem.W.Frag} {C D : Addr} {cd : ClassData} {b : Bool} (c : PySem.W.clsIn K D = some cd) (t : PySem.W.typeIn K (.ref D) = some (.type "type")) (s : PySem.W.subIn K (.ref C) (.ref D) = some b) (d : (Value.ref C == Value.ref D) = false) : PySem.W.kitOne K (.ref C) (.ref D) = some b := by
  unfold PySem.W.kitOne PySem.W.kitCls
  rw [if_neg (by rw [d]; exact Bool.false_ne_true)]
  dsimp only
  rw [if_pos (by rw [c, t]; rfl)]
  exact s
theorem kit_ty {K : PySem.W.Frag} {C : Addr} (s : PySem.W.subIn K (.ref C) (.type "ValueError") = some true) : PySem.W.kitOne K (.ref C) (.type "ValueError") = some true := by
  unfold PySem.W.kitOne PySem.W.kitCls
  rw [if_neg (show ¬ ((Value.ref C == Value.type "ValueError") = true) from Bool.false_ne_true)]
  dsimp only
  rw [if_pos (by decide +kernel)]
  exact s
theorem find_none {K : PySem.W.Frag} {C : Addr} {cd : ClassData} {a g : Value} {name : Str} (hc : PySem.W.clsIn K C = some cd) (ha : PySem.W.findIn K (.ref C) name = some (some a)) (hg : PySem.W.specialIn K a "__get__" = some (some g)) (ht : PySem.W.takesIn K a = some true) : PySem.W.findObj K C none name = some (.bind g a) := by
  unfold PySem.W.findObj
  rw [hc, Option.bind_some, ha, Option.bind_some]
  simp [hg, ht]
theorem ecs_mk {K : PySem.W.Frag} {h : Heap} {mg : Str → Option Value} {R C1 C2 C3 C4 C5 C6 C7 C8 C9 : Addr} {cdR cd1 cd2 cd3 cd4 cd5 cd6 cd7 cd8 cd9 : ClassData} (X : K.In h) (G : h.Ns mainGlobals mg)
    (n0 : PySem.W.nsIn K mainGlobals "RunError" = some (some (.ref R))) (n1 : PySem.W.nsIn K mainGlobals "NoProgram" = some (some (.ref C1))) (n2 : PySem.W.nsIn K mainGlobals "NoRow" = some (some (.ref C2))) (n3 : PySem.W.nsIn K mainGlobals "TooLong" = some (some (.ref C3))) (n4 : PySem.W.nsIn K mainGlobals "NoWorld" = some (some (.ref C4))) (n5 : PySem.W.nsIn K mainGlobals "NoText" = some (some (.ref C5))) (n6 : PySem.W.nsIn K mainGlobals "NoStep" = some (some (.ref C6))) (n7 : PySem.W.nsIn K mainGlobals "NoCell" = some (some (.ref C7))) (n8 : PySem.W.nsIn K mainGlobals "NoDoor" = some (some (.ref C8))) (n9 : PySem.W.nsIn K mainGlobals "NoWord" = some (some (.ref C9)))
    (h1 : PySem.W.typeIn K (.ref R) = some (.type "type")) (h2 : PySem.W.clsIn K R = some cdR) (h3 : PySem.W.subIn K (.ref R) (.type "BaseException") = some true) (b2 : PySem.W.specialIn K (.builtin "object.__class__") "__get__" = some (some (.builtin "getset_descriptor.__get__"))) (b3 : PySem.W.takesIn K (.builtin "object.__class__") = some true) (c1 : PySem.W.clsIn K C1 = some cd1) (t1 : PySem.W.typeIn K (.ref C1) = some (.type "type")) (c2 : PySem.W.clsIn K C2 = some cd2) (t2 : PySem.W.typeIn K (.ref C2) = some (.type "type")) (c3 : PySem.W.clsIn K C3 = some cd3) (t3 : PySem.W.typeIn K (.ref C3) = some (.type "type")) (c4 : PySem.W.clsIn K C4 = some cd4) (t4 : PySem.W.typeIn K (.ref C4) = some (.type "type")) (c5 : PySem.W.clsIn K C5 = some cd5) (t5 : PySem.W.typeIn K (.ref C5) = some (.type "type")) (c6 : PySem.W.clsIn K C6 = some cd6) (t6 : PySem.W.typeIn K (.ref C6) = some (.type "type")) (c7 : PySem.W.clsIn K C7 = some cd7) (t7 : PySem.W.typeIn K (.ref C7) = some (.type "type")) (c8 : PySem.W.clsIn K C8 = some cd8) (t8 : PySem.W.typeIn K (.ref C8) = some (.type "type")) (c9 : PySem.W.clsIn K C9 = some cd9) (t9 : PySem.W.typeIn K (.ref C9) = some (.type "type")) (e1x : PySem.W.excIn K C1 mroVE "ValueError.__new__" = true) (a1x : PySem.W.findIn K (.ref C1) "__getattribute__" = some (some (.builtin "BaseException.__getattribute__"))) (a2x : PySem.W.findIn K (.ref C1) "__getattr__" = some none) (b1x : PySem.W.findIn K (.ref C1) "__class__" = some (some (.builtin "object.__class__"))) (a4x : PySem.W.mroIn K C1 (.type "object") = some true) (a5x : PySem.W.subIn K (.ref C1) (.type "BaseException") = some true) (sux : PySem.W.subIn K (.ref C1) (.ref R) = some true) (s2x : PySem.W.subIn K (.ref C1) (.ref C2) = some false) (d2x : (Value.ref C1 == Value.ref C2) = false) (s3x : PySem.W.subIn K (.ref C1) (.ref C3) = some false) (d3x : (Value.ref C1 == Value.ref C3) = false) (s4x : PySem.W.subIn K (.ref C1) (.ref C4) = some false) (d4x : (Value.ref C1 == Value.ref C4) = false) (s5x : PySem.W.subIn K (.ref C1) (.ref C5) = some false) (d5x : (Value.ref C1 == Value.ref C5) = false) (s6x : PySem.W.subIn K (.ref C1) (.ref C6) = some false) (d6x : (Value.ref C1 == Value.ref C6) = false) (s7x : PySem.W.subIn K (.ref C1) (.ref C7) = some false) (d7x : (Value.ref C1 == Value.ref C7) = false) (s8x : PySem.W.subIn K (.ref C1) (.ref C8) = some false) (d8x : (Value.ref C1 == Value.ref C8) = false) (s9x : PySem.W.subIn K (.ref C1) (.ref C9) = some false) (d9x : (Value.ref C1 == Value.ref C9) = false) (svx : PySem.W.subIn K (.ref C1) (.type "ValueError") = some true) (e1y : PySem.W.excIn K C2 mroVE "ValueError.__new__" = true) (a1y : PySem.W.findIn K (.ref C2) "__getattribute__" = some (some (.builtin "BaseException.__getattribute__"))) (a2y : PySem.W.findIn K (.ref C2) "__getattr__" = some none) (b1y : PySem.W.findIn K (.ref C2) "__class__" = some (some (.builtin "object.__class__"))) (a4y : PySem.W.mroIn K C2 (.type "object") = some true) (a5y : PySem.W.subIn K (.ref C2) (.type "BaseException") = some true) (suy : PySem.W.subIn K (.ref C2) (.ref R) = some true) (s1y : PySem.W.subIn K (.ref C2) (.ref C1) = some false) (d1y : (Value.ref C2 == Value.ref C1) = false) (s3y : PySem.W.subIn K (.ref C2) (.ref C3) = some false) (d3y : (Value.ref C2 == Value.ref C3) = false) (s4y : PySem.W.subIn K (.ref C2) (.ref C4) = some false) (d4y : (Value.ref C2 == Value.ref C4) = false) (s5y : PySem.W.subIn K (.ref C2) (.ref C5) = some false) (d5y : (Value.ref C2 == Value.ref C5) = false) (s6y : PySem.W.subIn K (.ref C2) (.ref C6) = some false) (d6y : (Value.ref C2 == Value.ref C6) = false) (s7y : PySem.W.subIn K (.ref C2) (.ref C7) = some false) (d7y : (Value.ref C2 == Value.ref C7) = false) (s8y : PySem.W.subIn K (.ref C2) (.ref C8) = some false) (d8y : (Value.ref C2 == Value.ref C8) = false) (s9y : PySem.W.subIn K (.ref C2) (.ref C9) = some false) (d9y : (Value.ref C2 == Value.ref C9) = false) (svy : PySem.W.subIn K (.ref C2) (.type "ValueError") = some true) (e1z : PySem.W.excIn K C3 mroVE "ValueError.__new__" = true) (a1z : PySem.W.findIn K (.ref C3) "__getattribute__" = some (some (.builtin "BaseException.__getattribute__"))) (a2z : PySem.W.findIn K (.ref C3) "__getattr__" = some none) (b1z : PySem.W.findIn K (.ref C3) "__class__" = some (some (.builtin "object.__class__"))) (a4z : PySem.W.mroIn K C3 (.type "object") = some true) (a5z : PySem.W.subIn K (.ref C3) (.type "BaseException") = some true) (suz : PySem.W.subIn K (.ref C3) (.ref R) = some true) (s1z : PySem.W.subIn K (.ref C3) (.ref C1) = some false) (d1z : (Value.ref C3 == Value.ref C1) = false) (s2z : PySem.W.subIn K (.ref C3) (.ref C2) = some false) (d2z : (Value.ref C3 == Value.ref C2) = false) (s4z : PySem.W.subIn K (.ref C3) (.ref C4) = some false) (d4z : (Value.ref C3 == Value.ref C4) = false) (s5z : PySem.W.subIn K (.ref C3) (.ref C5) = some false) (d5z : (Value.ref C3 == Value.ref C5) = false) (s6z : PySem.W.subIn K (.ref C3) (.ref C6) = some false) (d6z : (Value.ref C3 == Value.ref C6) = false) (s7z : PySem.W.subIn K (.ref C3) (.ref C7) = some false) (d7z : (Value.ref C3 == Value.ref C7) = false) (s8z : PySem.W.subIn K (.ref C3) (.ref C8) = some false) (d8z : (Value.ref C3 == Value.ref C8) = false) (s9z : PySem.W.subIn K (.ref C3) (.ref C9) = some false) (d9z : (Value.ref C3 == Value.ref C9) = false) (svz : PySem.W.subIn K (.ref C3) (.type "ValueError") = some true) : Ecs K mg R C1 C2 C3 C4 C5 C6 C7 C8 C9 :=
  ⟨PySem.W.mg_of X G n0, PySem.W.mg_of X G n1, PySem.W.mg_of X G n2, PySem.W.mg_of X G n3, PySem.W.mg_of X G n4, PySem.W.mg_of X G n5, PySem.W.mg_of X G n6, PySem.W.mg_of X G n7, PySem.W.mg_of X G n8, PySem.W.mg_of X G n9, ⟨h1, by rw [h2]; rfl, h3⟩, ⟨e1x, ⟨a1x, a2x, find_none c1 b1x b2 b3, a4x, a5x⟩, by rw [c1]; rfl, sux, kit_ty svx, .cons (kit_self) (.cons (kit_ref c2 t2 s2x d2x) (.cons (kit_ref c3 t3 s3x d3x) (.cons (kit_ref c4 t4 s4x d4x) (.cons (kit_ref c5 t5 s5x d5x) (.cons (kit_ref c6 t6 s6x d6x) (.cons (kit_ref c7 t7 s7x d7x) (.cons (kit_ref c8 t8 s8x d8x) (.cons (kit_ref c9 t9 s9x d9x) (.nil)))))))))⟩, ⟨e1y, ⟨a1y, a2y, find_none c2 b1y b2 b3, a4y, a5y⟩, by rw [c2]; rfl, suy, kit_ty svy, .cons (kit_ref c1 t1 s1y d1y) (.cons (kit_self) (.cons (kit_ref c3 t3 s3y d3y) (.cons (kit_ref c4 t4 s4y d4y) (.cons (kit_ref c5 t5 s5y d5y) (.cons (kit_ref c6 t6 s6y d6y) (.cons (kit_ref c7 t7 s7y d7y) (.cons (kit_ref c8 t8 s8y d8y) (.cons (kit_ref c9 t9 s9y d9y) (.nil)))))))))⟩, ⟨e1z, ⟨a1z, a2z, find_none c3 b1z b2 b3, a4z, a5z⟩, by rw [c3]; rfl, suz, kit_ty svz, .cons (kit_ref c1 t1 s1z d1z) (.cons (kit_ref c2 t2 s2z d2z) (.cons (kit_self) (.cons (kit_ref c4 t4 s4z d4z) (.cons (kit_ref c5 t5 s5z d5z) (.cons (kit_ref c6 t6 s6z d6z) (.cons (kit_ref c7 t7 s7z d7z) (.cons (kit_ref c8 t8 s8z d8z) (.cons (kit_ref c9 t9 s9z d9z) (.nil)))))))))⟩⟩
theorem scl_mk {K : PySem.W.Frag} {h : Heap} {mg : Str → Option Value} {C : Addr} (X : K.In h) (G : h.Ns mainGlobals mg) (m : PySem.W.nsIn K mainGlobals "Scope" = some (some (.ref C))) (pg : PySem.W.plainGet K C Str.empty = true) (hd : PySem.W.hasDictIn K C = true) (po : PySem.W.plainOver K C = true) (sa : PySem.W.findIn K (.ref C) "__setattr__" = some (some (.builtin "object.__setattr__"))) (n0 : PySem.W.findIn K (.ref C) "boxes" = some none) (n1 : PySem.W.findIn K (.ref C) "lists" = some none) (n2 : PySem.W.findIn K (.ref C) "param_counts" = some none) (n3 : PySem.W.findIn K (.ref C) "may_return" = some none) : SCl K mg C := ⟨PySem.W.mg_of X G m, ⟨pg, hd, po, sa⟩, n0, n1, n2, n3⟩
theorem walk {l : PySem.W.OpenLaw} {q : Program} {loose : List Str} {XP : (Str → Option Value) → Heap → Prop} {YP : World → Heap → Prop} {d : DefRec} {K : Params → PySem.W.Frag} (hn : l.most = some 63) (hdf : d.params.defaults = [])
    (hY : ∀ (w : World) (h : Heap), YP w h → (K w.params).In h)
    (F : ∀ (w : World) (mg : Str → Option Value) (fa : Addr) (h : Heap), (K w.params).In h → h.Ns mainGlobals mg → mg d.name = some (.ref fa) →
      ∃ fd : FuncData, (∀ (s : Shared) (u : Value), BindsTo s fd ⟨[u], []⟩ [("_law_script", u)]) ∧ ∀ base : Heap, (K w.params).In base → base.Ns mainGlobals mg → FnOk l.prog w (K w.params) mg base CX0 29 fa fd ["_law_script"] (spLaw (K w.params))) :
    PySem.W.WalkO q loose XP YP l.row.toRowW d [] (fun f vs => PySem.call f vs) :=
  L2.walk_of (n := 63) (k := 29) (x := "_law_script") (CX := fun _ => CX0) (sp := fun w => spLaw (K w.params)) hn (by decide) hdf ⟨rfl, by decide, by decide⟩ hY F (fun _ _ a ns hl _ hS => ⟨a, ns, rfl, hS, fun _ => rfl⟩) fun _ _ _ _ _ z => z
end K05

set_option Elab.async false
set_option linter.all false
open PySem PySem.W PyProof.Rows
theorem PySem.W.Fast.tw10631718649234978271 : True := True.intro
theorem PySem.W.Fast.tw14820141941912955161 : True := True.intro
theorem PySem.W.Fast.tw7466706635282957929 : True := True.intro
theorem PySem.W.Fast.tw4215377354873677607 : True := True.intro
theorem PySem.W.Fast.tw15972158088475509846 : True := True.intro
theorem PySem.W.Fast.tw10885600071816324962 : True := True.intro
theorem PySem.W.Fast.tw4871778861300914086 : True := True.intro
theorem PySem.W.Fast.tw15660885673250899471 : True := True.intro
theorem PySem.W.Fast.tw16679195771717875187 : True := True.intro
theorem PySem.W.Fast.tw12849070389605012962 : True := True.intro
theorem PySem.W.Fast.tw11744493313785376195 : True := True.intro
theorem PySem.W.Fast.tw13476544477187601423 : True := True.intro
theorem PySem.W.Fast.tw8580449080627656639 : True := True.intro
theorem PySem.W.Fast.tw9166019878185129213 : True := True.intro
theorem PySem.W.Fast.tw14436590364618596593 : True := True.intro
theorem PySem.W.Fast.tw14407255478656693994 : True := True.intro
theorem PySem.W.Fast.tw18311835345278687728 : True := True.intro
theorem PySem.W.Fast.tw8295981312078608366 : True := True.intro
set_option maxRecDepth 100000 in
set_option maxHeartbeats 0 in
theorem PySem.Challenge.cw_retrace_k05_whole_bounds_holds : PySem.Challenge.rw_retrace_k05_whole_bounds.Holds := by
  w_on; o_law; k_head; (case hw => w_witness2)
  k_fill
  refine K05.walk (l := PySem.Challenge.rw_retrace_k05_whole_bounds) rfl rfl (fun w h Y => PySem.W.kIn_of Y) ?F
  case F =>
    intro w mg fa h KX G hmg
    refine' K05.law_mk KX G hmg ?T ?Z ?W ?M0 ?S14 ?S15 ?S16 ?S17 ?S20 ?S21 ?S26 ?S27 ?S28 ?S29 ?S30 ?S31 ?S41 ?S42 ?S43 ?S44 ?S45 ?S46 ?S47 ?S48 ?S49 ?S50 ?S51 ?S52 ?S53 ?S54 ?S55 ?S57 ?S58 ?S59 ?S60 ?S61 ?S62 ?S63 ?S64 ?S65 ?S66 ?a3 ?l3 ?c3 ?k3
    (case a3 => k_is); (case l3 => k_is); (case c3 => k_is); (case k3 => k_is)
    (case W => refine' K05.scl_mk KX G ?m ?pg ?hd ?po ?sa ?n0 ?n1 ?n2 ?n3; (case m => k_is); (case pg => k_is); (case hd => k_is); (case po => k_is); (case sa => k_is); (case n0 => k_is); (case n1 => k_is); (case n2 => k_is); (case n3 => k_is))
    (case M0 => refine' K05.srci_mk K05.bm0 ?a ?i ?l ?c ?k ?mk ?kc; (case a => k_is); (case i => k_is); (case l => k_is); (case c => k_is); (case k => k_is); (case mk => k_is); (case kc => k_is))
    (case S14 => refine' K05.src_mk KX G K05.bi14 ?a ?l ?c ?k; (case a => k_is); (case l => k_is); (case c => k_is); (case k => k_is))
    (case S15 => refine' K05.src_mk KX G K05.bi15 ?a ?l ?c ?k; (case a => k_is); (case l => k_is); (case c => k_is); (case k => k_is))
    (case S16 => refine' K05.src_mk KX G K05.bi16 ?a ?l ?c ?k; (case a => k_is); (case l => k_is); (case c => k_is); (case k => k_is))
    (case S17 => refine' K05.src_mk KX G K05.bi17 ?a ?l ?c ?k; (case a => k_is); (case l => k_is); (case c => k_is); (case k => k_is))
    (case S20 => refine' K05.src_mk KX G K05.bi20 ?a ?l ?c ?k; (case a => k_is); (case l => k_is); (case c => k_is); (case k => k_is))
    (case S21 => refine' K05.src_mk KX G K05.bi21 ?a ?l ?c ?k; (case a => k_is); (case l => k_is); (case c => k_is); (case k => k_is))
    (case S26 => refine' K05.src_mk KX G K05.bi26 ?a ?l ?c ?k; (case a => k_is); (case l => k_is); (case c => k_is); (case k => k_is))
    (case S27 => refine' K05.src_mk KX G K05.bi27 ?a ?l ?c ?k; (case a => k_is); (case l => k_is); (case c => k_is); (case k => k_is))
    (case S28 => refine' K05.src_mk KX G K05.bi28 ?a ?l ?c ?k; (case a => k_is); (case l => k_is); (case c => k_is); (case k => k_is))
    (case S29 => refine' K05.src_mk KX G K05.bi29 ?a ?l ?c ?k; (case a => k_is); (case l => k_is); (case c => k_is); (case k => k_is))
    (case S30 => refine' K05.src_mk KX G K05.bi30 ?a ?l ?c ?k; (case a => k_is); (case l => k_is); (case c => k_is); (case k => k_is))
    (case S31 => refine' K05.src_mk KX G K05.bi31 ?a ?l ?c ?k; (case a => k_is); (case l => k_is); (case c => k_is); (case k => k_is))
    (case S41 => refine' K05.src_mk KX G K05.bi41 ?a ?l ?c ?k; (case a => k_is); (case l => k_is); (case c => k_is); (case k => k_is))
    (case S42 => refine' K05.src_mk KX G K05.bi42 ?a ?l ?c ?k; (case a => k_is); (case l => k_is); (case c => k_is); (case k => k_is))
    (case S43 => refine' K05.src_mk KX G K05.bi43 ?a ?l ?c ?k; (case a => k_is); (case l => k_is); (case c => k_is); (case k => k_is))
    (case S44 => refine' K05.src_mk KX G K05.bi44 ?a ?l ?c ?k; (case a => k_is); (case l => k_is); (case c => k_is); (case k => k_is))
    (case S45 => refine' K05.src_mk KX G K05.bi45 ?a ?l ?c ?k; (case a => k_is); (case l => k_is); (case c => k_is); (case k => k_is))
    (case S46 => refine' K05.src_mk KX G K05.bi46 ?a ?l ?c ?k; (case a => k_is); (case l => k_is); (case c => k_is); (case k => k_is))
    (case S47 => refine' K05.src_mk KX G K05.bi47 ?a ?l ?c ?k; (case a => k_is); (case l => k_is); (case c => k_is); (case k => k_is))
    (case S48 => refine' K05.src_mk KX G K05.bi48 ?a ?l ?c ?k; (case a => k_is); (case l => k_is); (case c => k_is); (case k => k_is))
    (case S49 => refine' K05.src_mk KX G K05.bi49 ?a ?l ?c ?k; (case a => k_is); (case l => k_is); (case c => k_is); (case k => k_is))
    (case S50 => refine' K05.src_mk KX G K05.bi50 ?a ?l ?c ?k; (case a => k_is); (case l => k_is); (case c => k_is); (case k => k_is))
    (case S51 => refine' K05.src_mk KX G K05.bi51 ?a ?l ?c ?k; (case a => k_is); (case l => k_is); (case c => k_is); (case k => k_is))
    (case S52 => refine' K05.src_mk KX G K05.bi52 ?a ?l ?c ?k; (case a => k_is); (case l => k_is); (case c => k_is); (case k => k_is))
    (case S53 => refine' K05.src_mk KX G K05.bi53 ?a ?l ?c ?k; (case a => k_is); (case l => k_is); (case c => k_is); (case k => k_is))
    (case S54 => refine' K05.src_mk KX G K05.bi54 ?a ?l ?c ?k; (case a => k_is); (case l => k_is); (case c => k_is); (case k => k_is))
    (case S55 => refine' K05.src_mk KX G K05.bi55 ?a ?l ?c ?k; (case a => k_is); (case l => k_is); (case c => k_is); (case k => k_is))
    (case S57 => refine' K05.src_mk KX G K05.bi57 ?a ?l ?c ?k; (case a => k_is); (case l => k_is); (case c => k_is); (case k => k_is))
    (case S58 => refine' K05.src_mk KX G K05.bi58 ?a ?l ?c ?k; (case a => k_is); (case l => k_is); (case c => k_is); (case k => k_is))
    (case S59 => refine' K05.src_mk KX G K05.bi59 ?a ?l ?c ?k; (case a => k_is); (case l => k_is); (case c => k_is); (case k => k_is))
    (case S60 => refine' K05.src_mk KX G K05.bi60 ?a ?l ?c ?k; (case a => k_is); (case l => k_is); (case c => k_is); (case k => k_is))
    (case S61 => refine' K05.src_mk KX G K05.bi61 ?a ?l ?c ?k; (case a => k_is); (case l => k_is); (case c => k_is); (case k => k_is))
    (case S62 => refine' K05.src_mk KX G K05.bi62 ?a ?l ?c ?k; (case a => k_is); (case l => k_is); (case c => k_is); (case k => k_is))
    (case S63 => refine' K05.src_mk KX G K05.bi63 ?a ?l ?c ?k; (case a => k_is); (case l => k_is); (case c => k_is); (case k => k_is))
    (case S64 => refine' K05.src_mk KX G K05.bi64 ?a ?l ?c ?k; (case a => k_is); (case l => k_is); (case c => k_is); (case k => k_is))
    (case S65 => refine' K05.src_mk KX G K05.bi65 ?a ?l ?c ?k; (case a => k_is); (case l => k_is); (case c => k_is); (case k => k_is))
    (case S66 => refine' K05.src_mk KX G K05.bi66 ?a ?l ?c ?k; (case a => k_is); (case l => k_is); (case c => k_is); (case k => k_is))
    (case T =>
      refine' K05.txt_mk KX G ?z0 ?z1 ?z2 ?z3 ?z4 ?z5 ?z6 ?z7 ?z8 ?z9 ?z10 ?z11 ?z12 ?m0 ?m1 ?m2 ?m3 ?m4 ?m5 ?m6 ?m7 ?m8 ?m9 ?m10 ?mv ?mr ?tv ?tr
      (case z0 => k_is); (case z1 => k_is); (case z2 => k_is); (case z3 => k_is); (case z4 => k_is); (case z5 => k_is); (case z6 => k_is); (case z7 => k_is); (case z8 => k_is); (case z9 => k_is); (case z10 => k_is); (case z11 => k_is); (case z12 => k_is); (case m0 => k_is); (case m1 => k_is); (case m2 => k_is); (case m3 => k_is); (case m4 => k_is); (case m5 => k_is); (case m6 => k_is); (case m7 => k_is); (case m8 => k_is); (case m9 => k_is); (case m10 => k_is); (case mv => k_is); (case mr => k_is)
      (case tv =>
        refine' K05.tab_mk ?l ?lo ?e0 ?e1 ?e2 ?e3 ?e4 ?e5 ?e6 ?e7 ?e8 ?e9 ?e10 ?e11 ?l0 ?c0 ?d0 ?l1 ?c1 ?d1 ?l2 ?c2 ?d2 ?l3 ?c3 ?d3 ?l4 ?c4 ?d4 ?l5 ?c5 ?d5 ?l6 ?c6 ?d6 ?l7 ?c7 ?d7 ?l8 ?c8 ?d8 ?l9 ?c9 ?d9 ?l10 ?c10 ?d10 ?l11 ?c11 ?d11
        (case l => k_is); (case lo => decide)
        (case e0 => rfl); (case e1 => rfl); (case e2 => rfl); (case e3 => rfl); (case e4 => rfl); (case e5 => rfl); (case e6 => rfl); (case e7 => rfl); (case e8 => rfl); (case e9 => rfl); (case e10 => rfl); (case e11 => rfl)
        (case l0 => k_is); (case c0 => rfl); (case d0 => rfl)
        (case l1 => k_is); (case c1 => rfl); (case d1 => rfl)
        (case l2 => k_is); (case c2 => rfl); (case d2 => rfl)
        (case l3 => k_is); (case c3 => rfl); (case d3 => rfl)
        (case l4 => k_is); (case c4 => rfl); (case d4 => rfl)
        (case l5 => k_is); (case c5 => rfl); (case d5 => rfl)
        (case l6 => k_is); (case c6 => rfl); (case d6 => rfl)
        (case l7 => k_is); (case c7 => rfl); (case d7 => rfl)
        (case l8 => k_is); (case c8 => rfl); (case d8 => rfl)
        (case l9 => k_is); (case c9 => rfl); (case d9 => rfl)
        (case l10 => k_is); (case c10 => rfl); (case d10 => rfl)
        (case l11 => k_is); (case c11 => rfl); (case d11 => rfl))
      (case tr =>
        refine' K05.rtab_mk ?l ?lo ?e0 ?e1 ?e2 ?e3 ?e4 ?e5 ?e6 ?e7 ?e8 ?e9 ?e10 ?e11 ?l0 ?c0 ?d0 ?l1 ?c1 ?d1 ?l2 ?c2 ?d2 ?l3 ?c3 ?d3 ?l4 ?c4 ?d4 ?l5 ?c5 ?d5 ?l6 ?c6 ?d6 ?l7 ?c7 ?d7 ?l8 ?c8 ?d8 ?l9 ?c9 ?d9 ?l10 ?c10 ?d10 ?l11 ?c11 ?d11
        (case l => k_is); (case lo => decide)
        (case e0 => rfl); (case e1 => rfl); (case e2 => rfl); (case e3 => rfl); (case e4 => rfl); (case e5 => rfl); (case e6 => rfl); (case e7 => rfl); (case e8 => rfl); (case e9 => rfl); (case e10 => rfl); (case e11 => rfl)
        (case l0 => k_is); (case c0 => rfl); (case d0 => rfl)
        (case l1 => k_is); (case c1 => rfl); (case d1 => rfl)
        (case l2 => k_is); (case c2 => rfl); (case d2 => rfl)
        (case l3 => k_is); (case c3 => rfl); (case d3 => rfl)
        (case l4 => k_is); (case c4 => rfl); (case d4 => rfl)
        (case l5 => k_is); (case c5 => rfl); (case d5 => rfl)
        (case l6 => k_is); (case c6 => rfl); (case d6 => rfl)
        (case l7 => k_is); (case c7 => rfl); (case d7 => rfl)
        (case l8 => k_is); (case c8 => rfl); (case d8 => rfl)
        (case l9 => k_is); (case c9 => rfl); (case d9 => rfl)
        (case l10 => k_is); (case c10 => rfl); (case d10 => rfl)
        (case l11 => k_is); (case c11 => rfl); (case d11 => rfl)))
    (case Z =>
      refine' K05.ecs_mk KX G ?n0 ?n1 ?n2 ?n3 ?n4 ?n5 ?n6 ?n7 ?n8 ?n9 ?h1 ?h2 ?h3 ?b2 ?b3 ?c1 ?t1 ?c2 ?t2 ?c3 ?t3 ?c4 ?t4 ?c5 ?t5 ?c6 ?t6 ?c7 ?t7 ?c8 ?t8 ?c9 ?t9 ?e1x ?a1x ?a2x ?b1x ?a4x ?a5x ?sux ?s2x ?d2x ?s3x ?d3x ?s4x ?d4x ?s5x ?d5x ?s6x ?d6x ?s7x ?d7x ?s8x ?d8x ?s9x ?d9x ?svx ?e1y ?a1y ?a2y ?b1y ?a4y ?a5y ?suy ?s1y ?d1y ?s3y ?d3y ?s4y ?d4y ?s5y ?d5y ?s6y ?d6y ?s7y ?d7y ?s8y ?d8y ?s9y ?d9y ?svy ?e1z ?a1z ?a2z ?b1z ?a4z ?a5z ?suz ?s1z ?d1z ?s2z ?d2z ?s4z ?d4z ?s5z ?d5z ?s6z ?d6z ?s7z ?d7z ?s8z ?d8z ?s9z ?d9z ?svz
      (case n0 => k_is); (case n1 => k_is); (case n2 => k_is); (case n3 => k_is); (case n4 => k_is); (case n5 => k_is); (case n6 => k_is); (case n7 => k_is); (case n8 => k_is); (case n9 => k_is); (case h1 => k_is); (case h2 => k_is); (case h3 => k_is); (case b2 => k_is); (case b3 => k_is); (case c1 => k_is); (case t1 => k_is); (case c2 => k_is); (case t2 => k_is); (case c3 => k_is); (case t3 => k_is); (case c4 => k_is); (case t4 => k_is); (case c5 => k_is); (case t5 => k_is); (case c6 => k_is); (case t6 => k_is); (case c7 => k_is); (case t7 => k_is); (case c8 => k_is); (case t8 => k_is); (case c9 => k_is); (case t9 => k_is); (case e1x => k_exc); (case a1x => k_is); (case a2x => k_is); (case b1x => k_is); (case a4x => k_is); (case a5x => k_is); (case sux => k_is); (case s2x => k_is); (case d2x => decide); (case s3x => k_is); (case d3x => decide); (case s4x => k_is); (case d4x => decide); (case s5x => k_is); (case d5x => decide); (case s6x => k_is); (case d6x => decide); (case s7x => k_is); (case d7x => decide); (case s8x => k_is); (case d8x => decide); (case s9x => k_is); (case d9x => decide); (case svx => k_is); (case e1y => k_exc); (case a1y => k_is); (case a2y => k_is); (case b1y => k_is); (case a4y => k_is); (case a5y => k_is); (case suy => k_is); (case s1y => k_is); (case d1y => decide); (case s3y => k_is); (case d3y => decide); (case s4y => k_is); (case d4y => decide); (case s5y => k_is); (case d5y => decide); (case s6y => k_is); (case d6y => decide); (case s7y => k_is); (case d7y => decide); (case s8y => k_is); (case d8y => decide); (case s9y => k_is); (case d9y => decide); (case svy => k_is); (case e1z => k_exc); (case a1z => k_is); (case a2z => k_is); (case b1z => k_is); (case a4z => k_is); (case a5z => k_is); (case suz => k_is); (case s1z => k_is); (case d1z => decide); (case s2z => k_is); (case d2z => decide); (case s4z => k_is); (case d4z => decide); (case s5z => k_is); (case d5z => decide); (case s6z => k_is); (case d6z => decide); (case s7z => k_is); (case d7z => decide); (case s8z => k_is); (case d8z => decide); (case s9z => k_is); (case d9z => decide); (case svz => k_is))

