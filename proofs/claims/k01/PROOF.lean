import PyProof.Rows.All
import Wide.All
import OpenK.AllK
import Wide.FinOn
import Lean
import PyProof.EqAt
import PyProof.EqKinds
import PyProof.TupleCall
import PySem.Challenge.RW_retrace_k01_names_numbers_values
set_option Elab.async false
set_option linter.all false
set_option maxRecDepth 100000
/-! THE HAND LAYER, for ints, bools, texts, own classes, LISTS and tuples (index, slices, in, append, pop ..), calls, loops. Paste it whole ahead of your own text; what your proof does not reach may be deleted. -/
namespace L2
open PySem PySem.Spec PyProof.Rows

/-- a key: an int or a str -/
abbrev Key := Sum Int Str
def keyIs : Key → Value → Bool
  | .inl k, v => Value.isInt k v
  | .inr x, v => Value.isStrOf x v
def keyH (w : World) : Key → Int
  | .inl k => hashInt k
  | .inr x => hashStr w x
theorem keyIs_shape : ∀ {k : Key} {v : Value}, keyIs k v = true → (∃ i t, k = Sum.inl i ∧ v = Value.int i t) ∨ (∃ x t, k = Sum.inr x ∧ v = Value.str x t)
  | .inl i, v, h => by
    obtain ⟨t, e⟩ := Value.isInt_shape (k := i) (v := v) h
    exact .inl ⟨i, t, rfl, e⟩
  | .inr x, v, h => by
    obtain ⟨t, e⟩ := Value.isStrOf_shape (x := x) (v := v) h
    exact .inr ⟨x, t, rfl, e⟩
theorem keyIs_int (i : Int) (t : Tok) : keyIs (.inl i) (.int i t) = true := by simp [keyIs, Value.isInt]
theorem keyIs_str (x : Str) (t : Tok) : keyIs (.inr x) (.str x t) = true := by simp [keyIs, Value.isStrOf]
theorem key_ll (a b : Int) : decide ((Sum.inl a : Key) = Sum.inl b) = (a == b) := by
  by_cases e : a = b
  · subst e; simp
  · have h : ¬ (Sum.inl a : Key) = Sum.inl b := fun q => e (Sum.inl.inj q)
    rw [decide_eq_false h]
    exact (beq_eq_false_iff_ne.mpr e).symm
theorem key_rr (a b : Str) : decide ((Sum.inr a : Key) = Sum.inr b) = decide (a = b) := by
  by_cases e : a = b
  · subst e; simp
  · have h : ¬ (Sum.inr a : Key) = Sum.inr b := fun q => e (Sum.inr.inj q)
    rw [decide_eq_false h, decide_eq_false e]
theorem key_lr (a : Int) (b : Str) : decide ((Sum.inl a : Key) = Sum.inr b) = false := decide_eq_false (fun q => nomatch q)
theorem key_rl (a : Str) (b : Int) : decide ((Sum.inr a : Key) = Sum.inl b) = false := decide_eq_false (fun q => nomatch q)

def mixKind (prog : Program) (w : World) : PySem.KeyKind prog w Key where
  is := keyIs
  hash := keyH w
  inj := fun v a b ha hb => by
    rcases keyIs_shape ha with ⟨i, t, rfl, rfl⟩ | ⟨x, t, rfl, rfl⟩
    · rcases keyIs_shape hb with ⟨j, u, rfl, e⟩ | ⟨y, u, rfl, e⟩
      · injection e with e1 _; rw [e1]
      · exact nomatch e
    · rcases keyIs_shape hb with ⟨j, u, rfl, e⟩ | ⟨y, u, rfl, e⟩
      · exact nomatch e
      · injection e with e1 _; rw [e1]
  byValue := fun k v h => by
    rcases keyIs_shape h with ⟨i, t, rfl, rfl⟩ | ⟨x, t, rfl, rfl⟩ <;> rfl
  pyHash := fun hv h => by
    rcases keyIs_shape hv with ⟨i, t, rfl, rfl⟩ | ⟨x, t, rfl, rfl⟩
    · exact wpAny_pyHash_int h
    · exact wpAny_pyHash_str h
  eqBool := fun hu hv h => by
    rcases keyIs_shape hu with ⟨i, t, rfl, rfl⟩ | ⟨x, t, rfl, rfl⟩
    · rcases keyIs_shape hv with ⟨j, u, rfl, rfl⟩ | ⟨y, u, rfl, rfl⟩
      · rw [key_ll] at h; exact wpAny_eqBool_int h
      · rw [key_lr] at h; exact SeqAt.EqAt.int_str i t y u _ _ _ _ h
    · rcases keyIs_shape hv with ⟨j, u, rfl, rfl⟩ | ⟨y, u, rfl, rfl⟩
      · rw [key_rl] at h; exact SeqAt.EqAt.str_int x t j u _ _ _ _ h
      · rw [key_rr] at h; exact wpAny_eqBool_str h
  «strs» := fun k x t v h => by
    rcases keyIs_shape h with ⟨i, u, rfl, e⟩ | ⟨y, u, rfl, e⟩
    · exact nomatch e
    · injection e with e1 _
      subst e1
      cases v <;> rfl

theorem mixKind_is (prog : Program) (w : World) (k : Key) (v : Value) : (mixKind prog w).is k v = keyIs k v := rfl
theorem mixKind_int (prog : Program) (w : World) (i : Int) (t : Tok) : (mixKind prog w).is (.inl i) (.int i t) = true := keyIs_int i t
theorem mixKind_str (prog : Program) (w : World) (x : Str) (t : Tok) : (mixKind prog w).is (.inr x) (.str x t) = true := keyIs_str x t
end L2

namespace L2
open PySem PySem.Spec PyProof.Rows

/-- a value, without the heap -/
inductive V where
  | non | bl (b : Bool) | int (i : Int) | str (x : Str) | byt (b : Array UInt8) | flt (b : UInt64) | ref (a : Addr) | ty (n : String)
  deriving DecidableEq

def RelV : V → Value → Prop
  | .non, u => u = Value.none
  | .bl b, u => u = Value.bool b
  | .int i, u => ∃ t, u = Value.int i t
  | .str x, u => ∃ t, u = Value.str x t
  | .byt b, u => ∃ t, u = Value.bytes b t
  | .flt b, u => ∃ t, u = Value.float b t
  | .ref a, u => u = Value.ref a
  | .ty n, u => u = Value.type n

abbrev Vals : List V → List Value → Prop := Paired RelV
theorem Vals.length {xs : List V} {us : List Value} (r : Vals xs us) : xs.length = us.length := Paired.length r
theorem Vals.get : ∀ {xs : List V} {us : List Value} {i : Nat} {x : V}, Vals xs us → xs[i]? = some x → ∃ u, us[i]? = some u ∧ RelV x u
  | _, _, _, _, .nil, e => by simp at e
  | _, _, 0, _, .cons r _, e => by simp at e; subst e; exact ⟨_, rfl, r⟩
  | _, _, i + 1, x, .cons _ t, e => by
    obtain ⟨u, h1, h2⟩ := Vals.get (i := i) (x := x) t (by simpa using e)
    exact ⟨u, by simpa using h1, h2⟩
theorem Vals.set {x : V} {u : Value} (r : RelV x u) : ∀ {xs : List V} {us : List Value} (i : Nat), Vals xs us → Vals (xs.set i x) (us.set i u)
  | _, _, _, .nil => .nil
  | _, _, 0, .cons _ t => .cons r t
  | _, _, i + 1, .cons q t => .cons q (Vals.set r i t)
theorem Vals.append : ∀ {xs ys : List V} {us ws : List Value}, Vals xs us → Vals ys ws → Vals (xs ++ ys) (us ++ ws)
  | _, _, _, _, .nil, s => s
  | _, _, _, _, .cons r t, s => .cons r (Vals.append t s)
theorem Vals.take : ∀ {xs : List V} {us : List Value} (n : Nat), Vals xs us → Vals (xs.take n) (us.take n)
  | _, _, 0, _ => .nil
  | _, _, _ + 1, .nil => .nil
  | _, _, n + 1, .cons r t => .cons r (Vals.take n t)
theorem Vals.drop : ∀ {xs : List V} {us : List Value} (n : Nat), Vals xs us → Vals (xs.drop n) (us.drop n)
  | _, _, 0, r => r
  | _, _, _ + 1, .nil => .nil
  | _, _, n + 1, .cons _ t => Vals.drop n t
theorem Vals.none_of : ∀ {xs : List V} {us : List Value} {i : Nat}, Vals xs us → xs[i]? = none → us[i]? = none := fun {xs us i} r e => by
  have h1 := r.length
  have h2 : xs.length ≤ i := List.getElem?_eq_none_iff.mp e
  exact List.getElem?_eq_none_iff.mpr (by omega)

def RelO : Option V → Option Value → Prop
  | some v, some u => RelV v u
  | none, none => True
  | _, _ => False
def KV {κ : Type} : List (κ × V) → List (κ × Value) → Prop := Paired fun (p : κ × V) (q : κ × Value) => p.1 = q.1 ∧ RelV p.2 q.2

/-- a key of a dict (00_mix): an int or a text -/
def kV : Key → V
  | .inl i => .int i
  | .inr x => .str x

/-- what stands at a tracked address -/
inductive HO where
  /-- a list -/
  | lst (xs : List V)
  /-- a tuple (never changes) -/
  | tup (xs : List V)
  /-- a dict whose keys are ints and texts; one whose keys are tuples of ints and texts (the empty one is both) -/
  | dK (kvs : List (Key × V)) | dT (kvs : List (List Key × V))
  /-- a set of ints: its members, its size -/
  | set (S : Int → Bool) (n : Nat)
  /-- an instance of the class at C, its dict at dx, its attributes -/
  | ins (C dx : Addr) (fs : List (Str × V))
  /-- the dict of the instance at x -/
  | own (x : Addr)
  /-- the dict of an exception -/
  | xd (fs : List (Str × V))
  /-- a bound method, f of x -/
  | met (f x : Addr)
  /-- a range object lo, lo + 1, .. below hi -/
  | rng (lo hi : Int)
  /-- a thing that is known to the object (the script; a dict while a loop walks it): read, never written while it is so -/
  | frz (o : Obj) (u : HO)
  /-- a code object's table -/
  | tbl (ps : Array Value)
  /-- any other thing, by what is true of its one object (a def of one's own: SetO a S n := HO.ext fun h => ..) -/
  | ext (φ : Heap → Prop)

abbrev Hp := Addr → Option HO
def upd (H : Hp) (a : Addr) (o : HO) : Hp := fun b => if b = a then some o else H b
theorem upd_same {H : Hp} {a : Addr} {o : HO} : upd H a o a = some o := by unfold upd; rw [if_pos rfl]
theorem upd_ne {H : Hp} {a b : Addr} {o : HO} (h : b ≠ a) : upd H a o b = H b := by unfold upd; rw [if_neg h]
theorem upd_upd {H : Hp} {a : Addr} {o u : HO} : upd (upd H a o) a u = upd H a u := by
  funext b; unfold upd; split <;> rfl
/-- two objects of different content stand apart -/
theorem ne_of {H : Hp} {a b : Addr} {o u : HO} (h : H a = some o) (h' : H b = some u) (d : o ≠ u) : a ≠ b := by
  intro e; subst e; rw [h] at h'; exact d (Option.some.inj h')
theorem ne_of_none {H : Hp} {a b : Addr} {o : HO} (h : H a = some o) (h' : H b = none) : a ≠ b := by
  intro e; subst e; rw [h] at h'; cases h'

section
variable (P : Program) (w : World)
def ObjOk (H : Hp) (h : Heap) (a : Addr) : HO → Prop
  | .lst xs => xs.length ≤ sizeLine ∧ ∃ (its : List Value) (n : Nat), Vals xs its ∧ h.get? a = some { cls := .type "list", data := .seq its.toArray n }
  | .tup xs => xs.length ≤ sizeLine ∧ ∃ its : List Value, Vals xs its ∧ IsTup h a its.toArray
  | .dK kvs => kvs.length ≤ sizeLine ∧ (a == sysModules) = false ∧ ∃ vs, KV kvs vs ∧ h.DictOf (mixKind P w) a vs
  | .dT kvs => kvs.length ≤ sizeLine ∧ (a == sysModules) = false ∧ ∃ xs : List (List Key × Addr × Value),
      Paired (fun (p : List Key × V) (q : List Key × Addr × Value) => p.1 = q.1 ∧ H q.2.1 = some (.tup (p.1.map kV)) ∧ RelV p.2 q.2.2) kvs xs ∧
      ∃ o es ep, h.get? a = some o ∧ o.ExactDict ∧ o.data = .dict es ep ∧ es.toList = xs.map (entryOfKey (tupleKind (mixKind P w))) ∧ (xs.map (·.1)).Nodup
  | .set S n => h.SetOf (intKind P w) a S n
  | .ins C dx fs => H dx = some (.own a) ∧ fs.length ≤ 1000 ∧ dx ≠ a ∧ h.get? a = some (PySem.W.instObj C dx) ∧
      ∃ mA, h.Ns1 dx mA ∧ (∀ f, RelO (fs.lookup f) (mA f)) ∧ PySem.Within mA (fs.map (·.1))
  | .own _ => ∃ o, h.get? a = some o
  | .xd fs => ∃ mA, h.Ns1 a mA ∧ ∀ f, RelO (fs.lookup f) (mA f)
  | .rng lo hi => ∃ t u v, h.get? a = some { cls := .type "range", data := .fields #[.int lo t, .int hi u, .int 1 v] }
  | .frz o u => h.get? a = some o ∧ ObjOk H h a u
  | .tbl ps => h.get? a = some { cls := .none, data := .fields ps }
  | .met f x => h.get? a = some (PySem.W.methodObj (.ref f) (.ref x))
  | .ext φ => φ h ∧ (∃ o, h.get? a = some o) ∧ ∀ h1 h2 : Heap, φ h1 → (∀ o, h1.get? a = some o → h2.get? a = some o) → φ h2
/-- the abstract heap is held -/
def HOk (H : Hp) (h : Heap) : Prop := ∀ a o, H a = some o → ObjOk P w H h a o
end

section
variable {P : Program} {w : World} {H H' : Hp} {h h' : Heap} {a : Addr} {o : HO}
theorem ObjOk.lt (x : ObjOk P w H h a o) : a < h.objs.size := by
  cases o with
  | lst xs => obtain ⟨_, _, _, _, e⟩ := x; exact Heap.lt_size e
  | tup xs => obtain ⟨_, _, _, p⟩ := x; exact p.lt
  | dK kvs => obtain ⟨_, _, _, _, o, _, _, e, _⟩ := x; exact Heap.lt_size e
  | dT kvs => obtain ⟨_, _, _, _, o, _, _, e, _⟩ := x; exact Heap.lt_size e
  | set S n => obtain ⟨o, _, _, _, e, _⟩ := x; exact Heap.lt_size e
  | ins C dx fs => obtain ⟨_, _, _, e, _⟩ := x; exact Heap.lt_size e
  | own y => obtain ⟨_, e⟩ := x; exact Heap.lt_size e
  | xd fs => obtain ⟨_, ⟨_, _, _, e, _⟩, _⟩ := x; exact Heap.lt_size e
  | rng lo hi => obtain ⟨_, _, _, e⟩ := x; exact Heap.lt_size e
  | frz ob u => obtain ⟨e, _⟩ := x; exact Heap.lt_size e
  | tbl ps => exact Heap.lt_size (show h.get? a = some _ from x)
  | met f y => exact Heap.lt_size (show h.get? a = some _ from x)
  | ext φ => obtain ⟨_, ⟨_, e⟩, _⟩ := x; exact Heap.lt_size e
theorem Paired.mapP {α β : Type} {F G : α → β → Prop} : ∀ {l₁ : List α} {l₂ : List β}, Paired F l₁ l₂ → (∀ a b, F a b → G a b) → Paired G l₁ l₂
  | _, _, .nil, _ => .nil
  | _, _, .cons r t, f => .cons (f _ _ r) (Paired.mapP t f)
theorem Paired.imp' {α β : Type} {F G : α → β → Prop} (f : ∀ a b, F a b → G a b) {l₁ : List α} {l₂ : List β} (r : Paired F l₁ l₂) : Paired G l₁ l₂ := Paired.mapP r f
/-- what an object's description leans on: its own object, its own dict, the tuples -/
theorem ObjOk.stay (x : ObjOk P w H h a o) (k : ∀ b u, (b = a ∨ H b = some (.own a)) → h.get? b = some u → h'.get? b = some u)
    (ho : ∀ b, H b = some (.own a) → H' b = some (.own a)) (ht : ∀ b xs, H b = some (.tup xs) → H' b = some (.tup xs)) : ObjOk P w H' h' a o := by
  induction o with
  | lst xs => obtain ⟨z, its, n, r, e⟩ := x; exact ⟨z, its, n, r, k _ _ (.inl rfl) e⟩
  | tup xs => obtain ⟨z, its, r, ob, e, c⟩ := x; exact ⟨z, its, r, ob, k _ _ (.inl rfl) e, c⟩
  | dK kvs => obtain ⟨z, y, vs, r, ob, es, ep, e, c⟩ := x; exact ⟨z, y, vs, r, ob, es, ep, k _ _ (.inl rfl) e, c⟩
  | dT kvs =>
    obtain ⟨z, y, xs, r, ob, es, ep, e, c⟩ := x
    exact ⟨z, y, xs, Paired.mapP r fun p q z => ⟨z.1, ht _ _ z.2.1, z.2.2⟩, ob, es, ep, k _ _ (.inl rfl) e, c⟩
  | set S n => obtain ⟨ob, es, ep, t, e, c⟩ := x; exact ⟨ob, es, ep, t, k _ _ (.inl rfl) e, c⟩
  | ins C dx fs =>
    obtain ⟨d, z, ne, e, mA, ⟨od, es, ep, e2, c⟩, r⟩ := x
    exact ⟨ho _ d, z, ne, k _ _ (.inl rfl) e, mA, ⟨od, es, ep, k _ _ (.inr d) e2, c⟩, r⟩
  | own y => obtain ⟨ob, e⟩ := x; exact ⟨ob, k _ _ (.inl rfl) e⟩
  | xd fs => obtain ⟨mA, ⟨od, es, ep, e, c⟩, r⟩ := x; exact ⟨mA, ⟨od, es, ep, k _ _ (.inl rfl) e, c⟩, r⟩
  | rng lo hi => obtain ⟨t, u, v, e⟩ := x; exact ⟨t, u, v, k _ _ (.inl rfl) e⟩
  | frz ob u ih => obtain ⟨e, q⟩ := x; exact ⟨k _ _ (.inl rfl) e, ih q⟩
  | tbl ps =>
    have e : h.get? a = some { cls := .none, data := .fields ps } := x
    show h'.get? a = some { cls := .none, data := .fields ps }
    exact k a _ (.inl rfl) e
  | met f y =>
    have e : h.get? a = some (PySem.W.methodObj (.ref f) (.ref y)) := x
    show h'.get? a = some (PySem.W.methodObj (.ref f) (.ref y))
    exact k a _ (.inl rfl) e
  | ext φ => obtain ⟨p, ⟨o, e⟩, st⟩ := x; exact ⟨st _ _ p fun o q => k _ _ (.inl rfl) q, ⟨o, k _ _ (.inl rfl) e⟩, st⟩
theorem HOk.lt (x : HOk P w H h) (e : H a = some o) : a < h.objs.size := (x a o e).lt
theorem HOk.fresh (x : HOk P w H h) (e : h.objs.size ≤ a) : H a = none := by
  cases q : H a with
  | none => rfl
  | some u => exact absurd (Nat.lt_of_lt_of_le (x.lt q) e) (Nat.lt_irrefl _)
/-- every object of the heap is kept -/
theorem HOk.kept (x : HOk P w H h) (k : ∀ b u, h.get? b = some u → h'.get? b = some u) : HOk P w H h' := fun a o e =>
  (x a o e).stay (fun b u _ q => k b u q) (fun _ q => q) fun _ _ q => q
/-- a new object is laid and tracked -/
theorem HOk.laid (x : HOk P w H h) (k : ∀ b u, h.get? b = some u → h'.get? b = some u) (hp : h.objs.size ≤ a) (new : ObjOk P w (upd H a o) h' a o) : HOk P w (upd H a o) h' := fun b u e => by
  have hn := x.fresh hp
  by_cases hb : b = a
  · subst hb; rw [upd_same] at e; cases e; exact new
  · rw [upd_ne hb] at e
    exact (x b u e).stay (fun c v _ q => k c v q) (fun c q => by rw [upd_ne (ne_of_none q hn)]; exact q) fun c xs q => by rw [upd_ne (ne_of_none q hn)]; exact q
end

/-- what may be read as u: it is u, or a known u -/
def Rd (H : Hp) (a : Addr) (u : HO) : Prop := H a = some u ∨ ∃ o, H a = some (.frz o u)
theorem Rd.of {H : Hp} {a : Addr} {u : HO} (h : H a = some u) : Rd H a u := .inl h
theorem Rd.ok {P : Program} {w : World} {H : Hp} {h : Heap} {a : Addr} {u : HO} (r : Rd H a u) (x : HOk P w H h) : ObjOk P w H h a u := by
  rcases r with r | ⟨o, r⟩
  · exact x a u r
  · obtain ⟨_, q⟩ := x a _ r
    exact q
/-- what may be written -/
def Mut : Option HO → Prop
  | some (.lst _) => True
  | some (.dK _) => True
  | some (.dT _) => True
  | some (.set _ _) => True
  | some (.ins _ _ _) => True
  | some (.ext _) => True
  | _ => False
section
variable {P : Program} {w : World} {H : Hp} {h h' : Heap} {x e : Addr} {o' : HO}
/-- the object at e is changed: x itself, or the dict of the instance x -/
theorem HOk.write (ok : HOk P w H h) (mu : Mut (H x)) (he : e = x ∨ H e = some (.own x)) (k : ∀ b u, b ≠ e → h.get? b = some u → h'.get? b = some u) (heo : ∃ u, h'.get? e = some u)
    (new : ObjOk P w (upd H x o') h' x o') : HOk P w (upd H x o') h' := fun b u q => by
  have nown : ∀ c y, H c = some (.own y) → c ≠ x := fun c y r z => by subst z; rw [r] at mu; exact mu
  have ntup : ∀ c xs, H c = some (.tup xs) → c ≠ x := fun c xs r z => by subst z; rw [r] at mu; exact mu
  by_cases hb : b = x
  · subst hb; rw [upd_same] at q; cases q; exact new
  · rw [upd_ne hb] at q
    by_cases hbe : b = e
    · have q' : H b = some (.own x) := by
        rcases he with z | z
        · exact absurd (hbe.trans z) hb
        · rw [hbe]; exact z
      rw [q] at q'; cases q'
      obtain ⟨v, hv⟩ := heo
      exact ⟨v, by rw [hbe]; exact hv⟩
    · refine (ok b u q).stay (fun c v hc r => k c v ?_ r) (fun c r => by rw [upd_ne (nown c b r)]; exact r) fun c xs r => by rw [upd_ne (ntup c xs r)]; exact r
      rcases hc with rfl | hc
      · exact hbe
      · rintro rfl
        rcases he with z | z
        · exact nown c b hc z
        · rw [hc] at z; cases z; exact hb rfl
end

/-! ### kept unless tracked; of the frames at fs (the callers') the slots may change (an exception that passes writes there); of the records at ex (iterators) nothing is said -/
structure Un (fs ex : List Addr) (H H' : Hp) (h h' : Heap) : Prop where
  keep : ∀ b o, h.get? b = some o → H b = none → b ∉ fs → b ∉ ex → h'.get? b = some o
  slot : ∀ b o, h.get? b = some o → H b = none → b ∈ fs → b ∉ ex → ∃ sl, h'.get? b = some { o with slots := sl }
  free : ∀ b o, h.get? b = some o → H b = none → b ∉ ex → H' b = none
  there : ∀ b o, h.get? b = some o → b ∉ ex → ∃ o', h'.get? b = some o'
  tups : ∀ b xs, H b = some (.tup xs) → H' b = some (.tup xs)
  frzs : ∀ b o u, H b = some (.frz o u) → H' b = some (.frz o u)
  tbls : ∀ b ps, H b = some (.tbl ps) → ∃ more, H' b = some (.tbl (ps ++ more))
section
variable {fs fs' ex ex' : List Addr} {H H1 H2 : Hp} {h h1 h2 h' : Heap} {a x e : Addr} {o : HO}
theorem Un.any (u : Un fs ex H H1 h h1) {b : Addr} {ob : Obj} (q : h.get? b = some ob) (n : H b = none) (hx : b ∉ ex) : ∃ sl, h1.get? b = some { ob with slots := sl } := by
  by_cases hb : b ∈ fs
  · exact u.slot b ob q n hb hx
  · exact ⟨ob.slots, u.keep b ob q n hb hx⟩
theorem Un.trans (a : Un fs ex H H1 h h1) (b : Un fs ex H1 H2 h1 h2) : Un fs ex H H2 h h2 where
  keep := fun c ob q n hc hx => b.keep c ob (a.keep c ob q n hc hx) (a.free c ob q n hx) hc hx
  slot := fun c ob q n hc hx => by
    obtain ⟨sl, e1⟩ := a.slot c ob q n hc hx
    obtain ⟨sl', e2⟩ := b.slot c _ e1 (a.free c ob q n hx) hc hx
    exact ⟨sl', e2⟩
  free := fun c ob q n hx => by
    obtain ⟨o', e1⟩ := a.there c ob q hx
    exact b.free c o' e1 (a.free c ob q n hx) hx
  there := fun c ob q hx => by
    obtain ⟨o', e1⟩ := a.there c ob q hx
    exact b.there c o' e1 hx
  tups := fun c xs q => b.tups c xs (a.tups c xs q)
  frzs := fun c ob xs q => b.frzs c ob xs (a.frzs c ob xs q)
  tbls := fun c ps q => by
    obtain ⟨m1, e1⟩ := a.tbls c ps q
    obtain ⟨m2, e2⟩ := b.tbls c _ e1
    exact ⟨m1 ++ m2, by rw [e2, Array.append_assoc]⟩
theorem Un.kept (k : ∀ b u, h.get? b = some u → h'.get? b = some u) : Un fs ex H H h h' :=
  ⟨fun b ob q _ _ _ => k b ob q, fun b ob q _ _ _ => ⟨ob.slots, k b ob q⟩, fun _ _ _ n _ => n, fun b ob q _ => ⟨ob, k b ob q⟩, fun _ _ q => q, fun _ _ _ q => q, fun _ ps q => ⟨#[], by rw [q]; simp⟩⟩
theorem Un.refl : Un fs ex H H h h := Un.kept fun _ _ q => q
theorem Un.laid (k : ∀ b u, h.get? b = some u → h'.get? b = some u) (hp : h.objs.size ≤ a) (hn : H a = none) : Un fs ex H (upd H a o) h h' where
  keep := fun b u q _ _ _ => k b u q
  slot := fun b u q _ _ _ => ⟨u.slots, k b u q⟩
  free := fun b u q n _ => by rw [upd_ne (Nat.ne_of_lt (Nat.lt_of_lt_of_le (Heap.lt_size q) hp))]; exact n
  there := fun b u q _ => ⟨u, k b u q⟩
  tups := fun b xs q => by rw [upd_ne (ne_of_none q hn)]; exact q
  frzs := fun b u xs q => by rw [upd_ne (ne_of_none q hn)]; exact q
  tbls := fun b ps q => ⟨#[], by rw [upd_ne (ne_of_none q hn), q]; simp⟩
theorem Un.write (mu : Mut (H x)) (he : e = x ∨ H e = some (.own x)) (k : ∀ b u, b ≠ e → h.get? b = some u → h'.get? b = some u) (heo : ∃ u, h'.get? e = some u) : Un fs ex H (upd H x o) h h' := by
  have hx : ∀ b, H b = none → b ≠ x := fun b n z => by subst z; rw [n] at mu; exact mu
  have hb : ∀ b, H b = none → b ≠ e := fun b n z => by
    subst z
    rcases he with r | r
    · exact hx b n r
    · rw [n] at r; cases r
  have hm : ∀ b u, H b = some u → ¬ Mut (some u) → b ≠ x := fun b u q nm z => by subst z; rw [q] at mu; exact nm mu
  refine ⟨fun b u q n _ _ => k b u (hb b n) q, fun b u q n _ _ => ⟨u.slots, k b u (hb b n) q⟩, fun b u q n _ => by rw [upd_ne (hx b n)]; exact n, fun b u q _ => ?_,
    fun b xs q => by rw [upd_ne (hm b _ q fun z => z)]; exact q, fun b u xs q => by rw [upd_ne (hm b _ q fun z => z)]; exact q, fun b ps q => ⟨#[], by rw [upd_ne (hm b _ q fun z => z), q]; simp⟩⟩
  by_cases hbe : b = e
  · subst hbe; exact heo
  · exact ⟨u, k b u hbe q⟩
theorem Un.mono (u : Un fs ex H H1 h h1) (hs : ∀ b ∈ fs, b ∈ fs') (hx : ∀ b ∈ ex, b ∈ ex') : Un fs' ex' H H1 h h1 :=
  ⟨fun b ob q n hb he => u.keep b ob q n (fun z => hb (hs b z)) fun z => he (hx b z), fun _ _ q n _ he => u.any q n fun z => he (hx _ z), fun b ob q n he => u.free b ob q n fun z => he (hx b z), fun b ob q he => u.there b ob q fun z => he (hx b z), u.tups, u.frzs, u.tbls⟩
end

/-! ### the heap without what is tracked -/
def trk (h : Heap) (H : Hp) : List Addr := (List.range h.objs.size).filter fun a => (H a).isSome
def hidT (h : Heap) (H : Hp) : Heap := PySem.W.hideAll h (trk h H)
theorem hidT_size (h : Heap) (H : Hp) : (hidT h H).objs.size = h.objs.size := PySem.W.hideAll_size _ _
theorem hidT_get {h : Heap} {H : Hp} {b : Addr} {o : Obj} (e : h.get? b = some o) (n : H b = none) : (hidT h H).get? b = some o :=
  PySem.W.hideAll_get _ e fun hm => by
    have q : (H b).isSome = true := (List.mem_filter.mp hm).2
    rw [n] at q; simp at q
theorem of_hidT {h : Heap} {H : Hp} {b : Addr} {o : Obj} (e : (hidT h H).get? b = some o) : h.get? b = some o ∧ H b = none := by
  have e' : h.get? b = some o := PySem.W.of_hideAll (trk h H) e
  refine ⟨e', ?_⟩
  cases q : H b with
  | none => rfl
  | some x =>
    have hm : b ∈ trk h H := List.mem_filter.mpr ⟨List.mem_range.mpr (Heap.lt_size e'), by simp [q]⟩
    have z : (hidT h H).get? b = none := PySem.W.hideAll_none (trk h H) hm
    rw [z] at e; cases e

/-! ### OpenK's ledger, filled with every new object but one -/
def allNews (g h : Heap) (L : Addr) : List (Addr × Obj) := (List.range h.objs.size).filterMap fun a => if a = L ∨ (g.get? a).isSome = true then none else (h.get? a).map fun o => (a, o)
theorem mem_allNews {g h : Heap} {L a : Addr} {o : Obj} (h1 : a ≠ L) (h2 : g.get? a = none) (h3 : h.get? a = some o) : (a, o) ∈ allNews g h L :=
  List.mem_filterMap.mpr ⟨a, List.mem_range.mpr (Heap.lt_size h3), by simp [h1, h2, h3]⟩
theorem of_mem_allNews {g h : Heap} {L : Addr} {p : Addr × Obj} (hp : p ∈ allNews g h L) : p.1 ≠ L ∧ g.get? p.1 = none ∧ h.get? p.1 = some p.2 := by
  obtain ⟨b, _, e⟩ := List.mem_filterMap.mp hp
  split at e
  · cases e
  · rename_i hn
    cases q : h.get? b with
    | none => rw [q] at e; simp at e
    | some u =>
      rw [q] at e
      simp only [Option.map_some, Option.some.injEq] at e
      subst e
      refine ⟨fun z => hn (.inl z), ?_, q⟩
      show g.get? b = none
      cases r : g.get? b with
      | none => rfl
      | some v => exact (hn (.inr (by simp [r]))).elim
def rest (g h : Heap) (L d : Addr) : List (Addr × Obj) := (allNews g h L).filter fun p => decide (p.1 ≠ d)
theorem rest_ne {g h : Heap} {L d : Addr} : ∀ p ∈ rest g h L d, p.1 ≠ d := fun p hp => of_decide_eq_true (List.mem_filter.mp hp).2
theorem mem_rest {g h : Heap} {L d a : Addr} {o : Obj} (h1 : a ≠ L) (h2 : g.get? a = none) (h3 : h.get? a = some o) (h4 : a ≠ d) : (a, o) ∈ rest g h L d :=
  List.mem_filter.mpr ⟨mem_allNews h1 h2 h3, decide_eq_true h4⟩
theorem news_all {g h : Heap} {L : Addr} : News g L h (allNews g h L) := fun p hp => let ⟨a, b, c⟩ := of_mem_allNews hp; ⟨c, a, b⟩
theorem news_at {g h : Heap} {L d : Addr} {o : Obj} (h1 : d ≠ L) (h2 : g.get? d = none) (h3 : h.get? d = some o) : News g L h ((d, o) :: rest g h L d) := fun p hp => by
  rcases List.mem_cons.mp hp with rfl | hp
  · exact ⟨h3, h1, h2⟩
  · exact news_all p (List.mem_filter.mp hp).1
/-- behind a rule that changed d alone: all else but the frame is kept -/
theorem kept_of_news {g h h' : Heap} {L d : Addr} {m : Str → Option Value} (k : ∀ b o, g.get? b = some o → h.get? b = some o) (F : Fr g L h' m) (N : News g L h' (rest g h L d)) :
    ∀ b o, b ≠ L → b ≠ d → h.get? b = some o → h'.get? b = some o := fun b o h1 h2 e => by
  cases q : g.get? b with
  | some u =>
    have := k b u q
    rw [e] at this; cases this
    exact F.keep b _ q
  | none => exact (N (b, o) (mem_rest h1 q e h2)).1
end L2

namespace L2
open PySem PySem.Spec PyProof.Rows

/-- the module's facts, over the base: the heap at the law's entry without what is tracked there -/
structure Mod (K : PySem.W.Frag) (mg : Str → Option Value) (base : Heap) : Prop where
  kin : K.In base
  glob : base.Ns mainGlobals mg
  blt : ∃ mb, base.Ns builtinsNs mb ∧ ∀ x : Str, x ≠ "__name__" → mb x = bootBuiltins x
  nolimit : base.NoLimit

/-- the context: a def's body (or a comprehension's block) running. base: fixed through the whole law; s₀, H₀: the entry; outer: the frames whose slots others may change (a def's callers); stack: all frames that run;
   ex: iterators that were made ahead of the entry and are walked here (a comprehension's); fn: the names whose cells were made at the entry (a def: all; a comprehension's block: its own); calm: not within an except suite; pn: pins that every state bears; xe: what is wanted of an exception that leaves the code -/
structure Cx where
  prog : Program
  w : World
  K : PySem.W.Frag
  mg : Str → Option Value
  base : Heap
  A : Around
  N : List Str
  s₀ : Shared
  H₀ : Hp
  env : Env
  outer : List Env
  stack : List Env
  ex : List Addr
  fn : Str → Bool
  calm : Bool
  pn : List (Addr × Obj)
  xe : Value → Shared → Prop
/-- the callers' frames -/
def frs (l : List Env) : List Addr := l.filterMap (·.frame)
abbrev Cx.fs (X : Cx) : List Addr := frs X.outer

def Vis (sc : Scope) (x : Str) : Prop := sc.names.lookup x = some .local ∨ sc.names.lookup x = some .cell ∨ sc.names.lookup x = some .free
def Loc (sc : Scope) (x : Str) : Prop := sc.names.lookup x = some .local ∨ sc.names.lookup x = some .cell
def Look (env : Env) (h : Heap) (m : Str → Option Value) (x : Str) (u : Value) : Prop :=
  (env.kindOf x = some .local ∧ m x = some u) ∨ ((env.kindOf x = some .cell ∨ env.kindOf x = some .free) ∧ ∃ c, env.cells.lookup x = some c ∧ h.IsCell c (some u))

structure Cx.Ok (X : Cx) : Prop where
  mod : Mod X.K X.mg X.base
  kind : X.env.scope.kind = .function
  glob : X.env.globals = mainGlobals
  blt : X.env.builtins = builtinsNs
  above : X.s₀.heap.objs.size ≤ X.env.locals
  inj : ∀ x y c, X.env.cells.lookup x = some c → X.env.cells.lookup y = some c → x = y
  has : ∀ x, (X.env.kindOf x = some .cell ∨ X.env.kindOf x = some .free) → ∃ c, X.env.cells.lookup x = some c
  cab : ∀ x c, X.fn x = true → X.env.cells.lookup x = some c → X.s₀.heap.objs.size ≤ c
  hd : X.calm = true → X.A.handled = none
  frames : X.A.frames = some X.stack
  stk : X.stack = X.outer ∨ (X.stack = X.env :: X.outer ∧ X.env.frame = some X.env.locals)
  exf : ∀ b ∈ X.ex, b ≠ X.env.locals ∧ ∀ x c, X.env.cells.lookup x = some c → c ≠ b
  bs : ∀ b o, X.base.get? b = some o → X.s₀.heap.get? b = some o ∧ X.H₀ b = none
  bsz : X.base.objs.size ≤ X.s₀.heap.objs.size
  noex : ∀ b o, X.base.get? b = some o → b ∉ X.ex
  exfs : ∀ b ∈ X.ex, b ∉ X.fs
  funs : X.s₀.heap.FunFrames X.base X.outer
  frf : ∀ b ∈ X.fs, X.H₀ b = none

structure Inv (X : Cx) (pins : List (Addr × Obj)) (σ : List (Option V)) (H : Hp) (s : Shared) : Prop where
  ok : X.Ok
  os : s.os = X.s₀.os
  bare : AllBare s.gens
  base : Un X.fs X.ex X.H₀ H X.s₀.heap s.heap
  loc : ∃ m, s.heap.Ns X.env.locals m ∧ ∀ (i : Nat) (x : Str) (v : V), X.N[i]? = some x → σ[i]? = some (some v) → Vis X.env.scope x → ∃ u, RelV v u ∧ Look X.env s.heap m x u
  cell : ∀ x c, X.env.cells.lookup x = some c → ∃ v, s.heap.IsCell c v
  free : H X.env.locals = none
  freeC : ∀ x c, X.env.cells.lookup x = some c → H c = none
  pin : ∀ p ∈ X.pn ++ pins, s.heap.get? p.1 = some p.2 ∧ H p.1 = none ∧ p.1 ≠ X.env.locals ∧ p.1 ∉ X.fs ∧ ∀ v, p.2.data ≠ .cell v
  hok : HOk X.prog X.w H s.heap
  len : σ.length = X.N.length

section
variable {X : Cx} {pins : List (Addr × Obj)} {σ : List (Option V)} {H H' : Hp} {s : Shared} {h' : Heap}

theorem Cx.Ok.nofr (ok : X.Ok) {b : Addr} {o : Obj} (e : X.base.get? b = some o) : b ∉ X.fs := fun hb => by
  have := (ok.funs.mem hb).1
  rw [e] at this; cases this
theorem Inv.bs (I : Inv X pins σ H s) : ∀ b o, X.base.get? b = some o → s.heap.get? b = some o ∧ H b = none := fun b o e =>
  ⟨I.base.keep b o (I.ok.bs b o e).1 (I.ok.bs b o e).2 (I.ok.nofr e) (I.ok.noex b o e), I.base.free b o (I.ok.bs b o e).1 (I.ok.bs b o e).2 (I.ok.noex b o e)⟩
theorem Inv.bk (I : Inv X pins σ H s) : ∀ b o, X.base.get? b = some o → s.heap.get? b = some o := fun b o e => (I.bs b o e).1
theorem Inv.mod (I : Inv X pins σ H s) : Mod X.K X.mg X.base := I.ok.mod
theorem Inv.kIn (I : Inv X pins σ H s) : X.K.In s.heap := I.ok.mod.kin.keeps I.bk
theorem Inv.nolimit (I : Inv X pins σ H s) : s.heap.NoLimit := I.ok.mod.nolimit.keeps I.bk
/-- the frame over the base: for OpenK's rules (K.In X.base is I.mod.kin) -/
theorem Inv.fr (I : Inv X pins σ H s) : ∃ m, Fr X.base X.env.locals s.heap m :=
  let ⟨m, hn, _⟩ := I.loc
  ⟨m, hn, I.bk, Nat.le_trans I.ok.bsz I.ok.above⟩
theorem Inv.lt (I : Inv X pins σ H s) : X.env.locals < s.heap.objs.size := let ⟨_, hn, _⟩ := I.loc; hn.lt
theorem Inv.sz (I : Inv X pins σ H s) : X.s₀.heap.objs.size ≤ s.heap.objs.size := Nat.le_trans I.ok.above (Nat.le_of_lt I.lt)
theorem Inv.nofs (I : Inv X pins σ H s) {a : Addr} (h : s.heap.objs.size ≤ a) : a ∉ X.fs := fun hb => by
  obtain ⟨_, o, ho, _⟩ := I.ok.funs.mem hb
  exact absurd (Nat.lt_of_lt_of_le (Heap.lt_size ho) (Nat.le_trans I.sz h)) (Nat.lt_irrefl _)
theorem Inv.cne (I : Inv X pins σ H s) : ∀ x c, X.env.cells.lookup x = some c → c ≠ X.env.locals := fun x c e z => by
  obtain ⟨v, o, ho, hd⟩ := I.cell x c e
  obtain ⟨m, ⟨o', es, ep, ho', hd', _⟩, _⟩ := I.loc
  rw [z, ho'] at ho; cases ho; rw [hd'] at hd; cases hd
theorem Inv.funs (I : Inv X pins σ H s) : s.heap.FunFrames X.base X.outer := by
  have all : ∀ (l : List Env), (∀ b ∈ frs l, b ∈ X.fs) → X.s₀.heap.FunFrames X.base l → s.heap.FunFrames X.base l := by
    intro l
    induction l with
    | nil => intro _ _; trivial
    | cons env r ih =>
      intro hs hl
      obtain ⟨hk, ⟨L, o, hf, hn, ho, hd⟩, hr⟩ := hl
      have hL : L ∈ X.fs := hs L (by unfold frs; rw [List.filterMap_cons, hf]; exact List.mem_cons_self)
      obtain ⟨sl, e⟩ := I.base.slot L o ho (I.ok.frf L hL) hL fun z => I.ok.exfs L z hL
      exact ⟨hk, ⟨L, _, hf, hn, e, hd⟩, ih (fun b hb => hs b (by unfold frs; rw [List.filterMap_cons, hf]; exact List.mem_cons_of_mem _ hb)) hr⟩
  exact all X.outer (fun _ hb => hb) I.ok.funs

/-- the frames that run, for a call -/
theorem Inv.stack (I : Inv X pins σ H s) : s.heap.FunFrames X.base X.stack := by
  rcases I.ok.stk with e | ⟨e, hf⟩
  · rw [e]; exact I.funs
  · rw [e]
    obtain ⟨m, hn, _⟩ := I.loc
    refine .cons (by rw [I.ok.kind]; decide) hf hn ?_ I.funs
    exact Heap.get?_none_of_le (Nat.le_trans I.ok.bsz I.ok.above)
theorem Inv.stkSub (I : Inv X pins σ H s) : ∀ b ∈ frs X.stack, b ∈ X.env.locals :: X.fs := fun b hb => by
  rcases I.ok.stk with e | ⟨e, hf⟩
  · rw [e] at hb; exact List.mem_cons_of_mem _ hb
  · rw [e] at hb
    unfold frs at hb
    rw [List.filterMap_cons, hf] at hb
    exact hb
theorem Inv.stkFree (I : Inv X pins σ H s) : ∀ b ∈ frs X.stack, H b = none := fun b hb => by
  rcases List.mem_cons.mp (I.stkSub b hb) with e | hb
  · rw [e]; exact I.free
  · obtain ⟨_, o, ho, _⟩ := I.ok.funs.mem hb
    exact I.base.free b o ho (I.ok.frf b hb) fun z => I.ok.exfs b z hb

/-- THE STEP: the untracked objects but the frame and the records at ch are kept (the callers' frames up to slots), the frame's map is kept, the new abstract heap is held -/
theorem Inv.step {g' : Array GenState} {t' : Nat} {d' : Drawn} {ch : List Addr} (I : Inv X pins σ H s)
    (hch : ∀ b ∈ ch, (b ∈ X.ex ∨ X.s₀.heap.objs.size ≤ b) ∧ b ≠ X.env.locals ∧ (∀ x c, X.env.cells.lookup x = some c → c ≠ b) ∧ ∀ p ∈ X.pn ++ pins, p.1 ≠ b)
    (keep : ∀ b o, b ≠ X.env.locals → b ∉ X.fs → b ∉ ch → s.heap.get? b = some o → H b = none → h'.get? b = some o)
    (slot : ∀ b o, b ≠ X.env.locals → b ∈ X.fs → b ∉ ch → s.heap.get? b = some o → H b = none → ∃ sl, h'.get? b = some { o with slots := sl }) (free : ∀ b o, b ∉ ch → s.heap.get? b = some o → H b = none → H' b = none)
    (there : ∀ b o, b ∉ ch → s.heap.get? b = some o → ∃ o', h'.get? b = some o')
    (tups : ∀ b xs, H b = some (.tup xs) → H' b = some (.tup xs)) (frzs : ∀ b o u, H b = some (.frz o u) → H' b = some (.frz o u)) (tbls : ∀ b ps, H b = some (.tbl ps) → ∃ more, H' b = some (.tbl (ps ++ more)))
    (ns : ∀ m, s.heap.Ns X.env.locals m → h'.Ns X.env.locals m) (hok : HOk X.prog X.w H' h') (hg : AllBare g') :
    Inv X pins σ H' { s with heap := h', gens := g', drawn := d', toks := t' } := by
  have neL : ∀ b o, X.s₀.heap.get? b = some o → b ≠ X.env.locals := fun b o e => Nat.ne_of_lt (Nat.lt_of_lt_of_le (Heap.lt_size e) I.ok.above)
  have neC : ∀ b o, X.s₀.heap.get? b = some o → b ∉ X.ex → b ∉ ch := fun b o e hx hb => by
    rcases (hch b hb).1 with z | z
    · exact hx z
    · exact absurd (Nat.lt_of_lt_of_le (Heap.lt_size e) z) (Nat.lt_irrefl _)
  have cellK : ∀ x c, X.env.cells.lookup x = some c → ∀ v, s.heap.IsCell c v → h'.IsCell c v := fun x c e v ⟨o, ho, hd⟩ => by
    have nch : c ∉ ch := fun z => (hch c z).2.2.1 x c e rfl
    by_cases hc : c ∈ X.fs
    · obtain ⟨sl, q⟩ := slot c o (I.cne x c e) hc nch ho (I.freeC x c e)
      exact ⟨_, q, hd⟩
    · exact ⟨o, keep c o (I.cne x c e) hc nch ho (I.freeC x c e), hd⟩
  refine ⟨I.ok, I.os, hg, ⟨fun b o e n hb hx => ?_, fun b o e n hb hx => ?_, fun b o e n hx => ?_, fun b o e hx => ?_, fun b xs e => tups b xs (I.base.tups b xs e), fun b o xs e => frzs b o xs (I.base.frzs b o xs e), fun b ps e => ?_⟩, ?_, fun x c e => ?_, ?_, fun x c e => ?_, fun p hp => ?_, hok, I.len⟩
  · exact keep b o (neL b o e) hb (neC b o e hx) (I.base.keep b o e n hb hx) (I.base.free b o e n hx)
  · obtain ⟨sl, e1⟩ := I.base.slot b o e n hb hx
    obtain ⟨sl', e2⟩ := slot b _ (neL b o e) hb (neC b o e hx) e1 (I.base.free b o e n hx)
    exact ⟨sl', e2⟩
  · obtain ⟨o', e1⟩ := I.base.there b o e hx
    exact free b o' (neC b o e hx) e1 (I.base.free b o e n hx)
  · obtain ⟨o', e1⟩ := I.base.there b o e hx
    exact there b o' (neC b o e hx) e1
  · obtain ⟨m1, e1⟩ := I.base.tbls b ps e
    obtain ⟨m2, e2⟩ := tbls b _ e1
    exact ⟨m1 ++ m2, by rw [e2, Array.append_assoc]⟩
  · obtain ⟨m, hn, hl⟩ := I.loc
    refine ⟨m, ns m hn, fun i x v e1 e2 e3 => ?_⟩
    obtain ⟨u, r, l⟩ := hl i x v e1 e2 e3
    refine ⟨u, r, ?_⟩
    rcases l with l | ⟨k, c, e, z⟩
    · exact .inl l
    · exact .inr ⟨k, c, e, cellK x c e _ z⟩
  · obtain ⟨v, z⟩ := I.cell x c e
    exact ⟨v, cellK x c e v z⟩
  · obtain ⟨m, ⟨o, _, _, ho, _⟩, _⟩ := I.loc
    exact free _ o (fun z => (hch _ z).2.1 rfl) ho I.free
  · obtain ⟨v, o, ho, hd⟩ := I.cell x c e
    exact free c o (fun z => (hch c z).2.2.1 x c e rfl) ho (I.freeC x c e)
  · obtain ⟨e, n, ne, nf, d⟩ := I.pin p hp
    have nch : p.1 ∉ ch := fun z => (hch p.1 z).2.2.2 p hp rfl
    exact ⟨keep p.1 p.2 ne nf nch e n, free p.1 p.2 nch e n, ne, nf, d⟩
/-- .. where the frame's own object is kept too -/
theorem Inv.un {t' : Nat} (I : Inv X pins σ H s) (u : Un X.fs [] H H' s.heap h') (hok : HOk X.prog X.w H' h') : Inv X pins σ H' { s with heap := h', toks := t' } := by
  obtain ⟨m, ⟨o, es, ep, ho, r⟩, _⟩ := id I.loc
  obtain ⟨sl, hL⟩ := u.any ho I.free (by simp)
  exact I.step (g' := s.gens) (d' := s.drawn) (ch := []) (fun _ z => nomatch z) (fun b o _ hb _ e n => u.keep b o e n hb (by simp)) (fun b o _ hb _ e n => u.slot b o e n hb (by simp)) (fun b o _ e n => u.free b o e n (by simp)) (fun b o _ e => u.there b o e (by simp)) u.tups u.frzs u.tbls (fun m' hm => by
    obtain ⟨o', es', ep', ho', r'⟩ := hm
    rw [ho] at ho'; cases ho'
    exact ⟨_, es', ep', hL, r'⟩) hok I.bare
/-- behind a call (or a comprehension's block): the slots of this frame may have changed too, the records at ch may have turned -/
theorem Inv.call {g' : Array GenState} {t' : Nat} {d' : Drawn} {ch : List Addr} (I : Inv X pins σ H s) (u : Un (frs X.stack) ch H H' s.heap h') (hok : HOk X.prog X.w H' h') (hg : AllBare g')
    (hch : ∀ b ∈ ch, (b ∈ X.ex ∨ X.s₀.heap.objs.size ≤ b) ∧ b ≠ X.env.locals ∧ (∀ x c, X.env.cells.lookup x = some c → c ≠ b) ∧ ∀ p ∈ X.pn ++ pins, p.1 ≠ b) :
    Inv X pins σ H' { s with heap := h', gens := g', drawn := d', toks := t' } := by
  obtain ⟨m, ⟨o, es, ep, ho, r⟩, _⟩ := id I.loc
  obtain ⟨sl, hL⟩ := u.any ho I.free fun z => (hch _ z).2.1 rfl
  exact I.step (ch := ch) hch (fun b o hL hb hc e n => u.keep b o e n (fun z => (List.mem_cons.mp (I.stkSub b z)).elim hL hb) hc) (fun b o _ _ hc e n => u.any e n hc) (fun b o hc e n => u.free b o e n hc) (fun b o hc e => u.there b o e hc) u.tups u.frzs u.tbls (fun m' hm => by
    obtain ⟨o', es', ep', ho', r'⟩ := hm
    rw [ho] at ho'; cases ho'
    exact ⟨_, es', ep', hL, r'⟩) hok hg
/-- an untracked record of ours (an iterator) has turned -/
theorem Inv.turned {t' : Nat} {it : Addr} (I : Inv X pins σ H s) (k : ∀ b o, b ≠ it → s.heap.get? b = some o → h'.get? b = some o) (hn : H it = none) (hL : it ≠ X.env.locals)
    (h1 : it ∈ X.ex ∨ X.s₀.heap.objs.size ≤ it) (h2 : ∀ x c, X.env.cells.lookup x = some c → c ≠ it) (h3 : ∀ p ∈ X.pn ++ pins, p.1 ≠ it) : Inv X pins σ H { s with heap := h', toks := t' } := by
  have nit : ∀ b u, H b = some u → b ≠ it := fun b u e z => by rw [z, hn] at e; cases e
  refine I.step (g' := s.gens) (d' := s.drawn) (ch := [it]) (fun b hb => ?_) (fun b o _ _ hc e _ => k b o (fun z => hc (by simp [z])) e) (fun b o _ _ hc e _ => ⟨o.slots, k b o (fun z => hc (by simp [z])) e⟩) (fun _ _ _ _ n => n)
    (fun b o hc e => ⟨o, k b o (fun z => hc (by simp [z])) e⟩) (fun _ _ e => e) (fun _ _ _ e => e) (fun b ps e => ⟨#[], by rw [e]; simp⟩) (fun m hm => ?_) (fun b u e => ?_) I.bare
  · have e : b = it := by simpa using hb
    subst e
    exact ⟨h1, hL, h2, h3⟩
  · obtain ⟨o, es, ep, ho, r⟩ := hm
    exact ⟨o, es, ep, k _ o (Ne.symm hL) ho, r⟩
  · refine (I.hok b u e).stay (fun c v hc q => k c v ?_ q) (fun _ q => q) fun _ _ q => q
    rcases hc with z | z
    · rw [z]; exact nit b u e
    · exact nit c _ z
theorem Inv.tok (I : Inv X pins σ H s) (t : Nat) : Inv X pins σ H { s with toks := t } := I.un (h' := s.heap) (t' := t) Un.refl I.hok
/-- all objects kept -/
theorem Inv.kept {t' : Nat} (I : Inv X pins σ H s) (k : ∀ b u, s.heap.get? b = some u → h'.get? b = some u) : Inv X pins σ H { s with heap := h', toks := t' } := I.un (Un.kept k) (I.hok.kept k)
/-- a new object laid and tracked -/
theorem Inv.laid {a : Addr} {o : HO} {t' : Nat} (I : Inv X pins σ H s) (k : ∀ b u, s.heap.get? b = some u → h'.get? b = some u) (hp : s.heap.objs.size ≤ a) (new : ObjOk X.prog X.w (upd H a o) h' a o) :
    Inv X pins σ (upd H a o) { s with heap := h', toks := t' } := I.un (Un.laid k hp (I.hok.fresh hp)) (I.hok.laid k hp new)
/-- an object written -/
theorem Inv.write {x e : Addr} {o : HO} {t' : Nat} (I : Inv X pins σ H s) (mu : Mut (H x)) (he : e = x ∨ H e = some (.own x)) (k : ∀ b u, b ≠ e → s.heap.get? b = some u → h'.get? b = some u) (heo : ∃ u, h'.get? e = some u)
    (new : ObjOk X.prog X.w (upd H x o) h' x o) : Inv X pins σ (upd H x o) { s with heap := h', toks := t' } := I.un (Un.write mu he k heo) (I.hok.write mu he k heo new)
/-- forgetting slots, pins -/
theorem Inv.weak {σ' : List (Option V)} (I : Inv X pins σ H s) (hl : σ'.length = σ.length) (w : ∀ (i : Nat) v, σ'[i]? = some (some v) → σ[i]? = some (some v)) : Inv X pins σ' H s :=
  ⟨I.ok, I.os, I.bare, I.base, let ⟨m, hn, hl'⟩ := I.loc; ⟨m, hn, fun i x v e1 e2 e3 => hl' i x v e1 (w i v e2) e3⟩, I.cell, I.free, I.freeC, I.pin, I.hok, hl.trans I.len⟩
theorem Inv.pins_of {pins' : List (Addr × Obj)} (I : Inv X pins σ H s) (h : ∀ p ∈ pins', s.heap.get? p.1 = some p.2 ∧ H p.1 = none ∧ p.1 ≠ X.env.locals ∧ p.1 ∉ X.fs ∧ ∀ v, p.2.data ≠ .cell v) : Inv X pins' σ H s :=
  ⟨I.ok, I.os, I.bare, I.base, I.loc, I.cell, I.free, I.freeC, fun p hp => (List.mem_append.mp hp).elim (fun z => I.pin p (List.mem_append_left _ z)) (h p), I.hok, I.len⟩

theorem nodup_ix {N : List Str} (hN : N.Nodup) {i j : Nat} {x : Str} (a : N[i]? = some x) (b : N[j]? = some x) : i = j := by
  obtain ⟨h1, e1⟩ := List.getElem?_eq_some_iff.mp a
  obtain ⟨h2, e2⟩ := List.getElem?_eq_some_iff.mp b
  exact (List.getElem_inj hN).mp (e1.trans e2.symm)

/-- a name is stored; what changed -/
theorem store_ok2 {M : Model} {A : Around} {E : Value → Shared → Prop} {i : Nat} {x : Str} {v : V} {u : Value} {Q : Unit → Shared → Prop} (I : Inv X pins σ H s) (hN : X.N.Nodup) (hi : X.N[i]? = some x) (hx : Loc X.env.scope x) (r : RelV v u)
    (h : ∀ s', Inv X pins (σ.set i (some v)) H s' → (∃ a, Heap.SameBut a s.heap s'.heap ∧ (a = X.env.locals ∨ X.env.cells.lookup x = some a)) → Q () s') (hf : X.fn x = true ∨ X.env.scope.names.lookup x = some .local := by first | exact .inl rfl | exact .inr rfl | assumption) : wpAny M A (storeName X.env x u) Q E s := by
  obtain ⟨m, hn, hl⟩ := id I.loc
  have hcls : (X.env.scope.kind == .class || (X.env.scope.kind == .module && X.env.locals != X.env.globals)) = false := by rw [I.ok.kind]; rfl
  have hiσ : i < σ.length := by rw [I.len]; exact (List.getElem?_eq_some_iff.mp hi).1
  have cne := I.cne
  have tracked : ∀ {a : Addr} {h' : Heap}, (∃ o, s.heap.get? a = some o ∧ H a = none) → Heap.SameBut a s.heap h' → HOk X.prog X.w H h' := fun {a h'} ha hs b ob e => by
    obtain ⟨_, _, hfree⟩ := ha
    refine (I.hok b ob e).stay (fun c w' hc q => (hs.2 c ?_).trans q) (fun _ q => q) fun _ _ q => q
    rintro rfl
    rcases hc with rfl | hc
    · rw [hfree] at e; cases e
    · rw [hfree] at hc; cases hc
  rcases hx with hk | hk
  · refine wpAny_storeName_local hk hn (fun h' hn' hs => ?_) hcls
    obtain ⟨oL, _, _, hoL, _⟩ := id hn
    refine h _ ⟨I.ok, I.os, I.bare, ⟨fun b o e n hb hx => ?_, fun b o e n hb hx => ?_, I.base.free, fun b o e hx => ?_, I.base.tups, I.base.frzs, I.base.tbls⟩, ⟨_, hn', fun j y v' e1 e2 e3 => ?_⟩, fun y c e => ?_, I.free, I.freeC, fun p hp => ?_, tracked ⟨oL, hoL, I.free⟩ hs, by simpa using I.len⟩ ⟨_, hs, .inl rfl⟩
    · exact (hs.2 b (Nat.ne_of_lt (Nat.lt_of_lt_of_le (Heap.lt_size e) I.ok.above))).trans (I.base.keep b o e n hb hx)
    · obtain ⟨sl, e1⟩ := I.base.slot b o e n hb hx
      exact ⟨sl, (hs.2 b (Nat.ne_of_lt (Nat.lt_of_lt_of_le (Heap.lt_size e) I.ok.above))).trans e1⟩
    · obtain ⟨o', e1⟩ := I.base.there b o e hx
      exact ⟨o', (hs.2 b (Nat.ne_of_lt (Nat.lt_of_lt_of_le (Heap.lt_size e) I.ok.above))).trans e1⟩
    · by_cases hj : j = i
      · subst hj
        rw [hi] at e1; cases e1
        rw [List.getElem?_set_self hiσ] at e2
        cases e2
        exact ⟨u, r, .inl ⟨hk, by simp⟩⟩
      · rw [List.getElem?_set_ne (Ne.symm hj)] at e2
        obtain ⟨u', r', q⟩ := hl j y v' e1 e2 e3
        refine ⟨u', r', ?_⟩
        rcases q with ⟨k, e⟩ | ⟨k, c, e, z⟩
        · refine .inl ⟨k, ?_⟩
          have : y ≠ x := fun e => hj (nodup_ix hN e1 (e ▸ hi))
          simp [this, e]
        · exact .inr ⟨k, c, e, z.sameBut hs (cne y c e)⟩
    · obtain ⟨w', z⟩ := I.cell y c e
      exact ⟨w', z.sameBut hs (cne y c e)⟩
    · obtain ⟨e, n, ne, nf, d⟩ := I.pin p hp
      exact ⟨(hs.2 p.1 ne).trans e, n, ne, nf, d⟩
  · have hfn : X.fn x = true := by
      rcases hf with z | z
      · exact z
      · rw [z] at hk; cases hk
    obtain ⟨c, hc⟩ := I.ok.has x (.inl hk)
    obtain ⟨w', z⟩ := I.cell x c hc
    refine wpAny_storeName_cell I.ok.kind hk hc z (fun h' hc' hs => ?_)
    obtain ⟨oc, hoc, hocd⟩ := id z
    refine h { s with heap := h' } ⟨I.ok, I.os, I.bare, ⟨fun b o e n hb hx => ?_, fun b o e n hb hx => ?_, I.base.free, fun b o e hx => ?_, I.base.tups, I.base.frzs, I.base.tbls⟩, ⟨m, hn.sameBut hs (Ne.symm (cne x c hc)), fun j y v' e1 e2 e3 => ?_⟩, fun y c' e => ?_, I.free, I.freeC, fun p hp => ?_, tracked ⟨oc, hoc, I.freeC x c hc⟩ hs, by simpa using I.len⟩ ⟨c, hs, .inr hc⟩
    · exact (hs.2 b (Nat.ne_of_lt (Nat.lt_of_lt_of_le (Heap.lt_size e) (I.ok.cab x c hfn hc)))).trans (I.base.keep b o e n hb hx)
    · obtain ⟨sl, e1⟩ := I.base.slot b o e n hb hx
      exact ⟨sl, (hs.2 b (Nat.ne_of_lt (Nat.lt_of_lt_of_le (Heap.lt_size e) (I.ok.cab x c hfn hc)))).trans e1⟩
    · obtain ⟨o', e1⟩ := I.base.there b o e hx
      exact ⟨o', (hs.2 b (Nat.ne_of_lt (Nat.lt_of_lt_of_le (Heap.lt_size e) (I.ok.cab x c hfn hc)))).trans e1⟩
    · by_cases hj : j = i
      · subst hj
        rw [hi] at e1; cases e1
        rw [List.getElem?_set_self hiσ] at e2
        cases e2
        exact ⟨u, r, .inr ⟨.inl hk, c, hc, hc'⟩⟩
      · rw [List.getElem?_set_ne (Ne.symm hj)] at e2
        obtain ⟨u', r', q⟩ := hl j y v' e1 e2 e3
        refine ⟨u', r', ?_⟩
        rcases q with q | ⟨k, c', e, z'⟩
        · exact .inl q
        · refine .inr ⟨k, c', e, z'.sameBut hs ?_⟩
          rintro rfl
          exact hj (nodup_ix hN e1 (I.ok.inj _ _ _ e hc ▸ hi))
    · by_cases hcc : c' = c
      · subst hcc; exact ⟨_, hc'⟩
      · obtain ⟨w2, z2⟩ := I.cell y c' e
        exact ⟨w2, z2.sameBut hs hcc⟩
    · obtain ⟨e, n, ne, nf, d⟩ := I.pin p hp
      refine ⟨(hs.2 p.1 ?_).trans e, n, ne, nf, d⟩
      intro q
      rw [q, hoc] at e
      have q' : oc = p.2 := Option.some.inj e
      exact d w' (by rw [← q']; exact hocd)
theorem store_ok {M : Model} {A : Around} {E : Value → Shared → Prop} {i : Nat} {x : Str} {v : V} {u : Value} {Q : Unit → Shared → Prop} (I : Inv X pins σ H s) (hN : X.N.Nodup) (hi : X.N[i]? = some x) (hx : Loc X.env.scope x) (r : RelV v u)
    (h : ∀ s', Inv X pins (σ.set i (some v)) H s' → Q () s') (hf : X.fn x = true ∨ X.env.scope.names.lookup x = some .local := by first | exact .inl rfl | exact .inr rfl | assumption) : wpAny M A (storeName X.env x u) Q E s :=
  store_ok2 I hN hi hx r (fun s' I' _ => h s' I') hf
/-- behind a call or a block, the state as it is -/
theorem Inv.call' {s' : Shared} {ch : List Addr} (I : Inv X pins σ H s) (ho : s'.os = s.os) (u : Un (frs X.stack) ch H H' s.heap s'.heap) (hok : HOk X.prog X.w H' s'.heap) (hg : AllBare s'.gens)
    (hch : ∀ b ∈ ch, (b ∈ X.ex ∨ X.s₀.heap.objs.size ≤ b) ∧ b ≠ X.env.locals ∧ (∀ x c, X.env.cells.lookup x = some c → c ≠ b) ∧ ∀ p ∈ X.pn ++ pins, p.1 ≠ b) : Inv X pins σ H' s' := by
  obtain ⟨h', g', d', t', o'⟩ := s'
  have e : o' = s.os := ho
  subst e
  exact I.call (g' := g') (t' := t') (d' := d') u hok hg hch
end

/-! ### the judgements -/
/-- an exception: its class, its own dict's address (where it has one), the abstract heap behind it -/
abbrev XK := Value → Option Addr → Hp → Prop
abbrev St := List (Option V)
abbrev VK := V → Hp → Prop
/-- an expression's reading; a test's; an argument list's -/
abbrev TE := St → Hp → VK → Prop
abbrev TT := St → Hp → (Bool → Hp → Prop) → Prop
abbrev TA := St → Hp → (List V → Hp → Prop) → Prop
/-- what is wanted behind a statement -/
structure Ends where
  nx : St → Hp → Prop
  rt : VK
  bk : St → Hp → Prop := fun _ _ => False
  ct : St → Hp → Prop := fun _ _ => False
abbrev TS := Ends → St → Hp → Prop

def EP (X : Cx) (pins : List (Addr × Obj)) (σ : St) (Q : VK) (u : Value) (s' : Shared) : Prop := ∃ v H', Inv X pins σ H' s' ∧ RelV v u ∧ Q v H'
def TP (X : Cx) (pins : List (Addr × Obj)) (σ : St) (Q : Bool → Hp → Prop) (b : Bool) (s' : Shared) : Prop := ∃ H', Inv X pins σ H' s' ∧ Q b H'
def AP (X : Cx) (pins : List (Addr × Obj)) (σ : St) (Q : List V → Hp → Prop) (us : List Value) (s' : Shared) : Prop := ∃ vs H', Inv X pins σ H' s' ∧ Vals vs us ∧ Q vs H'
def SP (X : Cx) (pins : List (Addr × Obj)) (D : Ends) (f : Flow) (s' : Shared) : Prop :=
  match f with
  | .next => ∃ σ' H', Inv X pins σ' H' s' ∧ D.nx σ' H'
  | .brk => ∃ σ' H', Inv X pins σ' H' s' ∧ D.bk σ' H'
  | .cont => ∃ σ' H', Inv X pins σ' H' s' ∧ D.ct σ' H'
  | .ret u => ∃ v σ' H', Inv X pins σ' H' s' ∧ RelV v u ∧ D.rt v H'

def PE (X : Cx) (e : Expr) (t : TE) : Prop :=
  ∀ (pins : List (Addr × Obj)) (s : Shared) (σ : St) (H : Hp) (Q : VK), Inv X pins σ H s → t σ H Q → wpAny (model X.prog X.w) X.A (eval e X.env) (EP X pins σ Q) X.xe s
def PT (X : Cx) (e : Expr) (t : TT) : Prop :=
  ∀ (pins : List (Addr × Obj)) (s : Shared) (σ : St) (H : Hp) (Q : Bool → Hp → Prop), Inv X pins σ H s → t σ H Q → wpAny (model X.prog X.w) X.A (isTrue e X.env (eval e X.env)) (TP X pins σ Q) X.xe s
/-- a test whatever its 'whole' is (and, or) -/
def PW (X : Cx) (e : Expr) (t : TT) : Prop :=
  ∀ (whole : Sem Value) (pins : List (Addr × Obj)) (s : Shared) (σ : St) (H : Hp) (Q : Bool → Hp → Prop), Inv X pins σ H s → t σ H Q → wpAny (model X.prog X.w) X.A (isTrue e X.env whole) (TP X pins σ Q) X.xe s
theorem PW.pt {X : Cx} {e : Expr} {t : TT} (h : PW X e t) : PT X e t := h _
/-- an argument list (no star), from the left -/
def PA (X : Cx) (es : List Expr) (t : TA) : Prop :=
  ∀ (pos : Pos) (pins : List (Addr × Obj)) (s : Shared) (σ : St) (H : Hp) (Q : List V → Hp → Prop), Inv X pins σ H s → t σ H Q → wpAny (model X.prog X.w) X.A (spliced (backTo pos (starEach es X.env))) (AP X pins σ Q) X.xe s
def PS (X : Cx) (st : Stmt) (t : TS) : Prop :=
  ∀ (pins : List (Addr × Obj)) (s : Shared) (σ : St) (H : Hp) (D : Ends), Inv X pins σ H s → t D σ H → wpAny (model X.prog X.w) X.A (exec st X.env) (SP X pins D) X.xe s
def PSs (X : Cx) (st : List Stmt) (t : TS) : Prop :=
  ∀ (pins : List (Addr × Obj)) (s : Shared) (σ : St) (H : Hp) (D : Ends), Inv X pins σ H s → t D σ H → wpAny (model X.prog X.w) X.A (execs st X.env) (SP X pins D) X.xe s
/-- weaken the end -/
theorem thn {α : Type} {t : Sem α} {Q Q' : α → Shared → Prop} {M : Model} {A : Around} {E : Value → Shared → Prop} {s : Shared} (h : wpAny M A t Q E s) (hQ : ∀ a s, Q a s → Q' a s) : wpAny M A t Q' E s := wpAny_mono h hQ fun _ _ x => x
end L2

namespace L2
open PySem PySem.Spec PyProof.Rows
section
variable {X : Cx}

/-- two expressions in a row -/
theorem bin {a b : Expr} {ta tb : TE} (ha : PE X a ta) (hb : PE X b tb) {pins : List (Addr × Obj)} {s : Shared} {σ : St} {H : Hp} {R : V → V → Hp → Prop} (I : Inv X pins σ H s) (h : ta σ H fun x H1 => tb σ H1 fun y H2 => R x y H2)
    {α : Type} {Q : α → Shared → Prop} {f : Value → Value → Sem α}
    (hf : ∀ v u s2 x y H2, Inv X pins σ H2 s2 → RelV x v → RelV y u → R x y H2 → wpAny (model X.prog X.w) X.A (f v u) Q X.xe s2) :
    wpAny (model X.prog X.w) X.A (eval a X.env) (fun v s₁ => wpAny (model X.prog X.w) X.A (eval b X.env) (fun u s₂ => wpAny (model X.prog X.w) X.A (f v u) Q X.xe s₂) X.xe s₁) X.xe s := by
  refine thn (ha pins s σ H _ I h) fun v s1 ⟨x, H1, I1, r1, q1⟩ => ?_
  refine thn (hb pins s1 σ H1 _ I1 q1) fun u s2 ⟨y, H2, I2, r2, q2⟩ => ?_
  exact hf v u s2 x y H2 I2 r1 r2 q2

/-! ### names and constants -/
def tVar (i : Nat) : TE := fun σ H Q => ∃ v, σ[i]? = some (some v) ∧ Q v H
def tC (v : V) : TE := fun _ H Q => Q v H
theorem pe_var {i : Nat} {x : Str} {pos : Pos} (hN : X.N[i]? = some x) (hv : Vis X.env.scope x) (hd : (x == ("__debug__" : Str)) = false := by decide) (hcd : (x == ("__classdict__" : Str)) = false := by decide) : PE X (.Name x pos) (tVar i) := by
  intro pins s σ H Q I h
  obtain ⟨v, e, h⟩ := h
  obtain ⟨m, hn, hl⟩ := I.loc
  obtain ⟨u, r, l⟩ := hl i x v hN e hv
  have fin : EP X pins σ Q u s := ⟨v, H, I, r, h⟩
  rcases l with ⟨hk, hm⟩ | ⟨hk, c, hc, hcell⟩
  · exact wpAny_Name (wpAny_loadName_local I.ok.kind hk hn hm fin) hd
  · rcases hk with hk | hk
    · exact wpAny_Name (wpAny_loadName_cell I.ok.kind hk hc hcell fin) hd
    · exact wpAny_Name (wpAny_loadName_free I.ok.kind hk hc hcell fin hcd) hd
theorem pe_int {i j pos} : PE X (.Constant (.int i) j pos) (tC (.int i)) := fun _ _ _ H _ I h => wpAny_Constant_int ⟨.int i, H, I.tok _, ⟨_, rfl⟩, h⟩
theorem pe_bl {b j pos} : PE X (.Constant (.bool b) j pos) (tC (.bl b)) := fun _ _ _ H _ I h => Constant_bool ⟨.bl b, H, I, rfl, h⟩
theorem pe_non {j pos} : PE X (.Constant .none j pos) (tC .non) := fun _ _ _ H _ I h => Constant_none ⟨.non, H, I, rfl, h⟩
theorem pe_str {x j pos} : PE X (.Constant (.str x) j pos) (tC (.str x)) := fun _ _ _ H _ I h => Calls.Constant_str ⟨.str x, H, I.tok _, ⟨_, rfl⟩, h⟩

/-- a global name of the def -/
def Gl (X : Cx) (x : Str) : Prop := X.env.kindOf x = some .globalImplicit
theorem ld_glob {E : Value → Shared → Prop} {pins : List (Addr × Obj)} {s : Shared} {σ : St} {H : Hp} {x : Str} {u : Value} {pos : Pos} {Q : Value → Shared → Prop} (I : Inv X pins σ H s) (hg : Gl X x) (hm : X.mg x = some u) (h : Q u s)
    (hd : (x == ("__debug__" : Str)) = false := by decide) : wpAny (model X.prog X.w) X.A (eval (.Name x pos) X.env) Q E s :=
  Calls.Name_function_global I.ok.kind hg (Calls.loadGlobal_global (by rw [I.ok.glob]; exact I.mod.glob.keeps I.bk) hm h) hd
theorem ld_blt {E : Value → Shared → Prop} {pins : List (Addr × Obj)} {s : Shared} {σ : St} {H : Hp} {x : Str} {u : Value} {pos : Pos} {Q : Value → Shared → Prop} (I : Inv X pins σ H s) (hg : Gl X x) (hm : X.mg x = none) (hv : bootBuiltins x = some u) (h : Q u s)
    (hn : x ≠ "__name__" := by decide) (hd : (x == ("__debug__" : Str)) = false := by decide) : wpAny (model X.prog X.w) X.A (eval (.Name x pos) X.env) Q E s := by
  obtain ⟨mb, h1, h2⟩ := I.mod.blt
  exact Calls.Name_function_global I.ok.kind hg (Calls.loadGlobal_builtin (by rw [I.ok.glob]; exact I.mod.glob.keeps I.bk) hm (by rw [I.ok.blt]; exact h1.keeps I.bk) ((h2 x hn).trans hv) h) hd
/-- a module's constant, a class, a function, as a value -/
theorem pe_glob {x : Str} {v : V} {u : Value} {pos : Pos} (hg : Gl X x) (hm : X.mg x = some u) (r : RelV v u) (hd : (x == ("__debug__" : Str)) = false := by decide) : PE X (.Name x pos) (tC v) :=
  fun _ _ _ H _ I h => ld_glob I hg hm ⟨v, H, I, r, h⟩ hd
theorem pe_bltn {x : Str} {v : V} {u : Value} {pos : Pos} (hg : Gl X x) (hm : X.mg x = none) (hv : bootBuiltins x = some u) (r : RelV v u) (hn : x ≠ "__name__" := by decide) (hd : (x == ("__debug__" : Str)) = false := by decide) : PE X (.Name x pos) (tC v) :=
  fun _ _ _ H _ I h => ld_blt I hg hm hv ⟨v, H, I, r, h⟩ hn hd

/-! ### arithmetic -/
/-- two ints -/
def t2I (ta tb : TE) (k : Int → Int → Hp → Prop) : St → Hp → Prop := fun σ H => ta σ H fun x H1 => tb σ H1 fun y H2 => ∃ i j, x = .int i ∧ y = .int j ∧ k i j H2
def tAdd (ta tb : TE) : TE := fun σ H Q => t2I ta tb (fun i j H2 => Q (.int (i + j)) H2) σ H
def tSub (ta tb : TE) : TE := fun σ H Q => t2I ta tb (fun i j H2 => Q (.int (i - j)) H2) σ H
/-- the left factor below 2^64 -/
def tMul (ta tb : TE) : TE := fun σ H Q => t2I ta tb (fun i j H2 => (-(2 ^ 64) < i ∧ i < 2 ^ 64) ∧ Q (.int (i * j)) H2) σ H
variable {a b : Expr} {ta tb : TE} {pos : Pos}
theorem pe_add (ha : PE X a ta) (hb : PE X b tb) : PE X (.BinOp a .Add b pos) (tAdd ta tb) := by
  intro pins s σ H Q I h
  refine wpAny_BinOp (bin ha hb I h fun v u s2 x y H2 I2 rx ry q => ?_)
  obtain ⟨i, j, rfl, rfl, q⟩ := q
  obtain ⟨t, rfl⟩ := rx
  obtain ⟨t', rfl⟩ := ry
  exact add_int ⟨.int _, H2, I2.tok _, ⟨_, rfl⟩, q⟩
theorem pe_sub (ha : PE X a ta) (hb : PE X b tb) : PE X (.BinOp a .Sub b pos) (tSub ta tb) := by
  intro pins s σ H Q I h
  refine wpAny_BinOp (bin ha hb I h fun v u s2 x y H2 I2 rx ry q => ?_)
  obtain ⟨i, j, rfl, rfl, q⟩ := q
  obtain ⟨t, rfl⟩ := rx
  obtain ⟨t', rfl⟩ := ry
  exact sub_int ⟨.int _, H2, I2.tok _, ⟨_, rfl⟩, q⟩
theorem pe_mul (ha : PE X a ta) (hb : PE X b tb) : PE X (.BinOp a .Mult b pos) (tMul ta tb) := by
  intro pins s σ H Q I h
  refine wpAny_BinOp (bin ha hb I h fun v u s2 x y H2 I2 rx ry q => ?_)
  obtain ⟨i, j, rfl, rfl, ⟨q1, q2⟩, q⟩ := q
  obtain ⟨t, rfl⟩ := rx
  obtain ⟨t', rfl⟩ := ry
  exact mul_int ⟨.int _, H2, I2.tok _, ⟨_, rfl⟩, q⟩ (.of_left (intBits_le_64 q1 q2))

/-! ### comparisons -/
def PC (X : Cx) (op : CmpOp) (a b : Expr) (t : TE) : Prop :=
  ∀ (pins : List (Addr × Obj)) (s : Shared) (σ : St) (H : Hp) (Q : VK), Inv X pins σ H s → t σ H Q →
    wpAny (model X.prog X.w) X.A (eval a X.env) (fun v s₁ => wpAny (model X.prog X.w) X.A (eval b X.env) (fun u s₂ => wpAny (model X.prog X.w) X.A (compareOp op v u) (EP X pins σ Q) X.xe s₂) X.xe s₁) X.xe s
theorem nobehind (b : Expr) {op : CmpOp} (h : op ≠ .In) (h2 : op ≠ .NotIn) : behindInMarks op b = false := by
  have e1 : (op == CmpOp.In) = false := by cases op <;> first | rfl | exact absurd rfl h
  have e2 : (op == CmpOp.NotIn) = false := by cases op <;> first | rfl | exact absurd rfl h2
  cases b <;> simp [behindInMarks, e1, e2]
def tCmp (p : Int → Int → Bool) (ta tb : TE) : TE := fun σ H Q => t2I ta tb (fun i j H2 => Q (.bl (p i j)) H2) σ H
abbrev tLt : TE → TE → TE := tCmp fun i j => decide (i < j)
abbrev tLe : TE → TE → TE := tCmp fun i j => decide (i ≤ j)
abbrev tGt : TE → TE → TE := tCmp fun i j => decide (j < i)
abbrev tGe : TE → TE → TE := tCmp fun i j => decide (j ≤ i)
abbrev tEqI : TE → TE → TE := tCmp fun i j => decide (i = j)
abbrev tNeI : TE → TE → TE := tCmp fun i j => !decide (i = j)
/-- a comparison of two ints, by its rule -/
theorem pc_int {op : CmpOp} {p : Int → Int → Bool} (ha : PE X a ta) (hb : PE X b tb)
    (rule : ∀ (i j : Int) (t u : Tok) (Q : Value → Shared → Prop) (s : Shared), Q (.bool (p i j)) s → wpAny (model X.prog X.w) X.A (compareOp op (.int i t) (.int j u)) Q X.xe s) : PC X op a b (tCmp p ta tb) := by
  intro pins s σ H Q I h
  refine bin ha hb I h fun v u s2 x y H2 I2 rx ry q => ?_
  obtain ⟨i, j, rfl, rfl, q⟩ := q
  obtain ⟨t, rfl⟩ := rx
  obtain ⟨t', rfl⟩ := ry
  exact rule i j t t' _ s2 ⟨.bl _, H2, I2, rfl, q⟩
theorem pc_lt (ha : PE X a ta) (hb : PE X b tb) : PC X .Lt a b (tLt ta tb) := pc_int ha hb fun _ _ _ _ _ _ h => lt_int h
theorem pc_le (ha : PE X a ta) (hb : PE X b tb) : PC X .LtE a b (tLe ta tb) := pc_int ha hb fun _ _ _ _ _ _ h => le_int h
theorem pc_gt (ha : PE X a ta) (hb : PE X b tb) : PC X .Gt a b (tGt ta tb) := pc_int ha hb fun _ _ _ _ _ _ h => gt_int h
theorem pc_ge (ha : PE X a ta) (hb : PE X b tb) : PC X .GtE a b (tGe ta tb) := pc_int ha hb fun _ _ _ _ _ _ h => ge_int h
theorem pc_eqI (ha : PE X a ta) (hb : PE X b tb) : PC X .Eq a b (tEqI ta tb) := pc_int ha hb fun _ _ _ _ _ _ h => eq_int (by rw [Bool.beq_eq_decide_eq]; exact h)
theorem pc_neI (ha : PE X a ta) (hb : PE X b tb) : PC X .NotEq a b (tNeI ta tb) := pc_int ha hb fun _ _ _ _ _ _ h => ne_int (by rw [bne, Bool.beq_eq_decide_eq]; exact h)
/-- is None -/
def tIsN (ta : TE) : TE := fun σ H Q => ta σ H fun x H1 => Q (.bl (decide (x = .non))) H1
def tNotN (ta : TE) : TE := fun σ H Q => ta σ H fun x H1 => Q (.bl (!decide (x = .non))) H1
theorem RelV.none_iff {x : V} {v : Value} (r : RelV x v) : (v == Value.none) = decide (x = .non) := by
  cases x with
  | non => cases r; rfl
  | bl _ => cases r; rfl
  | int _ => obtain ⟨t, rfl⟩ := r; rfl
  | str _ => obtain ⟨t, rfl⟩ := r; rfl
  | byt _ => obtain ⟨t, rfl⟩ := r; rfl
  | flt _ => obtain ⟨t, rfl⟩ := r; rfl
  | ref _ => cases r; rfl
  | ty _ => cases r; rfl
theorem pc_isN {j pos'} (ha : PE X a ta) : PC X .Is a (.Constant .none j pos') (tIsN ta) := by
  intro pins s σ H Q I h
  refine thn (ha pins s σ H _ I h) fun v s1 ⟨x, H1, I1, r1, q1⟩ => ?_
  exact Constant_none (is_none_gen ⟨.bl _, H1, I1, by rw [r1.none_iff]; rfl, q1⟩)
theorem pc_notN {j pos'} (ha : PE X a ta) : PC X .IsNot a (.Constant .none j pos') (tNotN ta) := by
  intro pins s σ H Q I h
  refine thn (ha pins s σ H _ I h) fun v s1 ⟨x, H1, I1, r1, q1⟩ => ?_
  exact Constant_none (isnot_none_gen ⟨.bl _, H1, I1, by rw [r1.none_iff]; rfl, q1⟩)
/-- a comparison as a value, as a test -/
def tB (t : TE) : TT := fun σ H Q => t σ H fun x H1 => ∃ c, x = .bl c ∧ Q c H1
theorem pe_cmp {op : CmpOp} {t : TE} (h : PC X op a b t) (h1 : behindInMarks op b = false := by first | exact nobehind _ (by decide) (by decide) | rfl) : PE X (.Compare a [op] [b] pos) t := fun pins s σ H Q I hw => wpAny_Compare1 (h pins s σ H Q I hw) h1
theorem pt_cmp {op : CmpOp} {t : TE} (h : PC X op a b t) (h1 : behindInMarks op b = false := by first | exact nobehind _ (by decide) (by decide) | rfl) : PT X (.Compare a [op] [b] pos) (tB t) := by
  intro pins s σ H Q I hw
  refine wpAny_isTrue_Compare1 (thn (h pins s σ H _ I hw) fun v s1 h1 => thn h1 fun u s2 h2 => thn h2 fun c s3 ⟨x, H1, I1, r1, q1⟩ => ?_) h1
  obtain ⟨d, rfl, q⟩ := q1
  cases r1
  exact wpAny_truthy_bool ⟨H1, I1, q⟩
/-- an expression whose value is a bool, as a test -/
theorem pt_val {e : Expr} {t : TE} (h : PE X e t) (he : ∀ whole, isTrue e X.env whole = (do let v ← whole; standAt e.pos; holding [v] (truthy v)) := by intro _; rfl) : PT X e (tB t) := by
  intro pins s σ H Q I hw
  refine isTrue_plain (thn (h pins s σ H _ I hw) fun v s1 ⟨x, H1, I1, r1, q1⟩ => ?_) (he _)
  obtain ⟨d, rfl, q⟩ := q1
  cases r1
  exact wpAny_truthy_bool ⟨H1, I1, q⟩

/-! ### and, or, not -/
variable {tA tB' : TT} {rest : List Expr}
def tAnd (t u : TT) : TT := fun σ H Q => t σ H fun c H1 => if c = true then u σ H1 Q else Q false H1
def tOr (t u : TT) : TT := fun σ H Q => t σ H fun c H1 => if c = true then Q true H1 else u σ H1 Q
def tNot (t : TT) : TT := fun σ H Q => t σ H fun c H1 => Q (!c) H1
theorem pw_and1 (ha : PT X a tA) : PW X (.BoolOp .And [a] pos) tA := by
  intro wh pins s σ H Q I h
  refine isTrue_and (thn (ha pins s σ H Q I h) fun c s1 e => ?_)
  cases c with
  | true => exact isTrue_and_nil e
  | false => exact e
theorem pw_or1 (ha : PT X a tA) : PW X (.BoolOp .Or [a] pos) tA := by
  intro wh pins s σ H Q I h
  refine isTrue_or (thn (ha pins s σ H Q I h) fun c s1 e => ?_)
  cases c with
  | false => exact isTrue_or_nil e
  | true => exact e
theorem pw_and (ha : PT X a tA) (hb : PW X (.BoolOp .And (b :: rest) pos) tB') : PW X (.BoolOp .And (a :: b :: rest) pos) (tAnd tA tB') := by
  intro wh pins s σ H Q I h
  refine isTrue_and (thn (ha pins s σ H _ I h) fun c s1 ⟨H1, I1, q1⟩ => ?_)
  cases c with
  | true => exact hb wh pins s1 σ H1 Q I1 q1
  | false => exact ⟨H1, I1, q1⟩
theorem pw_or (ha : PT X a tA) (hb : PW X (.BoolOp .Or (b :: rest) pos) tB') : PW X (.BoolOp .Or (a :: b :: rest) pos) (tOr tA tB') := by
  intro wh pins s σ H Q I h
  refine isTrue_or (thn (ha pins s σ H _ I h) fun c s1 ⟨H1, I1, q1⟩ => ?_)
  cases c with
  | true => exact ⟨H1, I1, q1⟩
  | false => exact hb wh pins s1 σ H1 Q I1 q1
theorem pt_not (ha : PT X a tA) : PT X (.UnaryOp .Not a pos) (tNot tA) := by
  intro pins s σ H Q I h
  exact isTrue_not (ha pins s σ H (fun c H1 => Q (!c) H1) I h)
/-- .. as values (bools) -/
def tAndV (ta tb : TE) : TE := fun σ H Q => ta σ H fun x H1 => ∃ c, x = .bl c ∧ if c = true then tb σ H1 Q else Q (.bl false) H1
def tOrV (ta tb : TE) : TE := fun σ H Q => ta σ H fun x H1 => ∃ c, x = .bl c ∧ if c = true then Q (.bl true) H1 else tb σ H1 Q
def tNotV (ta : TE) : TE := fun σ H Q => ta σ H fun x H1 => ∃ c, x = .bl c ∧ Q (.bl (!c)) H1
theorem pe_one {op} {t : TE} (h : PE X a t) : PE X (.BoolOp op [a] pos) t := fun pins s σ H Q I hw => BoolOp_one (h pins s σ H Q I hw)
theorem pe_and (ha : PE X a ta) (hb : PE X (.BoolOp .And (b :: rest) pos) tb) : PE X (.BoolOp .And (a :: b :: rest) pos) (tAndV ta tb) := by
  intro pins s σ H Q I h
  refine BoolOp_and (thn (ha pins s σ H _ I h) fun v s1 ⟨x, H1, I1, r1, q1⟩ => ?_)
  obtain ⟨c, rfl, q1⟩ := q1
  cases r1
  refine wpAny_truthy_bool ?_
  cases c with
  | true => exact hb pins s1 σ H1 Q I1 q1
  | false => exact ⟨.bl false, H1, I1, rfl, q1⟩
theorem pe_or (ha : PE X a ta) (hb : PE X (.BoolOp .Or (b :: rest) pos) tb) : PE X (.BoolOp .Or (a :: b :: rest) pos) (tOrV ta tb) := by
  intro pins s σ H Q I h
  refine BoolOp_or (thn (ha pins s σ H _ I h) fun v s1 ⟨x, H1, I1, r1, q1⟩ => ?_)
  obtain ⟨c, rfl, q1⟩ := q1
  cases r1
  refine wpAny_truthy_bool ?_
  cases c with
  | false => exact hb pins s1 σ H1 Q I1 q1
  | true => exact ⟨.bl true, H1, I1, rfl, q1⟩
theorem pe_not (ha : PE X a ta) : PE X (.UnaryOp .Not a pos) (tNotV ta) := by
  intro pins s σ H Q I h
  refine UnaryOp_ (thn (ha pins s σ H _ I h) fun v s1 ⟨x, H1, I1, r1, q1⟩ => ?_)
  obtain ⟨c, rfl, q1⟩ := q1
  cases r1
  exact not_of (wpAny_truthy_bool ⟨.bl (!c), H1, I1, rfl, q1⟩)
/-- a if t else b -/
def tIf (t : TT) (ta tb : TE) : TE := fun σ H Q => t σ H fun c H1 => if c = true then ta σ H1 Q else tb σ H1 Q
theorem pe_ifExp {c : Expr} (hc : PT X c tA) (ha : PE X a ta) (hb : PE X b tb) : PE X (.IfExp c a b pos) (tIf tA ta tb) := by
  intro pins s σ H Q I h
  refine wpAny_IfExp (thn (hc pins s σ H _ I h) fun d s1 ⟨H1, I1, q1⟩ => ?_)
  cases d with
  | true => exact ha pins s1 σ H1 Q I1 q1
  | false => exact hb pins s1 σ H1 Q I1 q1
end
end L2

namespace L2
open PySem PySem.Spec PyProof.Rows

/-! ### a list, a tuple that is read: tracked, frozen, or an object of the module -/
def SqL (K : PySem.W.Frag) (H : Hp) (a : Addr) (xs : List V) : Prop :=
  Rd H a (.lst xs) ∨
    ∃ (o : Obj) (its : Array Value) (n : Nat), K.lookup a = some o ∧ o.cls = .type "list" ∧ o.dict = none ∧ o.data = .seq its n ∧ its.size ≤ sizeLine ∧ Vals xs its.toList
def SqT (K : PySem.W.Frag) (H : Hp) (a : Addr) (xs : List V) : Prop :=
  Rd H a (.tup xs) ∨
    ∃ (o : Obj) (its : Array Value) (n : Nat), K.lookup a = some o ∧ o.cls = .type "tuple" ∧ o.data = .seq its n ∧ its.size ≤ sizeLine ∧ Vals xs its.toList
def absV : Value → Option V
  | .none => some .non
  | .bool b => some (.bl b)
  | .int i _ => some (.int i)
  | .str x _ => some (.str x)
  | .bytes b _ => some (.byt b)
  | .float b _ => some (.flt b)
  | .ref a => some (.ref a)
  | .type n => some (.ty n)
  | _ => none
theorem RelV.abs {x : V} {u : Value} (r : RelV x u) : absV u = some x := by
  cases x with
  | non => cases r; rfl
  | bl _ => cases r; rfl
  | int _ => obtain ⟨t, rfl⟩ := r; rfl
  | str _ => obtain ⟨t, rfl⟩ := r; rfl
  | byt _ => obtain ⟨t, rfl⟩ := r; rfl
  | flt _ => obtain ⟨t, rfl⟩ := r; rfl
  | ref _ => cases r; rfl
  | ty _ => cases r; rfl
theorem RelV.inj {x y : V} {u : Value} (r : RelV x u) (q : RelV y u) : x = y := Option.some.inj (r.abs.symm.trans q.abs)
theorem Vals.inj : ∀ {xs ys : List V} {us : List Value}, Vals xs us → Vals ys us → xs = ys
  | _, _, _, .nil, .nil => rfl
  | _, _, _, .cons r t, .cons r' t' => by rw [r.inj r', Vals.inj t t']
section
variable {X : Cx} {pins : List (Addr × Obj)} {σ : St} {H : Hp} {s : Shared} {a : Addr} {xs ys : List V}
theorem SqL.of {K : PySem.W.Frag} (h : H a = some (.lst xs)) : SqL K H a xs := .inl (.inl h)
theorem SqT.of {K : PySem.W.Frag} (h : H a = some (.tup xs)) : SqT K H a xs := .inl (.inl h)
theorem Inv.list (I : Inv X pins σ H s) (h : SqL X.K H a xs) : ∃ its : List Value, Vals xs its ∧ PlainL s.heap a its.toArray ∧ xs.length ≤ sizeLine := by
  rcases h with h | ⟨o, its, n, hk, hc, hd, hs, hz, r⟩
  · obtain ⟨z, its, n, r, e⟩ := h.ok I.hok
    exact ⟨its, r, ⟨_, n, e, rfl, rfl, rfl⟩, z⟩
  · refine ⟨its.toList, r, ⟨o, n, I.kIn a o hk, hc, hd, by simpa using hs⟩, ?_⟩
    have e := r.length
    simp only [Array.length_toList] at e
    omega
theorem Inv.tuple (I : Inv X pins σ H s) (h : SqT X.K H a xs) : ∃ its : List Value, Vals xs its ∧ IsTup s.heap a its.toArray ∧ xs.length ≤ sizeLine := by
  rcases h with h | ⟨o, its, n, hk, hc, hs, hz, r⟩
  · obtain ⟨z, its, r, p⟩ := h.ok I.hok
    exact ⟨its, r, p, z⟩
  · refine ⟨its.toList, r, ⟨o, I.kIn a o hk, hc, n, by simpa using hs⟩, ?_⟩
    have e := r.length
    simp only [Array.length_toList] at e
    omega
theorem Inv.list_inj (I : Inv X pins σ H s) (h : SqL X.K H a xs) (h' : SqL X.K H a ys) : xs = ys := by
  obtain ⟨its, r, ⟨o, n, e, _, _, d⟩, _⟩ := I.list h
  obtain ⟨its', r', ⟨o', n', e', _, _, d'⟩, _⟩ := I.list h'
  rw [e] at e'; cases e'
  rw [d] at d'
  injection d' with d1 _
  have : its = its' := by simpa using congrArg Array.toList d1
  subst this
  exact r.inj r'
theorem Inv.tuple_inj (I : Inv X pins σ H s) (h : SqT X.K H a xs) (h' : SqT X.K H a ys) : xs = ys := by
  obtain ⟨its, r, ⟨o, e, _, n, d⟩, _⟩ := I.tuple h
  obtain ⟨its', r', ⟨o', e', _, n', d'⟩, _⟩ := I.tuple h'
  rw [e] at e'; cases e'
  rw [d] at d'
  injection d' with d1 _
  have : its = its' := by simpa using congrArg Array.toList d1
  subst this
  exact r.inj r'
end

/-! ### another wish about exceptions -/
abbrev Cx.wish (X : Cx) (E : Value → Shared → Prop) : Cx := { X with xe := E }
/-- no exception leaves -/
abbrev Cx.nox (X : Cx) : Cx := X.wish fun _ _ => False
theorem Cx.Ok.wish {X : Cx} (ok : X.Ok) (E : Value → Shared → Prop) : (X.wish E).Ok :=
  ⟨ok.mod, ok.kind, ok.glob, ok.blt, ok.above, ok.inj, ok.has, ok.cab, ok.hd, ok.frames, ok.stk, ok.exf, ok.bs, ok.bsz, ok.noex, ok.exfs, ok.funs, ok.frf⟩
theorem Cx.Ok.unwish {X : Cx} {E : Value → Shared → Prop} (ok : (X.wish E).Ok) : X.Ok :=
  ⟨ok.mod, ok.kind, ok.glob, ok.blt, ok.above, ok.inj, ok.has, ok.cab, ok.hd, ok.frames, ok.stk, ok.exf, ok.bs, ok.bsz, ok.noex, ok.exfs, ok.funs, ok.frf⟩
section
variable {X : Cx} {pins : List (Addr × Obj)} {σ : St} {H : Hp} {s : Shared} {E : Value → Shared → Prop}
theorem Inv.wish (I : Inv X pins σ H s) (E : Value → Shared → Prop) : Inv (X.wish E) pins σ H s := ⟨I.ok.wish E, I.os, I.bare, I.base, I.loc, I.cell, I.free, I.freeC, I.pin, I.hok, I.len⟩
theorem Inv.unwish (I : Inv (X.wish E) pins σ H s) : Inv X pins σ H s := ⟨I.ok.unwish, I.os, I.bare, I.base, I.loc, I.cell, I.free, I.freeC, I.pin, I.hok, I.len⟩
theorem SP.unwish {D : Ends} {f : Flow} {s' : Shared} (h : SP (X.wish E) pins D f s') : SP X pins D f s' := by
  cases f with
  | next => obtain ⟨σ', H', I, q⟩ := h; exact ⟨σ', H', I.unwish, q⟩
  | brk => obtain ⟨σ', H', I, q⟩ := h; exact ⟨σ', H', I.unwish, q⟩
  | cont => obtain ⟨σ', H', I, q⟩ := h; exact ⟨σ', H', I.unwish, q⟩
  | ret u => obtain ⟨v, σ', H', I, r, q⟩ := h; exact ⟨v, σ', H', I.unwish, r, q⟩
theorem PE.nox {e : Expr} {t : TE} (h : PE X.nox e t) : PE X e t := fun pins s σ H Q I hw =>
  wpAny_mono (h pins s σ H Q (I.wish _) hw) (fun _ _ ⟨v, H', I', r, q⟩ => ⟨v, H', I'.unwish, r, q⟩) fun _ _ z => False.elim z
theorem PT.nox {e : Expr} {t : TT} (h : PT X.nox e t) : PT X e t := fun pins s σ H Q I hw =>
  wpAny_mono (h pins s σ H Q (I.wish _) hw) (fun _ _ ⟨H', I', q⟩ => ⟨H', I'.unwish, q⟩) fun _ _ z => False.elim z
theorem PSs.nox {st : List Stmt} {t : TS} (h : PSs X.nox st t) : PSs X st t := fun pins s σ H D I hw =>
  wpAny_mono (h pins s σ H D (I.wish _) hw) (fun _ _ q => q.unwish) fun _ _ z => False.elim z
end

/-! ### blocks and small statements -/
section
variable {X : Cx} {st : Stmt} {rest : List Stmt} {t u : TS} {e : Expr} {te : TE} {pos : Pos}
def tNext : TS := fun D σ H => D.nx σ H
def tSeq (t u : TS) : TS := fun D σ H => t { D with nx := u D } σ H
theorem pss_nil : PSs X [] tNext := fun _ _ σ H _ I h => wpAny_execs_nil ⟨σ, H, I, h⟩
theorem pss_cons (h1 : PS X st t) (h2 : PSs X rest u) : PSs X (st :: rest) (tSeq t u) := by
  intro pins s σ H D I h
  refine wpAny_execs_cons (thn (h1 pins s σ H { D with nx := u D } I h) fun f s1 q => ?_)
  cases f with
  | next =>
    obtain ⟨σ', H', I', q⟩ := q
    exact h2 pins s1 σ' H' D I' q
  | ret v => exact q
  | brk => exact q
  | cont => exact q
theorem pss_one (h1 : PS X st t) : PSs X [st] t := by
  intro pins s σ H D I h
  refine wpAny_execs_cons (thn (h1 pins s σ H D I h) fun f s1 q => ?_)
  cases f with
  | next => exact wpAny_execs_nil q
  | ret v => exact q
  | brk => exact q
  | cont => exact q
def tBreak : TS := fun D σ H => D.bk σ H
def tCont : TS := fun D σ H => D.ct σ H
theorem ps_pass : PS X (.Pass pos) tNext := fun _ _ σ H _ I h => wpAny_Pass ⟨σ, H, I, h⟩
theorem ps_break : PS X (.Break pos) tBreak := fun _ _ σ H _ I h => wpAny_Break ⟨σ, H, I, h⟩
theorem ps_continue : PS X (.Continue pos) tCont := fun _ _ σ H _ I h => wpAny_Continue ⟨σ, H, I, h⟩
/-- in a def's body nothing is shown -/
theorem Inv.quiet {pins : List (Addr × Obj)} {σ : St} {H : Hp} {s : Shared} (I : Inv X pins σ H s) : interactive X.env = false := by simp [interactive, I.ok.kind]
/-- a docstring -/
theorem ps_doc {x j pos pos'} : PS X (.Expr (.Constant (.str x) j pos) pos') tNext := fun _ s σ H _ I h => wpAny_Expr (Calls.Constant_str (show SP X _ _ .next { s with toks := s.toks + 1 } from ⟨σ, H, I.tok _, h⟩)) I.quiet
/-- an expression whose value is dropped -/
def tDrop (te : TE) : TS := fun D σ H => te σ H fun _ H1 => D.nx σ H1
theorem ps_expr (he : PE X e te) (hs : swapsWith e none pos.line X.env = pure false := by rfl) : PS X (.Expr e pos) (tDrop te) := by
  intro pins s σ H D I h
  exact wpAny_Expr_any (thn (he pins s σ H _ I h) fun v s1 ⟨x, H1, I1, r1, q1⟩ => ⟨σ, H1, I1, q1⟩) I.quiet hs
def tRet (te : TE) : TS := fun D σ H => te σ H D.rt
theorem ps_ret (he : PE X e te) : PS X (.Return (some e) pos) (tRet te) := by
  intro pins s σ H D I h
  exact wpAny_Return_some (thn (he pins s σ H _ I h) fun v s1 ⟨x, H1, I1, r1, q1⟩ => ⟨x, σ, H1, I1, r1, q1⟩)
def tRetN : TS := fun D _ H => D.rt .non H
theorem ps_retN : PS X (.Return none pos) tRetN := fun _ _ σ H _ I h => wpAny_Return_none ⟨.non, σ, H, I, rfl, h⟩
def tIfS (c : TT) (t u : TS) : TS := fun D σ H => c σ H fun b H1 => if b = true then t D σ H1 else u D σ H1
theorem ps_if {c : Expr} {a b : List Stmt} {tc : TT} (hc : PT X c tc) (ha : PSs X a t) (hb : PSs X b u) : PS X (.If c a b pos) (tIfS tc t u) := by
  intro pins s σ H D I h
  refine wpAny_If (thn (hc pins s σ H _ I h) fun d s1 ⟨H1, I1, q1⟩ => ?_)
  cases d with
  | true => exact ha pins s1 σ H1 D I1 q1
  | false => exact hb pins s1 σ H1 D I1 q1
/-- code that the proof never comes to -/
def tNever : TS := fun _ _ _ => False
theorem ps_never : PS X st tNever := fun _ _ _ _ _ _ h => h.elim
theorem pss_never {sts : List Stmt} : PSs X sts tNever := fun _ _ _ _ _ _ h => h.elim
end

/-! ### targets -/
abbrev TG := V → St → Hp → (St → Hp → Prop) → Prop
abbrev TGs := List V → St → Hp → (St → Hp → Prop) → Prop
def PG (X : Cx) (target : Expr) (t : TG) : Prop :=
  ∀ (pins : List (Addr × Obj)) (s : Shared) (σ : St) (H : Hp) (v : V) (u : Value) (Q : St → Hp → Prop), Inv X pins σ H s → RelV v u → t v σ H Q →
    wpAny (model X.prog X.w) X.A (assign target X.env u) (fun _ s' => ∃ σ' H', Inv X pins σ' H' s' ∧ Q σ' H') X.xe s
/-- several targets, one after another -/
def PGs (X : Cx) (ts : List Expr) (t : TGs) : Prop :=
  ∀ (pins : List (Addr × Obj)) (s : Shared) (σ : St) (H : Hp) (vs : List V) (us : List Value) (Q : St → Hp → Prop), Inv X pins σ H s → Vals vs us → t vs σ H Q →
    wpAny (model X.prog X.w) X.A (assignInOrder ((assignEach ts X.env).map (·.2)) us) (fun _ s' => ∃ σ' H', Inv X pins σ' H' s' ∧ Q σ' H') X.xe s
/-- o[i] = v, by values -/
abbrev TSet := V → V → V → Hp → (Hp → Prop) → Prop
def PSet (X : Cx) (t : TSet) : Prop :=
  ∀ (pins : List (Addr × Obj)) (s : Shared) (σ : St) (H : Hp) (o i v : V) (ov iv u : Value) (Q : Hp → Prop), Inv X pins σ H s → RelV o ov → RelV i iv → RelV v u → t o i v H Q →
    wpAny (model X.prog X.w) X.A (setItem ov iv u) (fun _ s' => ∃ H', Inv X pins σ H' s' ∧ Q H') X.xe s
/-- a op= b, by values -/
abbrev TIp := V → V → Hp → VK → Prop
def PIp (X : Cx) (op : Operator) (t : TIp) : Prop :=
  ∀ (pins : List (Addr × Obj)) (s : Shared) (σ : St) (H : Hp) (x y : V) (v u : Value) (Q : VK), Inv X pins σ H s → RelV x v → RelV y u → t x y H Q →
    wpAny (model X.prog X.w) X.A (inplaceOp op v u) (EP X pins σ Q) X.xe s
section
variable {X : Cx} {pos : Pos}
def gName (i : Nat) : TG := fun v σ H Q => Q (σ.set i (some v)) H
theorem pg_name {i : Nat} {x : Str} (hN : X.N.Nodup) (hi : X.N[i]? = some x) (hx : Loc X.env.scope x) (hf : X.fn x = true ∨ X.env.scope.names.lookup x = some .local := by first | exact .inl rfl | exact .inr rfl | assumption) : PG X (.Name x pos) (gName i) := by
  intro pins s σ H v u Q I r h
  exact wpAny_assign_Name (store_ok I hN hi hx r (fun s' I' => ⟨_, H, I', h⟩) hf)
def gNil : TGs := fun vs σ H Q => vs = [] ∧ Q σ H
def gCons (t : TG) (u : TGs) : TGs := fun vs σ H Q => ∃ v r, vs = v :: r ∧ t v σ H fun σ' H' => u r σ' H' Q
theorem pgs_nil : PGs X [] gNil := by
  intro pins s σ H vs us Q I r h
  obtain ⟨e, h⟩ := h
  subst e
  cases r
  exact assignInOrder_nil ⟨σ, H, I, h⟩
theorem pgs_cons {e : Expr} {es : List Expr} {t : TG} {u : TGs} (h1 : PG X e t) (h2 : PGs X es u)
    (hs : (assignEach (e :: es) X.env).map (·.2) = assign e X.env :: (assignEach es X.env).map (·.2) := by rfl) : PGs X (e :: es) (gCons t u) := by
  intro pins s σ H vs us Q I r h
  obtain ⟨v, vr, e1, h⟩ := h
  subst e1
  cases r with
  | cons r rr =>
    rw [hs]
    refine assignInOrder_cons (thn (h1 pins s σ H _ _ _ I r h) fun _ s1 ⟨σ1, H1, I1, q1⟩ => ?_)
    exact h2 pins s1 σ1 H1 _ _ Q I1 rr q1
/-- (a, b, ..) = a tuple of that length -/
def gTup (K : PySem.W.Frag) (n : Nat) (t : TGs) : TG := fun v σ H Q => ∃ a xs, v = .ref a ∧ SqT K H a xs ∧ xs.length = n ∧ t xs σ H Q
theorem pg_tup {es : List Expr} {k : Nat} {t : TGs} {n : Nat} (hc : X.calm = true) (h : PGs X es t)
    (hn : (assignEach es X.env).length = n := by rfl) (hst : (assignEach es X.env).findIdx? (·.1) = none := by rfl) : PG X (.Tuple es k pos) (gTup X.K n t) := by
  intro pins s σ H v u Q I r hw
  obtain ⟨a, xs, e1, hq, hl, hw⟩ := hw
  subst e1
  cases r
  obtain ⟨its, rv, ht, hz⟩ := I.tuple hq
  refine assign_Tuple_tuple (I.ok.hd hc) ht (by simp [hn, ← hl, rv.length]) hst fun h' hx => ?_
  have I1 : Inv X pins σ H { s with heap := h' } := I.kept (t' := s.toks) fun b o e => hx b o (Nat.ne_of_lt (Heap.lt_size e)) e
  exact h pins _ σ H xs _ Q I1 (by simpa using rv) hw
/-- o[i] = .. -/
def gSub (to ti : TE) (t : TSet) : TG := fun v σ H Q => to σ H fun o H1 => ti σ H1 fun i H2 => t o i v H2 fun H3 => Q σ H3
theorem pg_sub {o i : Expr} {to ti : TE} {t : TSet} (ho : PE X o to) (hi : PE X i ti) (hs : PSet X t)
    (ha : ∀ v, assign (.Subscript o i pos) X.env v = (do
      let ov ← holding [v] (eval o X.env)
      let iv ← holding [v, ov] (eval i X.env)
      standAt pos
      holding [v, ov, iv] (setItem ov iv v)
      release [v, ov, iv] []) := by intro _; rfl) : PG X (.Subscript o i pos) (gSub to ti t) := by
  intro pins s σ H v u Q I r h
  rw [ha]
  refine wpAny_bind (wpAny_holding (thn (ho pins s σ H _ I h) fun ov s1 ⟨x, H1, I1, r1, q1⟩ => ?_))
  refine wpAny_bind (wpAny_holding (thn (hi pins s1 σ H1 _ I1 q1) fun iv s2 ⟨y, H2, I2, r2, q2⟩ => ?_))
  refine wpAny_bind (wpAny_standAt (wpAny_bind (wpAny_holding (thn (hs pins s2 σ H2 x y v ov iv u _ I2 r1 r2 r q2) fun _ s3 ⟨H3, I3, q3⟩ => ?_))))
  exact wpAny_release ⟨σ, H3, I3, q3⟩
/-- target = value -/
def tAsg (te : TE) (g : TG) : TS := fun D σ H => te σ H fun x H1 => g x σ H1 D.nx
theorem ps_asg {tg e : Expr} {te : TE} {g : TG} (he : PE X e te) (hg : PG X tg g) (hs : swapsWithSole [tg] e pos.line X.env = pure false := by rfl) (hw : swappedStores [tg] e X.env = pure none := by rfl)
    (h1 : (assignEach [tg] X.env).map (·.2) = [assign tg X.env] := by rfl) : PS X (.Assign [tg] e pos) (tAsg te g) := by
  intro pins s σ H D I h
  refine wpAny_Assign_stores (thn (he pins s σ H _ I h) fun v s1 ⟨x, H1, I1, r1, q1⟩ => ?_) hs hw
  rw [h1]
  exact thn (hg pins s1 σ H1 x v _ I1 r1 q1) fun _ s2 q => q
/-- name = value -/
theorem ps_set {i : Nat} {x : Str} {e : Expr} {te : TE} {pos' : Pos} (hN : X.N.Nodup) (hi : X.N[i]? = some x) (hx : Loc X.env.scope x) (he : PE X e te) (hs : swapsWith e (some (.Name x pos')) pos.line X.env = pure false := by rfl) (hf : X.fn x = true ∨ X.env.scope.names.lookup x = some .local := by first | exact .inl rfl | exact .inr rfl | assumption) :
    PS X (.Assign [.Name x pos'] e pos) (tAsg te (gName i)) := by
  intro pins s σ H D I h
  refine wpAny_Assign_Name (thn (he pins s σ H _ I h) fun v s1 ⟨y, H1, I1, r1, q1⟩ => ?_) hs
  exact store_ok I1 hN hi hx r1 (fun s2 I2 => ⟨_, H1, I2, q1⟩) hf
/-- a, b = x, y with plain local names: stored from the right; the pair itself is not tracked (the opening rows as in PyProof/Rows/TupAssign.lean:23) -/
def tPar (i j : Nat) (ta : TA) : TS := fun D σ H => ta σ H fun vs H1 => ∃ v w, vs = [v, w] ∧ D.nx ((σ.set i (some v)).set j (some w)) H1
theorem ps_par {i j : Nat} {x y : Str} {a b : Expr} {ta : TA} {px py pt : Pos} {kt k2 pt2} (hc : X.calm = true) (hN : X.N.Nodup) (hi : X.N[i]? = some x) (hj : X.N[j]? = some y) (hij : i ≠ j)
    (hx : X.env.scope.names.lookup x = some .local) (hy : X.env.scope.names.lookup y = some .local) (ha : PA X [a, b] ta)
    (hw : swappedStores [.Tuple [.Name x px, .Name y py] kt pt] (.Tuple [a, b] k2 pt2) X.env = pure (some [x, y]))
    (hs : swapsWithSole [.Tuple [.Name x px, .Name y py] kt pt] (.Tuple [a, b] k2 pt2) pos.line X.env = pure false := by rfl) :
    PS X (.Assign [.Tuple [.Name x px, .Name y py] kt pt] (.Tuple [a, b] k2 pt2) pos) (tPar i j ta) := by
  intro pins s σ H D I h
  rw [exec_Assign_arm]
  refine wpAny_bind (wpAny_standAt ?_)
  rw [hs]
  refine wpAny_bind (wpAny_pure ?_)
  rw [if_neg (by decide)]
  refine wpAny_bind (Tuple_ (thn (ha _ pins s σ H _ I h) fun us s1 ⟨vs, H1, I1, r1, q1⟩ => ?_))
  obtain ⟨v, w, e1, q1⟩ := q1
  subst e1
  obtain ⟨u1, u2, rfl, rv, rw'⟩ : ∃ u1 u2, us = [u1, u2] ∧ RelV v u1 ∧ RelV w u2 := by
    cases r1 with
    | cons p q =>
      cases q with
      | cons p' q' =>
        cases q'
        exact ⟨_, _, rfl, p, p'⟩
  refine wpAny_newObj_type ?_ (by show 2 ≤ sizeLine; decide)
  have I2 : Inv X pins σ H1 { s1 with heap := s1.heap.push { cls := .type "tuple", data := .seq [u1, u2].toArray } } := I1.kept (t' := s1.toks) fun b o e => Heap.get?_push_of_some _ e
  rw [hw]
  refine wpAny_bind (wpAny_pure ?_)
  show wpAny (model X.prog X.w) X.A (do rule "assign.swapped-stores"; let items ← unpackItems (.ref s1.heap.objs.size) 2 none; assignInOrder [fun v => bindName X.env y v, fun v => bindName X.env x v] items.reverse; pure Flow.next) _ _ _
  refine wpAny_bind (wpAny_rule (wpAny_bind (unpackItems_tuple (items := #[u1, u2]) (I.ok.hd hc) (IsTup.new s1.heap _) fun h' hx' => ?_)))
  have I3 := I2.kept (h' := h') (t' := s1.toks) fun b o e => hx' b o (Nat.ne_of_lt (Heap.lt_size e)) e
  show wpAny _ _ (assignInOrder [fun v => bindName X.env y v, fun v => bindName X.env x v] [u2, u1] >>= fun _ => pure Flow.next) _ _ _
  refine wpAny_bind (assignInOrder_cons (wpAny_bindName (store_ok I3 hN hj (.inl hy) rw' (fun s2 I4 => ?_) (.inr hy))))
  refine assignInOrder_cons (wpAny_bindName (store_ok I4 hN hi (.inl hx) rv (fun s3 I5 => assignInOrder_nil (wpAny_pure ?_)) (.inr hx)))
  rw [List.set_comm _ _ (Ne.symm hij)] at I5
  exact ⟨_, H1, I5, q1⟩
/-- name op= e -/
def tAug (i : Nat) (te : TE) (ti : TIp) : TS := fun D σ H => ∃ x, σ[i]? = some (some x) ∧ te σ H fun y H1 => ti x y H1 fun z H2 => D.nx (σ.set i (some z)) H2
theorem ps_aug {i : Nat} {x : Str} {e : Expr} {te : TE} {op : Operator} {ti : TIp} {pos' : Pos} (hN : X.N.Nodup) (hi : X.N[i]? = some x) (hx : Loc X.env.scope x) (he : PE X e te) (ho : PIp X op ti) (hf : X.fn x = true ∨ X.env.scope.names.lookup x = some .local := by first | exact .inl rfl | exact .inr rfl | assumption) :
    PS X (.AugAssign (.Name x pos') op e pos) (tAug i te ti) := by
  intro pins s σ H D I h
  obtain ⟨v, e1, h⟩ := h
  obtain ⟨m, hn, hl⟩ := I.loc
  have vis : Vis X.env.scope x := by rcases hx with k | k; exact .inl k; exact .inr (.inl k)
  obtain ⟨u, r, l⟩ := hl i x v hi e1 vis
  refine wpAny_AugAssign_Name ?_
  have go : wpAny (model X.prog X.w) X.A (eval e X.env) (fun w s₂ => wpAny (model X.prog X.w) X.A (inplaceOp op u w) (fun r s₃ => wpAny (model X.prog X.w) X.A (storeName X.env x r) (fun _ => SP X pins D .next) X.xe s₃) X.xe s₂) X.xe s := by
    refine thn (he pins s σ H _ I h) fun w s1 ⟨y, H1, I1, r1, q1⟩ => ?_
    refine thn (ho pins s1 σ H1 v y u w _ I1 r r1 q1) fun z s2 ⟨zv, H2, I2, r2, q2⟩ => ?_
    exact store_ok I2 hN hi hx r2 (fun s3 I3 => ⟨_, H2, I3, q2⟩) hf
  rcases l with ⟨hk, hm⟩ | ⟨hk, c, hc, hcell⟩
  · exact wpAny_loadName_local I.ok.kind hk hn hm go
  · rcases hk with hk | hk
    · exact wpAny_loadName_cell I.ok.kind hk hc hcell go
    · rcases hx with k | k
      · have : X.env.scope.names.lookup x = some .free := hk
        rw [k] at this; cases this
      · have : X.env.scope.names.lookup x = some .free := hk
        rw [k] at this; cases this
/-- o[i] op= e -/
def tAugS (to ti te : TE) (tget : V → V → Hp → VK → Prop) (tip : TIp) (tset : TSet) : TS := fun D σ H => to σ H fun o H1 => ti σ H1 fun i H2 => tget o i H2 fun x H3 => te σ H3 fun y H4 => tip x y H4 fun z H5 => tset o i z H5 fun H6 => D.nx σ H6
/-- o[i], by values -/
def PGet (X : Cx) (t : V → V → Hp → VK → Prop) : Prop :=
  ∀ (pins : List (Addr × Obj)) (s : Shared) (σ : St) (H : Hp) (o i : V) (ov iv : Value) (Q : VK), Inv X pins σ H s → RelV o ov → RelV i iv → t o i H Q →
    wpAny (model X.prog X.w) X.A (getItem ov iv) (EP X pins σ Q) X.xe s
theorem ps_augS {o i e : Expr} {to ti te : TE} {tget : V → V → Hp → VK → Prop} {tip : TIp} {tset : TSet} {op : Operator} {tpos : Pos} (ho : PE X o to) (hi : PE X i ti) (hg : PGet X tget) (he : PE X e te) (hp : PIp X op tip) (hs : PSet X tset)
    (ha : ∀ ov iv new, augStore i ov iv new = (do holding [new, ov, iv] (setItem ov iv new); release [new, ov, iv] []; pure .next) := by intros; rfl) : PS X (.AugAssign (.Subscript o i tpos) op e pos) (tAugS to ti te tget tip tset) := by
  intro pins s σ H D I h
  refine wpAny_AugAssign_SubscriptAny (thn (ho pins s σ H _ I h) fun ov s1 ⟨x1, H1, I1, r1, q1⟩ => ?_) ha
  refine thn (hi pins s1 σ H1 _ I1 q1) fun iv s2 ⟨x2, H2, I2, r2, q2⟩ => ?_
  refine thn (hg pins s2 σ H2 x1 x2 ov iv _ I2 r1 r2 q2) fun old s3 ⟨x3, H3, I3, r3, q3⟩ => ?_
  refine thn (he pins s3 σ H3 _ I3 q3) fun v s4 ⟨x4, H4, I4, r4, q4⟩ => ?_
  refine thn (hp pins s4 σ H4 x3 x4 old v _ I4 r3 r4 q4) fun new s5 ⟨x5, H5, I5, r5, q5⟩ => ?_
  exact thn (hs pins s5 σ H5 x1 x2 x5 ov iv new _ I5 r1 r2 r5 q5) fun _ s6 ⟨H6, I6, q6⟩ => ⟨σ, H6, I6, q6⟩
/-- ints -/
def ipI (f : Int → Int → Int) : TIp := fun x y H Q => ∃ i j, x = .int i ∧ y = .int j ∧ Q (.int (f i j)) H
theorem ip_add : PIp X .Add (ipI fun i j => i + j) := by
  intro pins s σ H x y v u Q I r1 r2 h
  obtain ⟨i, j, e1, e2, q⟩ := h
  subst e1; subst e2
  obtain ⟨t, rfl⟩ := r1
  obtain ⟨t', rfl⟩ := r2
  exact iadd_int ⟨.int _, H, I.tok _, ⟨_, rfl⟩, q⟩
theorem ip_sub : PIp X .Sub (ipI fun i j => i - j) := by
  intro pins s σ H x y v u Q I r1 r2 h
  obtain ⟨i, j, e1, e2, q⟩ := h
  subst e1; subst e2
  obtain ⟨t, rfl⟩ := r1
  obtain ⟨t', rfl⟩ := r2
  exact isub_int ⟨.int _, H, I.tok _, ⟨_, rfl⟩, q⟩
end

/-! ### while -/
section
variable {X : Cx} {pos : Pos}
/-- the invariant W with its measure -/
def tWhile (c : TT) (tb : TS) : TS := fun D σ H => ∃ W : Nat → St → Hp → Prop, (∃ m, W m σ H) ∧ ∀ m σ H, W m σ H →
  c σ H fun b H1 => if b = true then ∃ N : St → Hp → Prop, (∀ σ' H', N σ' H' → ∃ m', m' < m ∧ W m' σ' H') ∧ tb { D with nx := N, ct := N, bk := D.nx } σ H1 else D.nx σ H1
theorem ps_while {c : Expr} {body : List Stmt} {tc : TT} {tb : TS} (hp : PassesOwn (model X.prog X.w) X.A X.env X.xe) (hc : PT X c tc) (hb : PSs X body tb) : PS X (.While c body [] pos) (tWhile tc tb) := by
  intro pins s σ H D I h
  obtain ⟨W, ⟨m0, w0⟩, turn⟩ := h
  refine wpAny_While (codeAny_whileLoop (fun n s' => ∃ σ' H', Inv X pins σ' H' s' ∧ W n σ' H') ?_ m0 ⟨σ, H, I, w0⟩)
  rintro n s1 ⟨σ1, H1, I1, w1⟩
  refine wpAny_passesOwn hp (thn (hc pins s1 σ1 H1 _ I1 (turn n σ1 H1 w1)) fun b s2 ⟨H2, I2, q2⟩ => ?_)
  cases b with
  | true =>
    obtain ⟨N, hN, q2⟩ := q2
    rw [if_pos rfl]
    refine wpAny_passesOwn hp (thn (hb pins s2 σ1 H2 _ I2 q2) fun f s3 q3 => ?_)
    cases f with
    | next =>
      obtain ⟨σ3, H3, I3, n3⟩ := q3
      obtain ⟨m', hm, w3⟩ := hN σ3 H3 n3
      exact ⟨m', hm, σ3, H3, I3, w3⟩
    | cont =>
      obtain ⟨σ3, H3, I3, n3⟩ := q3
      obtain ⟨m', hm, w3⟩ := hN σ3 H3 n3
      exact ⟨m', hm, σ3, H3, I3, w3⟩
    | brk => exact q3
    | ret v => exact q3
  | false =>
    rw [if_neg Bool.false_ne_true]
    exact wpAny_execs_nil ⟨σ1, H2, I2, q2⟩
end

/-! ### what a loop or a comprehension walks -/
/-- at turn i: it yields x (the heap may grow), or it stops -/
structure It where
  go : Nat → Hp → Prop
  yld : Nat → Hp → V → Hp → Prop
  stop : Nat → Hp → Prop
/-- the iterator's own objects may turn: they are not the frame's, not pinned, younger than the entry (or a comprehension's own) -/
def FpOk (X : Cx) (pins : List (Addr × Obj)) (H : Hp) (b : Addr) : Prop :=
  H b = none ∧ b ≠ X.env.locals ∧ b ∉ X.fs ∧ (b ∈ X.ex ∨ X.s₀.heap.objs.size ≤ b) ∧ (∀ x c, X.env.cells.lookup x = some c → c ≠ b) ∧ ∀ p ∈ X.pn ++ pins, p.1 ≠ b
theorem Inv.fpOk {X : Cx} {pins : List (Addr × Obj)} {σ : St} {H H' : Hp} {s : Shared} {b : Addr} (I : Inv X pins σ H s) (hb : s.heap.objs.size ≤ b) (hn : H' b = none) : FpOk X pins H' b := by
  refine ⟨hn, Nat.ne_of_gt (Nat.lt_of_lt_of_le I.lt hb), I.nofs hb, .inr (Nat.le_trans I.sz hb), fun x c e z => ?_, fun p hp z => ?_⟩
  · obtain ⟨v, q⟩ := I.cell x c e
    exact absurd (Nat.lt_of_lt_of_le q.lt (by rw [z]; exact hb)) (Nat.lt_irrefl _)
  · exact absurd (Nat.lt_of_lt_of_le (Heap.lt_size (I.pin p hp).1) (by rw [z]; exact hb)) (Nat.lt_irrefl _)
structure Turn (P : Program) (w : World) (K : PySem.W.Frag) (tg : Expr) (J : It) (fp : List Addr) (it : Addr) (tn : Nat → Heap → Prop) : Prop where
  mem : it ∈ fp
  obj : ∀ i h, tn i h → ∀ b ∈ fp, ∃ o, h.get? b = some o ∧ ∀ v, o.data ≠ .cell v
  keep : ∀ i h h', tn i h → (∀ b ∈ fp, ∀ o, h.get? b = some o → h'.get? b = some o) → tn i h'
  item : ∀ (X : Cx), X.prog = P → X.w = w → X.K = K → X.calm = true → ∀ (i : Nat) (pins : List (Addr × Obj)) (s : Shared) (σ : St) (H : Hp) (E : Value → Shared → Prop), Inv X pins σ H s → (∀ b ∈ fp, FpOk X pins H b) → tn i s.heap → J.go i H →
    wpAny (model P w) X.A (pyNext (.ref it)) (fun r s1 => ∃ u, r = some u ∧
      wpAny (model P w) X.A (letOwnedTupleGo tg (.ref it) u) (fun _ s2 => ∃ x H', Inv X pins σ H' s2 ∧ RelV x u ∧ J.yld i H x H' ∧ tn (i + 1) s2.heap ∧ ∀ b ∈ fp, H' b = none) E s1) E s
  done : ∀ (X : Cx), X.prog = P → X.w = w → X.K = K → X.calm = true → ∀ (i : Nat) (pins : List (Addr × Obj)) (s : Shared) (σ : St) (H : Hp) (E : Value → Shared → Prop), Inv X pins σ H s → (∀ b ∈ fp, FpOk X pins H b) → tn i s.heap → J.stop i H →
    wpAny (model P w) X.A (pyNext (.ref it)) (fun r s1 => r = none ∧ Inv X pins σ H s1) E s
  self : ∀ (A : Around) (i : Nat) (s : Shared) (Q : Value → Shared → Prop) (E : Value → Shared → Prop), tn i s.heap → Q (.ref it) s → wpAny (model P w) A (pyIter (.ref it)) Q E s
abbrev TI := St → Hp → (It → Hp → Prop) → Prop
/-- an iterator has come -/
def PIE (X : Cx) (pins : List (Addr × Obj)) (σ : St) (tg : Expr) (R : It → Hp → Prop) (itv : Value) (s2 : Shared) : Prop :=
  ∃ (it : Addr) (fp : List Addr) (tn : Nat → Heap → Prop) (J : It) (H' : Hp), itv = .ref it ∧ Inv X pins σ H' s2 ∧ Turn X.prog X.w X.K tg J fp it tn ∧ tn 0 s2.heap ∧ (∀ b ∈ fp, FpOk X pins H' b) ∧ R J H'
def PI (X : Cx) (tg iter : Expr) (wi : TI) : Prop :=
  ∀ (pins : List (Addr × Obj)) (s : Shared) (σ : St) (H : Hp) (R : It → Hp → Prop), Inv X pins σ H s → wi σ H R →
    wpAny (model X.prog X.w) X.A (eval iter X.env) (fun v s1 => wpAny (model X.prog X.w) X.A (pyIter v) (PIE X pins σ tg R) X.xe s1) X.xe s

/-- the step ahead of the store is nothing for an iterator that keeps no tuple -/
theorem go_of {M : Model} {A : Around} {E : Value → Shared → Prop} {s : Shared} {tg : Expr} {it : Addr} {u : Value} {o : Obj} {n : String} {vs : Array Value} {Q : Unit → Shared → Prop} (ho : s.heap.get? it = some o) (hc : o.cls = .type n) (hd : o.data = .fields vs)
    (hn : ["enumerate", "zip", "dict_itemiterator", "dict_reverseitemiterator", "odict_iterator", "itertools.zip_longest", "itertools.pairwise"].contains n = false) (hQ : Q () s) : wpAny M A (letOwnedTupleGo tg (.ref it) u) Q E s := by
  unfold letOwnedTupleGo
  cases tg <;> first
    | exact wpAny_pure hQ
    | (cases u <;> first
        | exact wpAny_pure hQ
        | (refine wpAny_bind (wpAny_load ho ?_)
           rw [hc, hd]
           show wpAny M A (if (["enumerate", "zip", "dict_itemiterator", "dict_reverseitemiterator", "odict_iterator", "itertools.zip_longest", "itertools.pairwise"].contains n && vs[0]? == some (rawInt _)) = true then _ else _) Q E s
           rw [if_neg (by intro h; rw [hn, Bool.false_and] at h; cases h)]
           exact wpAny_pure hQ))

/-- the list at a, as it stands at each turn (a loop may append to it) -/
def Itl (K : PySem.W.Frag) (a : Addr) : It :=
  ⟨fun i H => ∃ xs x, SqL K H a xs ∧ xs[i]? = some x, fun i H x H' => H' = H ∧ ∀ xs, SqL K H a xs → xs[i]? = some x, fun i H => ∃ xs, SqL K H a xs ∧ xs.length ≤ i⟩
def Itt (K : PySem.W.Frag) (a : Addr) : It :=
  ⟨fun i H => ∃ xs x, SqT K H a xs ∧ xs[i]? = some x, fun i H x H' => H' = H ∧ ∀ xs, SqT K H a xs → xs[i]? = some x, fun i H => ∃ xs, SqT K H a xs ∧ xs.length ≤ i⟩
/-- lo, lo + 1, .. (n of them) -/
def Itr (lo : Int) (n : Nat) : It := ⟨fun i _ => i < n, fun i H x H' => H' = H ∧ x = .int (lo + i), fun i _ => n ≤ i⟩
theorem turn_list {P : Program} {w : World} {K : PySem.W.Frag} {tg : Expr} (a it : Addr) : Turn P w K tg (Itl K a) [it] it (fun i h => h.IsListIter it a i) where
  mem := by simp
  obj := fun i h st b hb => by
    have e : b = it := by simpa using hb
    subst e
    obtain ⟨o, e, c, d⟩ := st
    exact ⟨o, e, fun v z => by rw [d] at z; cases z⟩
  keep := fun i h h' st k => st.at fun o e => k it (by simp) o e
  item := by
    intro X hP hw hK hc i pins s σ H E I hf st hg
    subst hP hw hK
    obtain ⟨xs, x, hq, hx⟩ := hg
    obtain ⟨its, rv, p, hz⟩ := I.list hq
    obtain ⟨u, hu, ru⟩ := rv.get hx
    obtain ⟨f0, f1, f2, f3, f4, f5⟩ := hf it (by simp)
    refine wpAny_pyNext_list_item st p.isList (x := u) (by simpa using hu) fun h' st' sb => ?_
    have I1 : Inv X pins σ H { s with heap := h' } := I.turned (t' := s.toks) (fun b o hb e => (sb.2 b hb).trans e) f0 f1 f3 f4 f5
    obtain ⟨o, e, c, d⟩ := id st'
    exact ⟨u, rfl, go_of (s := { s with heap := h' }) e c d (by decide) ⟨x, H, I1, ru, ⟨rfl, fun ys hy => by rw [I.list_inj hy hq]; exact hx⟩, st', fun b hb => (hf b hb).1⟩⟩
  done := by
    intro X hP hw hK hc i pins s σ H E I hf st hg
    subst hP hw hK
    obtain ⟨xs, hq, hx⟩ := hg
    obtain ⟨its, rv, p, hz⟩ := I.list hq
    obtain ⟨f0, f1, f2, f3, f4, f5⟩ := hf it (by simp)
    have hl := rv.length
    exact wpAny_pyNext_list_end (I.ok.hd hc) st p.isList (by simp; omega) fun h' eb => ⟨rfl, I.turned (t' := s.toks) (fun b o hb e => eb b o hb e) f0 f1 f3 f4 f5⟩
  self := fun _ _ _ _ _ st h => wpAny_pyIter_listiter st h
theorem turn_tuple {P : Program} {w : World} {K : PySem.W.Frag} {tg : Expr} (a it : Addr) : Turn P w K tg (Itt K a) [it] it (fun i h => h.IsTupleIter it a i) where
  mem := by simp
  obj := fun i h st b hb => by
    have e : b = it := by simpa using hb
    subst e
    obtain ⟨o, e, c, d⟩ := st
    exact ⟨o, e, fun v z => by rw [d] at z; cases z⟩
  keep := fun i h h' st k => st.at fun o e => k it (by simp) o e
  item := by
    intro X hP hw hK hc i pins s σ H E I hf st hg
    subst hP hw hK
    obtain ⟨xs, x, hq, hx⟩ := hg
    obtain ⟨its, rv, p, hz⟩ := I.tuple hq
    obtain ⟨u, hu, ru⟩ := rv.get hx
    obtain ⟨f0, f1, f2, f3, f4, f5⟩ := hf it (by simp)
    refine wpAny_pyNext_tuple_item st (show s.heap.IsTuple a its.toArray from p) (x := u) (by simpa using hu) fun h' st' sb => ?_
    have I1 : Inv X pins σ H { s with heap := h' } := I.turned (t' := s.toks) (fun b o hb e => (sb.2 b hb).trans e) f0 f1 f3 f4 f5
    obtain ⟨o, e, c, d⟩ := id st'
    exact ⟨u, rfl, go_of (s := { s with heap := h' }) e c d (by decide) ⟨x, H, I1, ru, ⟨rfl, fun ys hy => by rw [I.tuple_inj hy hq]; exact hx⟩, st', fun b hb => (hf b hb).1⟩⟩
  done := by
    intro X hP hw hK hc i pins s σ H E I hf st hg
    subst hP hw hK
    obtain ⟨xs, hq, hx⟩ := hg
    obtain ⟨its, rv, p, hz⟩ := I.tuple hq
    obtain ⟨f0, f1, f2, f3, f4, f5⟩ := hf it (by simp)
    have hl := rv.length
    exact wpAny_pyNext_tuple_end (I.ok.hd hc) st (show s.heap.IsTuple a its.toArray from p) (by simp; omega) fun h' eb => ⟨rfl, I.turned (t' := s.toks) (fun b o hb e => eb b o hb e) f0 f1 f3 f4 f5⟩
  self := fun _ _ _ _ _ st h => wpAny_pyIter_tupleiter st h
theorem turn_range {P : Program} {w : World} {K : PySem.W.Frag} {tg : Expr} (it : Addr) (lo : Int) (n : Nat) : Turn P w K tg (Itr lo n) [it] it (fun i h => IsRangeIter h it (lo + (i : Nat) * 1) ((n : Int) - (i : Nat)) 1) where
  mem := by simp
  obj := fun i h st b hb => by
    have e : b = it := by simpa using hb
    subst e
    exact ⟨_, st, fun v z => by
      have z' : Data.fields _ = Data.cell v := z
      cases z'⟩
  keep := fun i h h' st k => k it (by simp) _ st
  item := by
    intro X hP hw hK hc i pins s σ H E I hf st hg
    subst hP hw hK
    obtain ⟨f0, f1, f2, f3, f4, f5⟩ := hf it (by simp)
    have W := Walks.range (prog := X.prog) (w := X.w) (I.ok.hd hc) it lo 1 n
    refine W.item i s _ _ hg st fun v h' tk hv st' kk => ?_
    obtain ⟨t, rfl⟩ := hv
    have I1 : Inv X pins σ H { s with heap := h', toks := tk } := I.turned (fun b o hb e => kk b o (by simpa using hb) e) f0 f1 f3 f4 f5
    refine ⟨_, rfl, go_of (s := { s with heap := h', toks := tk }) (n := "range_iterator") st' rfl rfl (by decide) ⟨.int (lo + i), H, I1, ⟨t, ?_⟩, ⟨rfl, rfl⟩, st', fun b hb => (hf b hb).1⟩⟩
    rw [Int.mul_one]
  done := by
    intro X hP hw hK hc i pins s σ H E I hf st hg
    subst hP hw hK
    obtain ⟨f0, f1, f2, f3, f4, f5⟩ := hf it (by simp)
    exact wpAny_pyNext_range_end (I.ok.hd hc) st (by have : n ≤ i := hg; omega) fun h' eb => ⟨rfl, I.turned (t' := s.toks) (fun b o hb e => eb b o hb e) f0 f1 f3 f4 f5⟩
  self := fun _ _ _ _ _ st h => wpAny_pyIter_rangeiter st h
end L2

namespace L2
open PySem PySem.Spec PyProof.Rows
section
variable {X : Cx} {tg : Expr}
def iList (K : PySem.W.Frag) (tl : TE) : TI := fun σ H R => tl σ H fun x H1 => ∃ a, x = .ref a ∧ (∃ xs, SqL K H1 a xs) ∧ R (Itl K a) H1
def iTup (K : PySem.W.Frag) (tl : TE) : TI := fun σ H R => tl σ H fun x H1 => ∃ a, x = .ref a ∧ (∃ xs, SqT K H1 a xs) ∧ R (Itt K a) H1
theorem pi_list {l : Expr} {tl : TE} (hl : PE X l tl) : PI X tg l (iList X.K tl) := by
  intro pins s σ H R I h
  refine thn (hl pins s σ H _ I h) fun v s1 ⟨x, H1, I1, r1, q1⟩ => ?_
  obtain ⟨a, e, ⟨xs, hq⟩, q⟩ := q1
  subst e
  cases r1
  obtain ⟨its, rv, p, hz⟩ := I1.list hq
  refine wpAny_pyIter_list p.isList ?_
  refine ⟨s1.heap.objs.size, [s1.heap.objs.size], _, _, H1, rfl, I1.kept (t' := s1.toks) fun b o e => Heap.get?_push_of_some _ e, turn_list a _, ⟨_, Heap.get?_push_size _ rfl, rfl, rfl⟩, fun b hb => ?_, q⟩
  have e : b = s1.heap.objs.size := by simpa using hb
  subst e
  exact I1.fpOk (Nat.le_refl _) (I1.hok.fresh (Nat.le_refl _))
theorem pi_tup {l : Expr} {tl : TE} (hl : PE X l tl) : PI X tg l (iTup X.K tl) := by
  intro pins s σ H R I h
  refine thn (hl pins s σ H _ I h) fun v s1 ⟨x, H1, I1, r1, q1⟩ => ?_
  obtain ⟨a, e, ⟨xs, hq⟩, q⟩ := q1
  subst e
  cases r1
  obtain ⟨its, rv, p, hz⟩ := I1.tuple hq
  refine wpAny_pyIter_tuple (show s1.heap.IsTuple a its.toArray from p) ?_
  refine ⟨s1.heap.objs.size, [s1.heap.objs.size], _, _, H1, rfl, I1.kept (t' := s1.toks) fun b o e => Heap.get?_push_of_some _ e, turn_tuple a _, ⟨_, Heap.get?_push_size _ rfl, rfl, rfl⟩, fun b hb => ?_, q⟩
  have e : b = s1.heap.objs.size := by simpa using hb
  subst e
  exact I1.fpOk (Nat.le_refl _) (I1.hok.fresh (Nat.le_refl _))
/-- a range object just made, walked -/
theorem range_it {pins : List (Addr × Obj)} {σ : St} {H : Hp} {s : Shared} {R : It → Hp → Prop} {E : Value → Shared → Prop} {lo hi : Int} {t u v : Tok} {tk : Nat} (I : Inv X pins σ H s) (h1 : -(2 ^ 62) ≤ lo) (h2 : lo < 2 ^ 62) (h3 : -(2 ^ 62) ≤ hi) (h4 : hi < 2 ^ 62)
    (q : R (Itr lo (hi - lo).toNat) H) : wpAny (model X.prog X.w) X.A (pyIter (.ref s.heap.objs.size)) (PIE X pins σ tg R) E { s with heap := s.heap.push { cls := .type "range", data := .fields #[.int lo t, .int hi u, .int 1 v] }, toks := tk } := by
  refine wpAny_pyIter_range (IsRange.new ..) (small_one h1 h2 h3 h4) ?_
  have I1 : Inv X pins σ H { s with heap := s.heap.push { cls := .type "range", data := .fields #[.int lo t, .int hi u, .int 1 v] }, toks := tk } := I.kept fun b o e => Heap.get?_push_of_some _ e
  refine ⟨(s.heap.push { cls := .type "range", data := .fields #[.int lo t, .int hi u, .int 1 v] }).objs.size, [(s.heap.push { cls := .type "range", data := .fields #[.int lo t, .int hi u, .int 1 v] }).objs.size], _, _, H, rfl,
    I1.kept (t' := tk) fun b o e => Heap.get?_push_of_some _ e, turn_range _ lo (hi - lo).toNat, ?_, fun b hb => ?_, q⟩
  · have e1 : lo + ((0 : Nat) : Int) * 1 = lo := by simp
    have e2 : (((hi - lo).toNat : Nat) : Int) - ((0 : Nat) : Int) = Builtin.Range.rangeSize lo hi 1 := by rw [rangeSize_one]; split <;> omega
    show IsRangeIter _ _ (lo + ((0 : Nat) : Int) * 1) ((((hi - lo).toNat : Nat) : Int) - ((0 : Nat) : Int)) 1
    rw [e1, e2]
    exact Heap.get?_push_size _ rfl
  · have e : b = (s.heap.push { cls := .type "range", data := .fields #[.int lo t, .int hi u, .int 1 v] }).objs.size := by simpa using hb
    subst e
    exact I1.fpOk (Nat.le_refl _) (I1.hok.fresh (Nat.le_refl _))
def iRng1 (ta : TA) : TI := fun σ H R => ta σ H fun vs H1 => ∃ j : Int, vs = [.int j] ∧ -(2 ^ 62) ≤ j ∧ j < 2 ^ 62 ∧ R (Itr 0 j.toNat) H1
def iRng2 (ta : TA) : TI := fun σ H R => ta σ H fun vs H1 => ∃ i j : Int, vs = [.int i, .int j] ∧ (-(2 ^ 62) ≤ i ∧ i < 2 ^ 62 ∧ -(2 ^ 62) ≤ j ∧ j < 2 ^ 62) ∧ R (Itr i (j - i).toNat) H1
theorem pi_range1 {a : Expr} {ta : TA} {p pos : Pos} (hg : Gl X "range") (hm : X.mg "range" = none) (ha : PA X [a] ta) (hs : starEach [a] X.env = [(false, eval a X.env)] := by rfl) : PI X tg (.Call (.Name "range" p) [a] [] pos) (iRng1 ta) := by
  intro pins s σ H R I h
  refine Call_ (ld_blt I hg hm boot_range (PyProof.Rows.callWith_type1 (thn (ha pos pins s σ H _ I h) fun us s1 ⟨vs, H1, I1, r1, q1⟩ => ?_) hs rfl))
  obtain ⟨j, e, q1, q2, q⟩ := q1
  subst e
  cases r1 with
  | cons r rr =>
    cases rr
    obtain ⟨t, rfl⟩ := r
    exact call_range_1 (range_it I1 (by omega) (by omega) q1 q2 (by simpa using q))
theorem pi_range2 {a b : Expr} {ta : TA} {p pos : Pos} (hg : Gl X "range") (hm : X.mg "range" = none) (ha : PA X [a, b] ta) (hs : starEach [a, b] X.env = [(false, eval a X.env), (false, eval b X.env)] := by rfl) (hs2 : starEach [b] X.env = [(false, eval b X.env)] := by rfl) :
    PI X tg (.Call (.Name "range" p) [a, b] [] pos) (iRng2 ta) := by
  intro pins s σ H R I h
  refine Call_ (ld_blt I hg hm boot_range (PyProof.Rows.callWith_type1 (thn (ha pos pins s σ H _ I h) fun us s1 ⟨vs, H1, I1, r1, q1⟩ => ?_) (by rw [hs, hs2]) (by rw [hs2]; rfl)))
  obtain ⟨i, j, e, ⟨q1, q2, q3, q4⟩, q⟩ := q1
  subst e
  cases r1 with
  | cons r rr =>
    cases rr with
    | cons r' rr =>
      cases rr
      obtain ⟨t, rfl⟩ := r
      obtain ⟨t', rfl⟩ := r'
      exact call_range_2 (range_it I1 q1 q2 q3 q4 q)

/-! ### for -/
/-- W: the invariant by the turn and a measure; N: what the body is to reach -/
def tFor (wi : TI) (g : TG) (tb : TS) : TS := fun D σ H => wi σ H fun J H1 => ∃ W : Nat → Nat → St → Hp → Prop, (∃ m, W 0 m σ H1) ∧ ∀ i m σ H, W i m σ H →
  (J.stop i H ∧ D.nx σ H) ∨ (J.go i H ∧ ∃ N : St → Hp → Prop, (∀ σ' H', N σ' H' → ∃ m', m' < m ∧ W (i + 1) m' σ' H') ∧ ∀ x H', J.yld i H x H' → g x σ H' fun σ2 H2 => tb { D with nx := N, ct := N, bk := D.nx } σ2 H2)
/-- the records at fp as they stand -/
def pinsAt (fp : List Addr) (h : Heap) : List (Addr × Obj) := fp.filterMap fun b => (h.get? b).map fun o => (b, o)
theorem mem_pinsAt {fp : List Addr} {h : Heap} {b : Addr} {o : Obj} (hb : b ∈ fp) (e : h.get? b = some o) : (b, o) ∈ pinsAt fp h := List.mem_filterMap.mpr ⟨b, hb, by rw [e]; rfl⟩
theorem of_pinsAt {fp : List Addr} {h : Heap} {p : Addr × Obj} (hp : p ∈ pinsAt fp h) : p.1 ∈ fp ∧ h.get? p.1 = some p.2 := by
  obtain ⟨b, hb, e⟩ := List.mem_filterMap.mp hp
  cases q : h.get? b with
  | none => rw [q] at e; cases e
  | some o =>
    rw [q] at e
    have e' : (b, o) = p := Option.some.inj e
    subst e'
    exact ⟨hb, q⟩
theorem Inv.pinned {pins : List (Addr × Obj)} {σ : St} {H : Hp} {s : Shared} {fp : List Addr} (I : Inv X pins σ H s) (hf : ∀ b ∈ fp, FpOk X pins H b) (ho : ∀ b ∈ fp, ∃ o, s.heap.get? b = some o ∧ ∀ v, o.data ≠ .cell v) : Inv X (pins ++ pinsAt fp s.heap) σ H s :=
  I.pins_of fun p hp => (List.mem_append.mp hp).elim (fun z => I.pin p (List.mem_append_right _ z)) fun z => by
    obtain ⟨hb, e⟩ := of_pinsAt z
    obtain ⟨f0, f1, f2, _⟩ := hf p.1 hb
    obtain ⟨o, e', d⟩ := ho p.1 hb
    rw [e] at e'; cases e'
    exact ⟨e, f0, f1, f2, d⟩
theorem Inv.unpinned {pins pl : List (Addr × Obj)} {σ : St} {H : Hp} {s : Shared} (I : Inv X (pins ++ pl) σ H s) : Inv X pins σ H s := I.pins_of fun p hp => I.pin p (List.mem_append_right _ (List.mem_append_left _ hp))
theorem ps_for {iter : Expr} {body : List Stmt} {wi : TI} {g : TG} {tb : TS} {pos : Pos} (hp : PassesOwn (model X.prog X.w) X.A X.env X.xe) (hc : X.calm = true) (hi : PI X tg iter wi) (hg : PG X tg g) (hb : PSs X body tb)
    (hs : ∀ x, foldedSetIterable iter X.env x = pure x := by intro _; rfl) : PS X (.For tg iter body [] pos) (tFor wi g tb) := by
  intro pins s σ H D I h
  refine wpAny_For (thn (hi pins s σ H _ I h) fun v s1 h1 => thn h1 fun itv s2 h2 => ?_) hs
  obtain ⟨it, fp, tn, J, H2, e, I2, T, st2, f2, W, ⟨m0, w0⟩, turn⟩ := h2
  subst e
  -- what stays true of the iterator's objects through the loop
  have stat : ∀ {H' : Hp}, (∀ b ∈ fp, H' b = none) → ∀ b ∈ fp, FpOk X pins H' b := fun hn b hb => ⟨hn b hb, (f2 b hb).2⟩
  refine codeAny_forLoop_any (fun n s' => ∃ i σ' H', Inv X pins σ' H' s' ∧ tn i s'.heap ∧ (∀ b ∈ fp, H' b = none) ∧ W i n σ' H') ?_ m0 ⟨0, σ, H2, I2, st2, fun b hb => (f2 b hb).1, w0⟩
  rintro n s3 ⟨i, σ3, H3, I3, st3, fr3, w3⟩
  rcases turn i n σ3 H3 w3 with ⟨stop, qn⟩ | ⟨go, N, hN, step⟩
  · refine wpAny_passesOwn hp (thn (T.done X rfl rfl rfl hc i pins s3 σ3 H3 X.xe I3 (stat fr3) st3 stop) fun r s4 ⟨hr, I4⟩ => ?_)
    subst hr
    exact wpAny_execs_nil ⟨σ3, H3, I4, qn⟩
  · refine wpAny_passesOwn hp (thn (T.item X rfl rfl rfl hc i pins s3 σ3 H3 X.xe I3 (stat fr3) st3 go) fun r s4 ⟨u, hr, h4⟩ => ?_)
    subst hr
    refine wpAny_passesOwn hp (thn h4 fun _ s5 ⟨x, H5, I5, r5, y5, st5, fr5⟩ => ?_)
    have I5' := I5.pinned (stat fr5) (T.obj _ _ st5)
    refine wpAny_passesOwn hp (thn (hg _ s5 σ3 H5 x u _ I5' r5 (step x H5 y5)) fun _ s6 ⟨σ6, H6, I6, q6⟩ => ?_)
    refine wpAny_passesOwn hp (thn (hb _ s6 σ6 H6 _ I6 q6) fun f s7 q7 => ?_)
    have again : ∀ {σ7 : St} {H7 : Hp}, Inv X (pins ++ pinsAt fp s5.heap) σ7 H7 s7 → N σ7 H7 → ∃ m, m < n ∧ ∃ i σ' H', Inv X pins σ' H' s7 ∧ tn i s7.heap ∧ (∀ b ∈ fp, H' b = none) ∧ W i m σ' H' := fun {σ7 H7} I7 n7 => by
      obtain ⟨m', hm, w7⟩ := hN σ7 H7 n7
      refine ⟨m', hm, i + 1, σ7, H7, I7.unpinned, T.keep _ _ _ st5 fun b hb o e => (I7.pin (b, o) (List.mem_append_right _ (List.mem_append_right _ (mem_pinsAt hb e)))).1, fun b hb => ?_, w7⟩
      obtain ⟨o, e, d⟩ := T.obj _ _ st5 b hb
      exact (I7.pin (b, o) (List.mem_append_right _ (List.mem_append_right _ (mem_pinsAt hb e)))).2.1
    cases f with
    | next => obtain ⟨σ7, H7, I7, n7⟩ := q7; exact again I7 n7
    | cont => obtain ⟨σ7, H7, I7, n7⟩ := q7; exact again I7 n7
    | brk => obtain ⟨σ7, H7, I7, q7⟩ := q7; exact ⟨σ7, H7, I7.unpinned, q7⟩
    | ret v => obtain ⟨x7, σ7, H7, I7, r7, q7⟩ := q7; exact ⟨x7, σ7, H7, I7.unpinned, r7, q7⟩
end

/-! ### the forms one uses -/
/-- over a list that the body leaves as it is -/
theorem for_list {K : PySem.W.Frag} {a : Addr} {xs : List V} {g : TG} {tb : TS} {D : Ends} {σ : St} {H : Hp} (Pv : Nat → St → Hp → Prop) (h0 : Pv 0 σ H) (hl : ∀ i σ H, i ≤ xs.length → Pv i σ H → SqL K H a xs)
    (hs : ∀ i x σ H, xs[i]? = some x → Pv i σ H → g x σ H fun σ2 H2 => tb { D with nx := Pv (i + 1), ct := Pv (i + 1), bk := D.nx } σ2 H2) (hd : ∀ σ H, Pv xs.length σ H → D.nx σ H) :
    ∃ W : Nat → Nat → St → Hp → Prop, (∃ m, W 0 m σ H) ∧ ∀ i m σ H, W i m σ H →
      ((Itl K a).stop i H ∧ D.nx σ H) ∨ ((Itl K a).go i H ∧ ∃ N : St → Hp → Prop, (∀ σ' H', N σ' H' → ∃ m', m' < m ∧ W (i + 1) m' σ' H') ∧ ∀ x H', (Itl K a).yld i H x H' → g x σ H' fun σ2 H2 => tb { D with nx := N, ct := N, bk := D.nx } σ2 H2) := by
  refine ⟨fun i m σ H => m = xs.length - i ∧ i ≤ xs.length ∧ Pv i σ H, ⟨xs.length, by simp, Nat.zero_le _, h0⟩, ?_⟩
  rintro i m σ H ⟨rfl, hi, p⟩
  have q := hl i σ H hi p
  by_cases hlt : i < xs.length
  · refine .inr ⟨⟨xs, xs[i], q, by simp [hlt]⟩, Pv (i + 1), fun σ' H' p' => ⟨xs.length - (i + 1), by omega, rfl, hlt, p'⟩, fun x H' y => ?_⟩
    obtain ⟨e, y⟩ := y
    subst e
    exact hs i x σ _ (y xs q) p
  · have e : i = xs.length := by omega
    subst e
    exact .inl ⟨⟨xs, q, Nat.le_refl _⟩, hd σ H p⟩
theorem for_tup {K : PySem.W.Frag} {a : Addr} {xs : List V} {g : TG} {tb : TS} {D : Ends} {σ : St} {H : Hp} (Pv : Nat → St → Hp → Prop) (h0 : Pv 0 σ H) (hl : ∀ i σ H, i ≤ xs.length → Pv i σ H → SqT K H a xs)
    (hs : ∀ i x σ H, xs[i]? = some x → Pv i σ H → g x σ H fun σ2 H2 => tb { D with nx := Pv (i + 1), ct := Pv (i + 1), bk := D.nx } σ2 H2) (hd : ∀ σ H, Pv xs.length σ H → D.nx σ H) :
    ∃ W : Nat → Nat → St → Hp → Prop, (∃ m, W 0 m σ H) ∧ ∀ i m σ H, W i m σ H →
      ((Itt K a).stop i H ∧ D.nx σ H) ∨ ((Itt K a).go i H ∧ ∃ N : St → Hp → Prop, (∀ σ' H', N σ' H' → ∃ m', m' < m ∧ W (i + 1) m' σ' H') ∧ ∀ x H', (Itt K a).yld i H x H' → g x σ H' fun σ2 H2 => tb { D with nx := N, ct := N, bk := D.nx } σ2 H2) := by
  refine ⟨fun i m σ H => m = xs.length - i ∧ i ≤ xs.length ∧ Pv i σ H, ⟨xs.length, by simp, Nat.zero_le _, h0⟩, ?_⟩
  rintro i m σ H ⟨rfl, hi, p⟩
  have q := hl i σ H hi p
  by_cases hlt : i < xs.length
  · refine .inr ⟨⟨xs, xs[i], q, by simp [hlt]⟩, Pv (i + 1), fun σ' H' p' => ⟨xs.length - (i + 1), by omega, rfl, hlt, p'⟩, fun x H' y => ?_⟩
    obtain ⟨e, y⟩ := y
    subst e
    exact hs i x σ _ (y xs q) p
  · have e : i = xs.length := by omega
    subst e
    exact .inl ⟨⟨xs, q, Nat.le_refl _⟩, hd σ H p⟩
theorem for_range {lo : Int} {n : Nat} {g : TG} {tb : TS} {D : Ends} {σ : St} {H : Hp} (Pv : Nat → St → Hp → Prop) (h0 : Pv 0 σ H)
    (hs : ∀ i σ H, i < n → Pv i σ H → g (.int (lo + i)) σ H fun σ2 H2 => tb { D with nx := Pv (i + 1), ct := Pv (i + 1), bk := D.nx } σ2 H2) (hd : ∀ σ H, Pv n σ H → D.nx σ H) :
    ∃ W : Nat → Nat → St → Hp → Prop, (∃ m, W 0 m σ H) ∧ ∀ i m σ H, W i m σ H →
      ((Itr lo n).stop i H ∧ D.nx σ H) ∨ ((Itr lo n).go i H ∧ ∃ N : St → Hp → Prop, (∀ σ' H', N σ' H' → ∃ m', m' < m ∧ W (i + 1) m' σ' H') ∧ ∀ x H', (Itr lo n).yld i H x H' → g x σ H' fun σ2 H2 => tb { D with nx := N, ct := N, bk := D.nx } σ2 H2) := by
  refine ⟨fun i m σ H => m = n - i ∧ i ≤ n ∧ Pv i σ H, ⟨n, by simp, Nat.zero_le _, h0⟩, ?_⟩
  rintro i m σ H ⟨rfl, hi, p⟩
  by_cases hlt : i < n
  · refine .inr ⟨hlt, Pv (i + 1), fun σ' H' p' => ⟨n - (i + 1), by omega, rfl, hlt, p'⟩, fun x H' y => ?_⟩
    obtain ⟨e, y⟩ := y
    subst e y
    exact hs i σ _ hlt p
  · have e : i = n := by omega
    subst e
    exact .inl ⟨Nat.le_refl _, hd σ H p⟩
/-- while, by a word and a measure of the state -/
theorem while_by {c : TT} {tb : TS} {D : Ends} {σ : St} {H : Hp} (Pv : St → Hp → Prop) (μ : St → Hp → Nat) (h0 : Pv σ H)
    (hs : ∀ σ H, Pv σ H → c σ H fun b H1 => if b = true then tb { D with nx := fun σ' H' => Pv σ' H' ∧ μ σ' H' < μ σ H, ct := fun σ' H' => Pv σ' H' ∧ μ σ' H' < μ σ H, bk := D.nx } σ H1 else D.nx σ H1)
    (mono : ∀ σ H Q Q', (∀ b H1, Q b H1 → Q' b H1) → c σ H Q → c σ H Q') : tWhile c tb D σ H := by
  refine ⟨fun m σ H => m = μ σ H ∧ Pv σ H, ⟨_, rfl, h0⟩, ?_⟩
  rintro m σ H ⟨rfl, p⟩
  refine mono σ H _ _ (fun b H1 q => ?_) (hs σ H p)
  cases b with
  | true => exact ⟨_, fun σ' H' ⟨p', l⟩ => ⟨_, l, rfl, p'⟩, q⟩
  | false => exact q
end L2

namespace L2
open PySem PySem.Spec PyProof.Rows

abbrev R2 := V → V → Hp → VK → Prop
/-- a two-place operation on values: f is binaryOp op, inplaceOp op or compareOp op -/
def OpR (X : Cx) (f : Value → Value → Sem Value) (r : R2) : Prop :=
  ∀ (pins : List (Addr × Obj)) (s : Shared) (σ : St) (H : Hp) (x y : V) (v u : Value) (Q : VK), Inv X pins σ H s → RelV x v → RelV y u → r x y H Q →
    wpAny (model X.prog X.w) X.A (f v u) (EP X pins σ Q) X.xe s
/-- a one-place operation -/
def UnR (X : Cx) (f : Value → Sem Value) (r : V → Hp → VK → Prop) : Prop :=
  ∀ (pins : List (Addr × Obj)) (s : Shared) (σ : St) (H : Hp) (x : V) (v : Value) (Q : VK), Inv X pins σ H s → RelV x v → r x H Q →
    wpAny (model X.prog X.w) X.A (f v) (EP X pins σ Q) X.xe s
/-- a call of a value that is known (a builtin, a type) with values -/
def CallR (X : Cx) (f : Value) (r : List V → Hp → VK → Prop) : Prop :=
  ∀ (pins : List (Addr × Obj)) (s : Shared) (σ : St) (H : Hp) (xs : List V) (us : List Value) (Q : VK), Inv X pins σ H s → Vals xs us → r xs H Q →
    wpAny (model X.prog X.w) X.A (call f us) (EP X pins σ Q) X.xe s
/-- a value's truth -/
def TruR (X : Cx) (r : V → Hp → (Bool → Hp → Prop) → Prop) : Prop :=
  ∀ (pins : List (Addr × Obj)) (s : Shared) (σ : St) (H : Hp) (x : V) (v : Value) (Q : Bool → Hp → Prop), Inv X pins σ H s → RelV x v → r x H Q →
    wpAny (model X.prog X.w) X.A (truthy v) (TP X pins σ Q) X.xe s

def tOp (r : R2) (ta tb : TE) : TE := fun σ H Q => ta σ H fun x H1 => tb σ H1 fun y H2 => r x y H2 Q
def tUn (r : V → Hp → VK → Prop) (ta : TE) : TE := fun σ H Q => ta σ H fun x H1 => r x H1 Q
/-- ints in, under C, and a value out -/
def rI (C : Int → Int → Prop) (g : Int → Int → V) : R2 := fun x y H Q => ∃ i j, x = .int i ∧ y = .int j ∧ C i j ∧ Q (g i j) H
def rI0 (g : Int → Int → V) : R2 := fun x y H Q => ∃ i j, x = .int i ∧ y = .int j ∧ Q (g i j) H
def rU (g : Int → V) : V → Hp → VK → Prop := fun x H Q => ∃ i, x = .int i ∧ Q (g i) H

section
variable {X : Cx} {a b c : Expr} {ta tb tc : TE} {pos : Pos}

theorem binT (ha : PE X a ta) (hb : PE X b tb) {pins : List (Addr × Obj)} {s : Shared} {σ : St} {H : Hp} {R : V → V → Hp → Prop} (I : Inv X pins σ H s)
    (h : ta σ H fun x H1 => tb σ H1 fun y H2 => R x y H2) {Q : Value → Shared → Prop} {f : Value → Value → Sem Value}
    (hf : ∀ v u s2 x y H2, Inv X pins σ H2 s2 → RelV x v → RelV y u → R x y H2 → wpAny (model X.prog X.w) X.A (f v u) Q X.xe s2) :
    wpAny (model X.prog X.w) X.A (eval a X.env) (fun v s₁ => wpAny (model X.prog X.w) X.A (eval b X.env) (fun u s₂ => wpAny (model X.prog X.w) X.A (f v u) Q X.xe s₂) X.xe s₁) X.xe s := by
  refine thn (ha pins s σ H _ I h) fun v s1 ⟨x, H1, I1, r1, q1⟩ => ?_
  refine thn (hb pins s1 σ H1 _ I1 q1) fun u s2 ⟨y, H2, I2, r2, q2⟩ => ?_
  exact hf v u s2 x y H2 I2 r1 r2 q2

theorem pe_op {op : Operator} {r : R2} (ho : OpR X (binaryOp op) r) (ha : PE X a ta) (hb : PE X b tb) : PE X (.BinOp a op b pos) (tOp r ta tb) := by
  intro pins s σ H Q I h
  exact wpAny_BinOp (binT ha hb I h fun v u s2 x y H2 I2 rx ry q => ho pins s2 σ H2 x y v u Q I2 rx ry q)
theorem pe_un {op : UnaryOp} {r : V → Hp → VK → Prop} (ho : UnR X (unaryOp op) r) (ha : PE X a ta) : PE X (.UnaryOp op a pos) (tUn r ta) := by
  intro pins s σ H Q I h
  exact UnaryOp_ (thn (ha pins s σ H _ I h) fun v s1 ⟨x, H1, I1, r1, q1⟩ => ho pins s1 σ H1 x v Q I1 r1 q1)
/-- a op= e at a name: the name's slot i -/
theorem augR {op : Operator} {r : R2} (ho : OpR X (inplaceOp op) r) {pins : List (Addr × Obj)} {s : Shared} {σ : St} {H : Hp} {x y : V} {v u : Value} {Q : VK} (I : Inv X pins σ H s)
    (rx : RelV x v) (ry : RelV y u) (q : r x y H Q) : wpAny (model X.prog X.w) X.A (inplaceOp op v u) (EP X pins σ Q) X.xe s := ho pins s σ H x y v u Q I rx ry q

/-! ### ints -/
theorem opI {f : Value → Value → Sem Value} {C : Int → Int → Prop} {g : Int → Int → Int}
    (rule : ∀ (i j : Int) (t u : Tok) (s : Shared) (Q : Value → Shared → Prop) (E : Value → Shared → Prop), C i j → Q (.int (g i j) s.toks) { s with toks := s.toks + 1 } → wpAny (model X.prog X.w) X.A (f (.int i t) (.int j u)) Q E s) :
    OpR X f (rI C fun i j => .int (g i j)) := by
  intro pins s σ H x y v u Q I rx ry h
  obtain ⟨i, j, rfl, rfl, hc, q⟩ := h
  obtain ⟨t, rfl⟩ := rx
  obtain ⟨t', rfl⟩ := ry
  exact rule i j t t' s _ _ hc ⟨.int (g i j), H, I.tok _, ⟨_, rfl⟩, q⟩
theorem opI0 {f : Value → Value → Sem Value} {g : Int → Int → Int}
    (rule : ∀ (i j : Int) (t u : Tok) (s : Shared) (Q : Value → Shared → Prop) (E : Value → Shared → Prop), Q (.int (g i j) s.toks) { s with toks := s.toks + 1 } → wpAny (model X.prog X.w) X.A (f (.int i t) (.int j u)) Q E s) :
    OpR X f (rI0 fun i j => .int (g i j)) := by
  intro pins s σ H x y v u Q I rx ry h
  obtain ⟨i, j, rfl, rfl, q⟩ := h
  obtain ⟨t, rfl⟩ := rx
  obtain ⟨t', rfl⟩ := ry
  exact rule i j t t' s _ _ ⟨.int (g i j), H, I.tok _, ⟨_, rfl⟩, q⟩
theorem opB0 {f : Value → Value → Sem Value} {g : Int → Int → Bool}
    (rule : ∀ (i j : Int) (t u : Tok) (s : Shared) (Q : Value → Shared → Prop) (E : Value → Shared → Prop), Q (.bool (g i j)) s → wpAny (model X.prog X.w) X.A (f (.int i t) (.int j u)) Q E s) :
    OpR X f (rI0 fun i j => .bl (g i j)) := by
  intro pins s σ H x y v u Q I rx ry h
  obtain ⟨i, j, rfl, rfl, q⟩ := h
  obtain ⟨t, rfl⟩ := rx
  obtain ⟨t', rfl⟩ := ry
  exact rule i j t t' s _ _ ⟨.bl (g i j), H, I, rfl, q⟩

def CDiv (i j : Int) : Prop := 0 < j ∧ j < 1073741824
def CDivN (i j : Int) : Prop := j ≠ 0 ∧ j.natAbs < 1073741824
def CPow (i j : Int) : Prop := 0 ≤ j ∧ j ≤ 1000000 ∧ i.natAbs < 2 ^ 64
def CMul (i j : Int) : Prop := (-(2 ^ 64) < i ∧ i < 2 ^ 64) ∨ (-(2 ^ 64) < j ∧ j < 2 ^ 64)
theorem CMul.ok {i j : Int} (h : CMul i j) : IntMulOk i j := by
  rcases h with ⟨h1, h2⟩ | ⟨h1, h2⟩
  · exact .of_left (intBits_le_64 h1 h2)
  · exact .of_right (intBits_le_64 h1 h2)
theorem two_pow_nn (k : Nat) : (0 : Int) ≤ 2 ^ k := by
  rw [two_pow_cast]
  exact Int.natCast_nonneg _

theorem op_add : OpR X (binaryOp .Add) (rI0 fun i j => .int (i + j)) := opI0 fun _ _ _ _ _ _ _ q => add_int q
theorem op_sub : OpR X (binaryOp .Sub) (rI0 fun i j => .int (i - j)) := opI0 fun _ _ _ _ _ _ _ q => sub_int q
theorem op_mul : OpR X (binaryOp .Mult) (rI CMul fun i j => .int (i * j)) := opI fun _ _ _ _ _ _ _ hc q => mul_int q hc.ok
/-- // by a positive divisor -/
theorem op_fdiv : OpR X (binaryOp .FloorDiv) (rI CDiv fun i j => .int (i / j)) := opI fun i j _ _ _ _ _ hc q => by
  have h1 : (0 : Int) < j := hc.1
  have h2 : j < 1073741824 := hc.2
  exact floordiv_int (by omega) (by rw [Int.fdiv_eq_ediv_of_nonneg i (by omega)]; exact q) (.inl (PyProof.noPylong_small (by omega)))
theorem op_fdivN : OpR X (binaryOp .FloorDiv) (rI CDivN fun i j => .int (i.fdiv j)) := opI fun _ _ _ _ _ _ _ hc q => floordiv_int hc.1 q (.inl (PyProof.noPylong_small hc.2))
/-- % by a positive divisor of any size -/
theorem op_mod : OpR X (binaryOp .Mod) (rI (fun _ j => 0 < j) fun i j => .int (i % j)) := opI fun i j _ _ _ _ _ hc q => by
  have h1 : (0 : Int) < j := hc
  exact mod_int' (by omega) (by rw [Int.fmod_eq_emod_of_nonneg i (by omega)]; exact q)
theorem op_modN : OpR X (binaryOp .Mod) (rI (fun _ j => j ≠ 0) fun i j => .int (i.fmod j)) := opI fun _ _ _ _ _ _ _ hc q => mod_int' hc q
theorem op_pow : OpR X (binaryOp .Pow) (rI CPow fun i j => .int (i ^ j.toNat)) := opI fun _ _ _ _ _ _ _ hc q => pow_int_small hc.1 hc.2.1 hc.2.2 q
theorem op_shl : OpR X (binaryOp .LShift) (rI CPow fun i j => .int (i * 2 ^ j.toNat)) := opI fun _ _ _ _ _ _ _ hc q => lshift_int_small hc.1 hc.2.1 hc.2.2 q
theorem op_shr : OpR X (binaryOp .RShift) (rI (fun _ j => 0 ≤ j) fun i j => .int (i / 2 ^ j.toNat)) := opI fun i j _ _ _ _ _ hc q =>
  rshift_int hc (by rw [Int.fdiv_eq_ediv_of_nonneg i (two_pow_nn _)]; exact q)
theorem op_and : OpR X (binaryOp .BitAnd) (rI0 fun i j => .int (Builtin.bitAnd i j)) := opI0 fun _ _ _ _ _ _ _ q => and_int q
theorem op_or : OpR X (binaryOp .BitOr) (rI0 fun i j => .int (Builtin.bitOr i j)) := opI0 fun _ _ _ _ _ _ _ q => or_int q
theorem op_xor : OpR X (binaryOp .BitXor) (rI0 fun i j => .int (Builtin.bitXor i j)) := opI0 fun _ _ _ _ _ _ _ q => xor_int q

theorem iop_add : OpR X (inplaceOp .Add) (rI0 fun i j => .int (i + j)) := opI0 fun _ _ _ _ _ _ _ q => iadd_int q
theorem iop_sub : OpR X (inplaceOp .Sub) (rI0 fun i j => .int (i - j)) := opI0 fun _ _ _ _ _ _ _ q => isub_int q
theorem iop_mul : OpR X (inplaceOp .Mult) (rI CMul fun i j => .int (i * j)) := opI fun _ _ _ _ _ _ _ hc q => imul_int q hc.ok
theorem iop_fdiv : OpR X (inplaceOp .FloorDiv) (rI CDiv fun i j => .int (i / j)) := opI fun i j _ _ _ _ _ hc q => by
  have h1 : (0 : Int) < j := hc.1
  have h2 : j < 1073741824 := hc.2
  exact ifloordiv_int (by omega) (by rw [Int.fdiv_eq_ediv_of_nonneg i (by omega)]; exact q) (.inl (PyProof.noPylong_small (by omega)))
theorem iop_mod : OpR X (inplaceOp .Mod) (rI (fun _ j => 0 < j) fun i j => .int (i % j)) := opI fun i j _ _ _ _ _ hc q => by
  have h1 : (0 : Int) < j := hc
  exact imod_int (by omega) (by rw [Int.fmod_eq_emod_of_nonneg i (by omega)]; exact q)
theorem iop_shl : OpR X (inplaceOp .LShift) (rI CPow fun i j => .int (i * 2 ^ j.toNat)) := opI fun _ _ _ _ _ _ _ hc q => ilshift_int_small hc.1 hc.2.1 hc.2.2 q
theorem iop_shr : OpR X (inplaceOp .RShift) (rI (fun _ j => 0 ≤ j) fun i j => .int (i / 2 ^ j.toNat)) := opI fun i j _ _ _ _ _ hc q =>
  irshift_int hc (by rw [Int.fdiv_eq_ediv_of_nonneg i (two_pow_nn _)]; exact q)
theorem iop_and : OpR X (inplaceOp .BitAnd) (rI0 fun i j => .int (Builtin.bitAnd i j)) := opI0 fun _ _ _ _ _ _ _ q => iand_int q
theorem iop_or : OpR X (inplaceOp .BitOr) (rI0 fun i j => .int (Builtin.bitOr i j)) := opI0 fun _ _ _ _ _ _ _ q => ior_int q
theorem iop_xor : OpR X (inplaceOp .BitXor) (rI0 fun i j => .int (Builtin.bitXor i j)) := opI0 fun _ _ _ _ _ _ _ q => ixor_int q

theorem unI {f : Value → Sem Value} {g : Int → Int}
    (rule : ∀ (i : Int) (t : Tok) (s : Shared) (Q : Value → Shared → Prop) (E : Value → Shared → Prop), Q (.int (g i) s.toks) { s with toks := s.toks + 1 } → wpAny (model X.prog X.w) X.A (f (.int i t)) Q E s) :
    UnR X f (rU fun i => .int (g i)) := by
  intro pins s σ H x v Q I rx h
  obtain ⟨i, rfl, q⟩ := h
  obtain ⟨t, rfl⟩ := rx
  exact rule i t s _ _ ⟨.int (g i), H, I.tok _, ⟨_, rfl⟩, q⟩
theorem un_neg : UnR X (unaryOp .USub) (rU fun i => .int (-i)) := unI fun _ _ _ _ _ q => neg_int q
theorem un_inv : UnR X (unaryOp .Invert) (rU fun i => .int (Builtin.bitNot i)) := unI fun _ _ _ _ _ q => invert_int q

/-! ### bools among ints: n += (a < b) -/
theorem op_add_ib : OpR X (binaryOp .Add) (fun x y H Q => ∃ i k, x = .int i ∧ y = .bl k ∧ Q (.int (i + b2i k)) H) := by
  intro pins s σ H x y v u Q I rx ry h
  obtain ⟨i, k, rfl, rfl, q⟩ := h
  obtain ⟨t, rfl⟩ := rx
  cases ry
  exact add_int_bool ⟨.int (i + b2i k), H, I.tok _, ⟨_, rfl⟩, q⟩
end

/-! ### comparisons -/
/-- the scalars that == tells apart as data does -/
def scal : V → V → Bool
  | .non, .non => true | .non, .int _ => true | .int _, .non => true | .non, .bl _ => true | .bl _, .non => true | .non, .str _ => true | .str _, .non => true
  | .int _, .int _ => true | .bl _, .bl _ => true | .str _, .str _ => true | .byt _, .byt _ => true
  | .int _, .str _ => true | .str _, .int _ => true | .bl _, .str _ => true | .str _, .bl _ => true
  | _, _ => false
def rEq : R2 := fun x y H Q => scal x y = true ∧ Q (.bl (decide (x = y))) H
def rNe : R2 := fun x y H Q => scal x y = true ∧ Q (.bl (!decide (x = y))) H

theorem dec_int {i j : Int} : decide (V.int i = V.int j) = (i == j) := by
  rw [Bool.eq_iff_iff]
  simp
theorem dec_bl {i j : Bool} : decide (V.bl i = V.bl j) = (i == j) := by
  rw [Bool.eq_iff_iff]
  simp
theorem dec_str {i j : Str} : decide (V.str i = V.str j) = (i == j) := by
  rw [Bool.eq_iff_iff]
  simp
theorem dec_byt {i j : Array UInt8} : decide (V.byt i = V.byt j) = (i.toList == j.toList) := by
  rw [Bool.eq_iff_iff]
  cases i
  cases j
  simp

section
variable {X : Cx} {a b c : Expr} {ta tb tc : TE} {pos : Pos}
theorem fin_bl {pins : List (Addr × Obj)} {σ : St} {H : Hp} {s : Shared} {Q : VK} {k k' : Bool} (I : Inv X pins σ H s) (q : Q (.bl k) H) (e : k = k') : EP X pins σ Q (.bool k') s := by
  subst e
  exact ⟨.bl k, H, I, rfl, q⟩
theorem op_eq : OpR X (compareOp .Eq) rEq := by
  intro pins s σ H x y v u Q I rx ry h
  obtain ⟨hs, q⟩ := h
  cases x with
  | non =>
    cases rx
    cases y with
    | non => cases ry; exact PySem.EqNone.eq_none_none (fin_bl I q (by simp))
    | bl j => cases ry; exact PySem.EqNone.eq_none_bool (fin_bl I q (by simp))
    | int j => obtain ⟨t', rfl⟩ := ry; exact PySem.EqNone.eq_none_int (fin_bl I q (by simp))
    | str j => obtain ⟨t', rfl⟩ := ry; exact PySem.EqNone.eq_none_str (fin_bl I q (by simp))
    | _ => exact absurd (show false = true from hs) Bool.false_ne_true
  | bl i =>
    cases rx
    cases y with
    | non => cases ry; exact PySem.EqNone.eq_bool_none (fin_bl I q (by simp))
    | bl j => cases ry; exact eq_bool (fin_bl I q dec_bl)
    | str j => obtain ⟨t', rfl⟩ := ry; exact PySem.EqMixed.eq_bool_str (fin_bl I q (by simp))
    | _ => exact absurd (show false = true from hs) Bool.false_ne_true
  | int i =>
    obtain ⟨t, rfl⟩ := rx
    cases y with
    | non => cases ry; exact PySem.EqNone.eq_int_none (fin_bl I q (by simp))
    | int j => obtain ⟨t', rfl⟩ := ry; exact eq_int (fin_bl I q dec_int)
    | str j => obtain ⟨t', rfl⟩ := ry; exact PySem.EqMixed.eq_int_str (fin_bl I q (by simp))
    | _ => exact absurd (show false = true from hs) Bool.false_ne_true
  | str i =>
    obtain ⟨t, rfl⟩ := rx
    cases y with
    | non => cases ry; exact PySem.EqNone.eq_str_none (fin_bl I q (by simp))
    | bl j => cases ry; exact PySem.EqMixed.eq_str_bool (fin_bl I q (by simp))
    | int j => obtain ⟨t', rfl⟩ := ry; exact PySem.EqMixed.eq_str_int (fin_bl I q (by simp))
    | str j => obtain ⟨t', rfl⟩ := ry; exact eq_str (fin_bl I q dec_str)
    | _ => exact absurd (show false = true from hs) Bool.false_ne_true
  | byt i =>
    obtain ⟨t, rfl⟩ := rx
    cases y with
    | byt j => obtain ⟨t', rfl⟩ := ry; exact PySem.W.eq_bytes (fin_bl I q dec_byt)
    | _ => exact absurd (show false = true from hs) Bool.false_ne_true
  | _ => cases y <;> exact absurd (show false = true from hs) Bool.false_ne_true
theorem op_ne : OpR X (compareOp .NotEq) rNe := by
  intro pins s σ H x y v u Q I rx ry h
  obtain ⟨hs, q⟩ := h
  cases x with
  | non =>
    cases rx
    cases y with
    | non => cases ry; exact PySem.EqNone.ne_none_none (fin_bl I q (by simp))
    | bl j => cases ry; exact PySem.EqNone.ne_none_bool (fin_bl I q (by simp))
    | int j => obtain ⟨t', rfl⟩ := ry; exact PySem.EqNone.ne_none_int (fin_bl I q (by simp))
    | str j => obtain ⟨t', rfl⟩ := ry; exact PySem.EqNone.ne_none_str (fin_bl I q (by simp))
    | _ => exact absurd (show false = true from hs) Bool.false_ne_true
  | bl i =>
    cases rx
    cases y with
    | non => cases ry; exact PySem.EqNone.ne_bool_none (fin_bl I q (by simp))
    | bl j => cases ry; exact ne_bool (fin_bl I q (congrArg not dec_bl))
    | str j => obtain ⟨t', rfl⟩ := ry; exact PySem.EqMixed.ne_bool_str (fin_bl I q (by simp))
    | _ => exact absurd (show false = true from hs) Bool.false_ne_true
  | int i =>
    obtain ⟨t, rfl⟩ := rx
    cases y with
    | non => cases ry; exact PySem.EqNone.ne_int_none (fin_bl I q (by simp))
    | int j => obtain ⟨t', rfl⟩ := ry; exact ne_int (fin_bl I q (congrArg not dec_int))
    | str j => obtain ⟨t', rfl⟩ := ry; exact PySem.EqMixed.ne_int_str (fin_bl I q (by simp))
    | _ => exact absurd (show false = true from hs) Bool.false_ne_true
  | str i =>
    obtain ⟨t, rfl⟩ := rx
    cases y with
    | non => cases ry; exact PySem.EqNone.ne_str_none (fin_bl I q (by simp))
    | bl j => cases ry; exact PySem.EqMixed.ne_str_bool (fin_bl I q (by simp))
    | int j => obtain ⟨t', rfl⟩ := ry; exact PySem.EqMixed.ne_str_int (fin_bl I q (by simp))
    | str j => obtain ⟨t', rfl⟩ := ry; exact ne_str (fin_bl I q (congrArg not dec_str))
    | _ => exact absurd (show false = true from hs) Bool.false_ne_true
  | byt i =>
    obtain ⟨t, rfl⟩ := rx
    cases y with
    | byt j => obtain ⟨t', rfl⟩ := ry; exact PySem.W.ne_bytes (fin_bl I q (congrArg not dec_byt))
    | _ => exact absurd (show false = true from hs) Bool.false_ne_true
  | _ => cases y <;> exact absurd (show false = true from hs) Bool.false_ne_true

theorem op_lt : OpR X (compareOp .Lt) (rI0 fun i j => .bl (decide (i < j))) := opB0 fun _ _ _ _ _ _ _ q => lt_int q
theorem op_le : OpR X (compareOp .LtE) (rI0 fun i j => .bl (decide (i ≤ j))) := opB0 fun _ _ _ _ _ _ _ q => le_int q
theorem op_gt : OpR X (compareOp .Gt) (rI0 fun i j => .bl (decide (j < i))) := opB0 fun _ _ _ _ _ _ _ q => gt_int q
theorem op_ge : OpR X (compareOp .GtE) (rI0 fun i j => .bl (decide (j ≤ i))) := opB0 fun _ _ _ _ _ _ _ q => ge_int q
theorem op_lt_str : OpR X (compareOp .Lt) (fun x y H Q => ∃ i j, x = .str i ∧ y = .str j ∧ Q (.bl (decide (i.cps.toList < j.cps.toList))) H) := by
  intro pins s σ H x y v u Q I rx ry h
  obtain ⟨i, j, rfl, rfl, q⟩ := h
  obtain ⟨t, rfl⟩ := rx
  obtain ⟨t', rfl⟩ := ry
  exact lt_str (fin_bl I q rfl)
/-- the one string within the other -/
theorem op_in_str : OpR X (compareOp .In) (fun x y H Q => ∃ i j, x = .str i ∧ y = .str j ∧ Q (.bl (!(Builtin.Str.occurrences j i 0 j.length 1).isEmpty)) H) := by
  intro pins s σ H x y v u Q I rx ry h
  obtain ⟨i, j, rfl, rfl, q⟩ := h
  obtain ⟨t, rfl⟩ := rx
  obtain ⟨t', rfl⟩ := ry
  exact in_str (fin_bl I q rfl)

/-- is None, is not None: the right side a value none -/
theorem op_isN : OpR X (compareOp .Is) (fun x y H Q => y = .non ∧ Q (.bl (decide (x = .non))) H) := by
  intro pins s σ H x y v u Q I rx ry h
  obtain ⟨rfl, q⟩ := h
  cases ry
  refine is_none_gen (fin_bl I q ?_)
  cases x <;> first
    | (cases rx; rfl)
    | (obtain ⟨t, rfl⟩ := rx; rfl)
theorem op_notN : OpR X (compareOp .IsNot) (fun x y H Q => y = .non ∧ Q (.bl (!decide (x = .non))) H) := by
  intro pins s σ H x y v u Q I rx ry h
  obtain ⟨rfl, q⟩ := h
  cases ry
  refine isnot_none_gen (fin_bl I q ?_)
  cases x <;> first
    | (cases rx; rfl)
    | (obtain ⟨t, rfl⟩ := rx; rfl)

theorem op_notin_str : OpR X (compareOp .NotIn) (fun x y H Q => ∃ i j, x = .str i ∧ y = .str j ∧ Q (.bl (!(!(Builtin.Str.occurrences j i 0 j.length 1).isEmpty))) H) := by
  intro pins s σ H x y v u Q I rx ry h
  obtain ⟨i, j, rfl, rfl, q⟩ := h
  obtain ⟨t, rfl⟩ := rx
  obtain ⟨t', rfl⟩ := ry
  exact notIn_str (fin_bl I q rfl)
/-- is, is not of two objects that are tracked lists or instances -/
def isObj : HO → Bool
  | .lst _ => true
  | .ins _ _ _ => true
  | _ => false
theorem obj_there {pins : List (Addr × Obj)} {s : Shared} {σ : St} {H : Hp} {a : Addr} {o : HO} (I : Inv X pins σ H s) (h : H a = some o) (p : isObj o = true) : ∃ ob, s.heap.get? a = some ob ∧ ob.cls ≠ .type "tuple" := by
  cases o with
  | lst xs =>
    obtain ⟨_, its, n, _, e⟩ : xs.length ≤ sizeLine ∧ ∃ (its : List Value) (n : Nat), Vals xs its ∧ s.heap.get? a = some { cls := .type "list", data := .seq its.toArray n } := I.hok a _ h
    exact ⟨_, e, (by show Value.type "list" ≠ .type "tuple"; decide +kernel)⟩
  | ins C dx fs =>
    have x := I.hok a _ h
    obtain ⟨_, _, _, e, _⟩ := x
    exact ⟨_, e, (by show Value.ref C ≠ .type "tuple"; exact fun z => by cases z)⟩
  | _ => exact absurd (show false = true from p) Bool.false_ne_true
theorem op_is_ref : OpR X (compareOp .Is) (fun x y H Q => ∃ a b oa ob, x = .ref a ∧ y = .ref b ∧ H a = some oa ∧ isObj oa = true ∧ H b = some ob ∧ isObj ob = true ∧ Q (.bl (decide (a = b))) H) := by
  intro pins s σ H x y v u Q I rx ry h
  obtain ⟨a, b, oa, ob, rfl, rfl, ha, pa, hb, pb, q⟩ := h
  cases rx
  cases ry
  obtain ⟨o1, e1, n1⟩ := obj_there I ha pa
  obtain ⟨o2, e2, _⟩ := obj_there I hb pb
  by_cases z : a = b
  · subst z
    exact wpAny_is_ref_self (fin_bl I q (by simp))
  · exact wpAny_is_ref_other z e1 e2 n1 (fin_bl I q (by simp [z]))
theorem op_isnot_ref : OpR X (compareOp .IsNot) (fun x y H Q => ∃ a b oa ob, x = .ref a ∧ y = .ref b ∧ H a = some oa ∧ isObj oa = true ∧ H b = some ob ∧ isObj ob = true ∧ Q (.bl (!decide (a = b))) H) := by
  intro pins s σ H x y v u Q I rx ry h
  obtain ⟨a, b, oa, ob, rfl, rfl, ha, pa, hb, pb, q⟩ := h
  cases rx
  cases ry
  obtain ⟨o1, e1, n1⟩ := obj_there I ha pa
  obtain ⟨o2, e2, _⟩ := obj_there I hb pb
  by_cases z : a = b
  · subst z
    exact wpAny_isNot_ref_self (fin_bl I q (by simp))
  · exact wpAny_isNot_ref_other z e1 e2 n1 (fin_bl I q (by simp [z]))

/-- two rules for one operation: by cases -/
theorem OpR.or {f : Value → Value → Sem Value} {r r' : R2} (h : OpR X f r) (h' : OpR X f r') : OpR X f (fun x y H Q => r x y H Q ∨ r' x y H Q) := by
  intro pins s σ H x y v u Q I rx ry q
  rcases q with q | q
  · exact h pins s σ H x y v u Q I rx ry q
  · exact h' pins s σ H x y v u Q I rx ry q

theorem nomark (b : Expr) {op : CmpOp} (h : op ≠ .In := by decide) (h2 : op ≠ .NotIn := by decide) : behindInMarks op b = false := by
  have e1 : (op == CmpOp.In) = false := by cases op <;> first | rfl | exact absurd rfl h
  have e2 : (op == CmpOp.NotIn) = false := by cases op <;> first | rfl | exact absurd rfl h2
  cases b <;> simp [behindInMarks, e1, e2]
/-- a comparison as a value; hm: nomark b, or (for in, not in) by with_unfolding_all rfl -/
theorem pe_cmpR {op : CmpOp} {r : R2} (ho : OpR X (compareOp op) r) (ha : PE X a ta) (hb : PE X b tb) (hm : behindInMarks op b = false) : PE X (.Compare a [op] [b] pos) (tOp r ta tb) := by
  intro pins s σ H Q I h
  exact wpAny_Compare1 (binT ha hb I h fun v u s2 x y H2 I2 rx ry q => ho pins s2 σ H2 x y v u Q I2 rx ry q) hm
/-- a reading of a value as a test -/
def tTest (t : TE) : TT := fun σ H Q => t σ H fun x H' => ∃ k, x = .bl k ∧ Q k H'
theorem pt_cmpR {op : CmpOp} {r : R2} (ho : OpR X (compareOp op) r) (ha : PE X a ta) (hb : PE X b tb) (hm : behindInMarks op b = false) : PT X (.Compare a [op] [b] pos) (tTest (tOp r ta tb)) := by
  intro pins s σ H Q I h
  refine wpAny_isTrue_Compare1 (thn (ha pins s σ H _ I h) fun v s1 ⟨x, H1, I1, r1, q1⟩ => thn (hb pins s1 σ H1 _ I1 q1) fun u s2 ⟨y, H2, I2, r2, q2⟩ =>
    thn (ho pins s2 σ H2 x y v u _ I2 r1 r2 q2) fun c s3 ⟨z, H3, I3, r3, k, e, q3⟩ => ?_) hm
  subst e
  cases r3
  exact wpAny_truthy_bool ⟨H3, I3, q3⟩
/-- a op1 b op2 c -/
def tChain (r r' : R2) (ta tb tc : TE) : TE := fun σ H Q => ta σ H fun x H1 => tb σ H1 fun y H2 => r x y H2 fun z H3 => ∃ k, z = .bl k ∧
  (if k = true then tc σ H3 fun w' H4 => r' y w' H4 Q else Q (.bl false) H3)
theorem pe_chain {op op' : CmpOp} {r r' : R2} (ho : OpR X (compareOp op) r) (ho' : OpR X (compareOp op') r') (ha : PE X a ta) (hb : PE X b tb) (hc : PE X c tc)
    (hm : lastMarks [op, op'] [b, c] = false := by with_unfolding_all rfl) : PE X (.Compare a [op, op'] [b, c] pos) (tChain r r' ta tb tc) := by
  intro pins s σ H Q I h
  refine Compare_chain (thn (ha pins s σ H _ I h) fun v s1 ⟨x, H1, I1, r1, q1⟩ => chain_link (thn (hb pins s1 σ H1 _ I1 q1) fun u s2 ⟨y, H2, I2, r2, q2⟩ =>
    thn (ho pins s2 σ H2 x y v u _ I2 r1 r2 q2) fun d s3 ⟨z, H3, I3, r3, k, e, q3⟩ => ?_)) hm
  subst e
  cases r3
  refine wpAny_truthy_bool ?_
  cases k with
  | false => exact ite_ff ⟨.bl false, H3, I3, rfl, q3⟩
  | true => exact ite_tt (chain_last (thn (hc pins s3 σ H3 _ I3 q3) fun w' s4 ⟨z', H4, I4, r4, q4⟩ => ho' pins s4 σ H4 y z' u w' Q I4 r2 r4 q4))
theorem pt_chain {op op' : CmpOp} {r r' : R2} (ho : OpR X (compareOp op) r) (ho' : OpR X (compareOp op') r') (ha : PE X a ta) (hb : PE X b tb) (hc : PE X c tc)
    (hm : lastMarks [op, op'] [b, c] = false := by with_unfolding_all rfl) : PT X (.Compare a [op, op'] [b, c] pos) (tTest (tChain r r' ta tb tc)) := by
  intro pins s σ H Q I h
  refine isTrue_chain (thn (ha pins s σ H _ I h) fun v s1 ⟨x, H1, I1, r1, q1⟩ => test_link (thn (hb pins s1 σ H1 _ I1 q1) fun u s2 ⟨y, H2, I2, r2, q2⟩ =>
    thn (ho pins s2 σ H2 x y v u _ I2 r1 r2 q2) fun d s3 ⟨z, H3, I3, r3, k, e, q3⟩ => ?_)) hm
  subst e
  cases r3
  refine wpAny_truthy_bool ?_
  cases k with
  | false =>
    obtain ⟨k', e', q'⟩ := q3
    cases e'
    exact ite_ff ⟨H3, I3, q'⟩
  | true =>
    refine ite_tt (test_last (thn (hc pins s3 σ H3 _ I3 q3) fun w' s4 ⟨z', H4, I4, r4, q4⟩ => thn (ho' pins s4 σ H4 y z' u w' _ I4 r2 r4 q4) fun d' s5 ⟨z2, H5, I5, r5, k2, e2, q5⟩ => ?_))
    subst e2
    cases r5
    exact wpAny_truthy_bool ⟨H5, I5, q5⟩

/-! ### truth -/
/-- a value's truth by the abstract heap -/
def TruV (K : PySem.W.Frag) (x : V) (H : Hp) (k : Bool) : Prop :=
  match x with
  | .non => k = false
  | .bl b => k = b
  | .int i => k = (i != 0)
  | .str y => y.length ≤ sizeLine ∧ k = ((y.length : Int) != 0)
  | .byt y => y.size ≤ sizeLine ∧ k = ((y.size : Int) != 0)
  | .ref p => (∃ xs, SqL K H p xs ∧ k = !xs.isEmpty) ∨ (∃ xs, SqT K H p xs ∧ k = !xs.isEmpty) ∨ ∃ kvs, H p = some (.dK kvs) ∧ k = !kvs.isEmpty
  | _ => False
theorem isEmpty_kv {κ : Type} {kvs : List (κ × V)} {vs : List (κ × Value)} (r : KV kvs vs) : (!vs.isEmpty) = !kvs.isEmpty := by
  cases r <;> rfl
theorem isEmpty_of {xs : List V} {its : List Value} (r : Vals xs its) : (!its.toArray.isEmpty) = !xs.isEmpty := by
  cases r <;> simp
theorem line63 : (sizeLine : Nat) < 2 ^ 63 := by rw [sizeLine_eq]; decide
theorem tru_ok : TruR X (fun x H Q => ∃ k, TruV X.K x H k ∧ Q k H) := by
  intro pins s σ H x v Q I rx h
  obtain ⟨k, e, q⟩ := h
  have hl := line63
  have hs : sizeLine = 16777216 := sizeLine_eq
  cases x with
  | non =>
    cases rx
    have e' : k = false := e
    subst e'
    exact truthy_none ⟨H, I, q⟩
  | bl b =>
    cases rx
    have e' : k = b := e
    subst e'
    exact wpAny_truthy_bool ⟨H, I, q⟩
  | int i =>
    obtain ⟨t, rfl⟩ := rx
    have e' : k = (i != 0) := e
    subst e'
    exact PySem.P.truthy_int ⟨H, I, q⟩
  | str y =>
    obtain ⟨t, rfl⟩ := rx
    obtain ⟨hy, e'⟩ : y.length ≤ sizeLine ∧ k = ((y.length : Int) != 0) := e
    subst e'
    exact PySem.P.truthy_str (by omega) ⟨H, I.tok _, q⟩
  | byt y =>
    obtain ⟨t, rfl⟩ := rx
    obtain ⟨hy, e'⟩ : y.size ≤ sizeLine ∧ k = ((y.size : Int) != 0) := e
    subst e'
    exact PySem.W.truthy_bytes (by omega) ⟨H, I.tok _, q⟩
  | ref p =>
    cases rx
    have e' : (∃ xs, SqL X.K H p xs ∧ k = !xs.isEmpty) ∨ (∃ xs, SqT X.K H p xs ∧ k = !xs.isEmpty) ∨ ∃ kvs, H p = some (.dK kvs) ∧ k = !kvs.isEmpty := e
    rcases e' with ⟨xs, hx, e'⟩ | ⟨xs, hx, e'⟩ | ⟨kvs, hx, e'⟩
    · subst e'
      obtain ⟨its, r, pl, hz⟩ := I.list hx
      have hlen := r.length
      exact wpAny_truthy_list pl.isList (by simp only [List.size_toArray]; omega) ⟨H, I.tok _, by rw [isEmpty_of r]; exact q⟩
    · subst e'
      obtain ⟨its, r, pl, hz⟩ := I.tuple hx
      have hlen := r.length
      exact truthy_tuple pl (by simp only [List.size_toArray]; omega) ⟨H, I.tok _, by rw [isEmpty_of r]; exact q⟩
    · subst e'
      obtain ⟨hz, hS, vs, r, m⟩ : kvs.length ≤ sizeLine ∧ (p == sysModules) = false ∧ ∃ vs, KV kvs vs ∧ s.heap.DictOf (mixKind X.prog X.w) p vs := I.hok p _ hx
      have hlen : kvs.length = vs.length := Paired.length r
      exact wpAny_truthy_dict hS m (by omega) ⟨H, I.tok _, by rw [isEmpty_kv r]; exact q⟩
  | _ => exact (show False from e).elim
/-- any expression whose test is its value's truth (a name, a call, a subscript, a field ..: he by fun _ => rfl) -/
theorem pt_truth (ha : PE X a ta) (he : ∀ whole, isTrue a X.env whole = (do let v ← whole; standAt a.pos; holding [v] (truthy v))) :
    PT X a (fun σ H Q => ta σ H fun x H' => ∃ k, TruV X.K x H' k ∧ Q k H') := by
  intro pins s σ H Q I h
  exact isTrue_plain (thn (ha pins s σ H _ I h) fun v s1 ⟨x, H1, I1, r1, q1⟩ => tru_ok pins s1 σ H1 x v Q I1 r1 q1) (he _)

/-! ### strs and bytes -/
theorem pe_byt {x : List UInt8} {k : Nat} : PE X (.Constant (.bytes x) k pos) (fun _ H Q => Q (.byt x.toArray) H) := fun _ _ _ H _ I h => PySem.W.Constant_bytes ⟨.byt x.toArray, H, I.tok _, ⟨_, rfl⟩, h⟩
theorem op_add_str : OpR X (binaryOp .Add) (fun x y H Q => ∃ i j, x = .str i ∧ y = .str j ∧ i.length + j.length ≤ sizeLine ∧ Q (.str (i ++ j)) H) := by
  intro pins s σ H x y v u Q I rx ry h
  obtain ⟨i, j, rfl, rfl, hz, q⟩ := h
  obtain ⟨t, rfl⟩ := rx
  obtain ⟨t', rfl⟩ := ry
  exact add_str (fun t' tk => ⟨.str (i ++ j), H, I.tok _, ⟨_, rfl⟩, q⟩) hz
theorem iop_add_str : OpR X (inplaceOp .Add) (fun x y H Q => ∃ i j, x = .str i ∧ y = .str j ∧ i.length + j.length ≤ sizeLine ∧ Q (.str (i ++ j)) H) := by
  intro pins s σ H x y v u Q I rx ry h
  obtain ⟨i, j, rfl, rfl, hz, q⟩ := h
  obtain ⟨t, rfl⟩ := rx
  obtain ⟨t', rfl⟩ := ry
  exact iadd_str (fun t' tk => ⟨.str (i ++ j), H, I.tok _, ⟨_, rfl⟩, q⟩) hz
theorem op_add_byt : OpR X (binaryOp .Add) (fun x y H Q => ∃ i j, x = .byt i ∧ y = .byt j ∧ i.size + j.size ≤ 16777216 ∧ Q (.byt (i ++ j)) H) := by
  intro pins s σ H x y v u Q I rx ry h
  obtain ⟨i, j, rfl, rfl, hz, q⟩ := h
  obtain ⟨t, rfl⟩ := rx
  obtain ⟨t', rfl⟩ := ry
  exact PySem.W.KBy.add_bytes hz (fun t' tk => ⟨.byt (i ++ j), H, I.tok _, ⟨_, rfl⟩, q⟩)

def PlainIxT (b : Expr) : Prop := ∀ o i, subscripted b false o i = operate [o, i] (getItem o i)
/-- s[i], 0 ≤ i < len -/
theorem pe_item_str (ha : PE X a ta) (hb : PE X b tb) (hs : PlainIxT b) :
    PE X (.Subscript a b pos) (tOp (fun x y H Q => ∃ z i c, x = .str z ∧ y = .int i ∧ 0 ≤ i ∧ i < 2 ^ 63 ∧ i < z.length ∧ z.cps[i.toNat]? = some c ∧ Q (.str ⟨#[c]⟩) H) ta tb) := by
  intro pins s σ H Q I h
  refine Subscript_ (binT ha hb I h fun v u s2 x y H2 I2 rx ry q => ?_)
  obtain ⟨z, i, c, rfl, rfl, h0, h63, h1, hc, q⟩ := q
  obtain ⟨t, rfl⟩ := rx
  obtain ⟨t', rfl⟩ := ry
  have e : seqIndex? i z.length = some i.toNat := PySem.StrLaws.seqIndex_nonneg h0 h1
  exact tail_any (typeIs_str s2 z t) slot_str_getitem.lookup (getItem_str (c := c) (by
    have e1 : decide (i < -(2 ^ 63 : Int)) = false := decide_eq_false (by omega)
    have e2 : decide (i ≥ 2 ^ 63) = false := decide_eq_false (by omega)
    rw [e1, e2] <;> rfl) (by rw [e]; exact hc) ⟨.str ⟨#[c]⟩, H2, I2.tok _, ⟨_, rfl⟩, q⟩) (hs _ _)
/-- b[i], 0 ≤ i < len -/
theorem pe_item_byt (ha : PE X a ta) (hb : PE X b tb) (hs : PlainIxT b) :
    PE X (.Subscript a b pos) (tOp (fun x y H Q => ∃ (z : List UInt8) (i : Int), x = .byt z.toArray ∧ y = .int i ∧ z.length ≤ sizeLine ∧ 0 ≤ i ∧ i < z.length ∧ Q (.int ((z.getD i.toNat 0).toNat : Nat)) H) ta tb) := by
  intro pins s σ H Q I h
  refine Subscript_ (binT ha hb I h fun v u s2 x y H2 I2 rx ry q => ?_)
  obtain ⟨z, i, rfl, rfl, hz, h0, h1, q⟩ := q
  obtain ⟨t, rfl⟩ := rx
  obtain ⟨t', rfl⟩ := ry
  have hl : sizeLine = 16777216 := sizeLine_eq
  exact tail_any (PySem.W.typeIs_bytes s2 z.toArray t) PySem.W.FB.slot_bytes_getitem.lookup (PySem.W.getItem_bytes (by omega) h0 h1 ⟨.int ((z.getD i.toNat 0).toNat : Nat), H2, I2.tok _, ⟨_, rfl⟩, q⟩) (hs _ _)

/-! ### scalar builtins, by CallR -/
theorem vals1 {x : V} {us : List Value} (r : Vals [x] us) : ∃ u, us = [u] ∧ RelV x u := by
  cases r with
  | cons r1 r2 => cases r2; exact ⟨_, rfl, r1⟩
theorem vals2 {x y : V} {us : List Value} (r : Vals [x, y] us) : ∃ u w', us = [u, w'] ∧ RelV x u ∧ RelV y w' := by
  cases r with
  | cons r1 r2 =>
    cases r2 with
    | cons r3 r4 => cases r4; exact ⟨_, _, rfl, r1, r3⟩
theorem call_abs : CallR X (.builtin "abs") (fun xs H Q => ∃ i, xs = [.int i] ∧ Q (.int (if i < 0 then -i else i)) H) := by
  intro pins s σ H xs us Q I r h
  obtain ⟨i, rfl, q⟩ := h
  obtain ⟨u, rfl, t, rfl⟩ := vals1 r
  exact call_abs_int fun u tk => ⟨.int (if i < 0 then -i else i), H, I.tok _, ⟨_, rfl⟩, q⟩
theorem call_max2 (hc : X.calm = true) : CallR X (.builtin "max") (fun xs H Q => ∃ i j, xs = [.int i, .int j] ∧ Q (.int (if j > i then j else i)) H) := by
  intro pins s σ H xs us Q I r h
  obtain ⟨i, j, rfl, q⟩ := h
  obtain ⟨u, w', rfl, ⟨t, rfl⟩, ⟨t', rfl⟩⟩ := vals2 r
  refine max_two_ints (I.ok.hd hc) fun h' tk k => ⟨_, H, I.kept k, ?_, q⟩
  by_cases hj : j > i
  · rw [if_pos hj, if_pos hj]; exact ⟨_, rfl⟩
  · rw [if_neg hj, if_neg hj]; exact ⟨_, rfl⟩
theorem call_min2 (hc : X.calm = true) : CallR X (.builtin "min") (fun xs H Q => ∃ i j, xs = [.int i, .int j] ∧ Q (.int (if j < i then j else i)) H) := by
  intro pins s σ H xs us Q I r h
  obtain ⟨i, j, rfl, q⟩ := h
  obtain ⟨u, w', rfl, ⟨t, rfl⟩, ⟨t', rfl⟩⟩ := vals2 r
  refine min_two_ints (I.ok.hd hc) fun h' tk k => ⟨_, H, I.kept k, ?_, q⟩
  by_cases hj : j < i
  · rw [if_pos hj, if_pos hj]; exact ⟨_, rfl⟩
  · rw [if_neg hj, if_neg hj]; exact ⟨_, rfl⟩
theorem call_int1 : CallR X (.type "int") (fun xs H Q => (∃ i, xs = [.int i] ∧ Q (.int i) H) ∨ ∃ k, xs = [.bl k] ∧ Q (.int (if k then 1 else 0)) H) := by
  intro pins s σ H xs us Q I r h
  rcases h with ⟨i, rfl, q⟩ | ⟨k, rfl, q⟩
  · obtain ⟨u, rfl, t, rfl⟩ := vals1 r
    exact call_int_int ⟨.int i, H, I, ⟨_, rfl⟩, q⟩
  · obtain ⟨u, rfl, r1⟩ := vals1 r
    cases r1
    exact call_int_bool ⟨.int (if k then 1 else 0), H, I.tok _, ⟨_, rfl⟩, q⟩
theorem call_bool1 : CallR X (.type "bool") (fun xs H Q => (∃ i, xs = [.int i] ∧ Q (.bl (i != 0)) H) ∨ ∃ k, xs = [.bl k] ∧ Q (.bl k) H) := by
  intro pins s σ H xs us Q I r h
  rcases h with ⟨i, rfl, q⟩ | ⟨k, rfl, q⟩
  · obtain ⟨u, rfl, t, rfl⟩ := vals1 r
    exact call_bool_int ⟨.bl (i != 0), H, I, rfl, q⟩
  · obtain ⟨u, rfl, r1⟩ := vals1 r
    cases r1
    exact call_bool_bool ⟨.bl k, H, I, rfl, q⟩
theorem call_str_int : CallR X (.type "str") (fun xs H Q => ∃ i, xs = [.int i] ∧ i.natAbs.log2 < 1920 ∧ Q (.str (toString i)) H) := by
  intro pins s σ H xs us Q I r h
  obtain ⟨i, rfl, hz, q⟩ := h
  obtain ⟨u, rfl, t, rfl⟩ := vals1 r
  exact PySem.P.str_of_int hz ⟨.str _, H, I.tok _, ⟨_, rfl⟩, q⟩
theorem call_ord : CallR X (.builtin "ord") (fun xs H Q => ∃ x, xs = [.str x] ∧ x.length = 1 ∧ Q (.int (x.cps.getD 0 0 : Nat)) H) := by
  intro pins s σ H xs us Q I r h
  obtain ⟨x, rfl, hz, q⟩ := h
  obtain ⟨u, rfl, t, rfl⟩ := vals1 r
  exact ord_of_one hz ⟨.int _, H, I.tok _, ⟨_, rfl⟩, q⟩
theorem call_chr : CallR X (.builtin "chr") (fun xs H Q => ∃ i, xs = [.int i] ∧ 0 ≤ i ∧ i ≤ 1114111 ∧ Q (.str ⟨#[i.toNat]⟩) H) := by
  intro pins s σ H xs us Q I r h
  obtain ⟨i, rfl, h0, h1, q⟩ := h
  obtain ⟨u, rfl, t, rfl⟩ := vals1 r
  exact chr_of_range h0 h1 ⟨.str _, H, I.tok _, ⟨_, rfl⟩, q⟩
/-- len of a str, a bytes, a list, a tuple -/
def LenV (K : PySem.W.Frag) (x : V) (H : Hp) (n : Nat) : Prop :=
  match x with
  | .str y => y.length ≤ sizeLine ∧ n = y.length
  | .byt y => y.size ≤ sizeLine ∧ n = y.size
  | .ref p => (∃ xs, SqL K H p xs ∧ n = xs.length) ∨ ∃ xs, SqT K H p xs ∧ n = xs.length
  | _ => False
theorem call_len : CallR X (.builtin "len") (fun xs H Q => ∃ x n, xs = [x] ∧ LenV X.K x H n ∧ Q (.int n) H) := by
  intro pins s σ H xs us Q I r h
  obtain ⟨x, n, rfl, e, q⟩ := h
  obtain ⟨u, rfl, rx⟩ := vals1 r
  have hl := line63
  have hs : sizeLine = 16777216 := sizeLine_eq
  cases x with
  | str y =>
    obtain ⟨t, rfl⟩ := rx
    obtain ⟨hy, e'⟩ : y.length ≤ sizeLine ∧ n = y.length := e
    subst e'
    exact len_str (by omega) ⟨.int _, H, I.tok _, ⟨_, rfl⟩, q⟩
  | byt y =>
    obtain ⟨t, rfl⟩ := rx
    obtain ⟨hy, e'⟩ : y.size ≤ sizeLine ∧ n = y.size := e
    subst e'
    exact PySem.W.len_bytes (by omega) ⟨.int _, H, I.tok _, ⟨_, rfl⟩, q⟩
  | ref p =>
    cases rx
    have e' : (∃ xs, SqL X.K H p xs ∧ n = xs.length) ∨ ∃ xs, SqT X.K H p xs ∧ n = xs.length := e
    rcases e' with ⟨xs, hx, e'⟩ | ⟨xs, hx, e'⟩
    · subst e'
      obtain ⟨its, r', pl, hz⟩ := I.list hx
      have hlen := r'.length
      exact Calls.call_len_list pl.isList (by simp only [List.size_toArray]; omega) ⟨.int xs.length, H, I.tok _, ⟨_, by simp only [List.size_toArray]; rw [hlen]⟩, q⟩
    · subst e'
      obtain ⟨its, r', pl, hz⟩ := I.tuple hx
      have hlen := r'.length
      exact len_tuple pl (by simp only [List.size_toArray]; omega) ⟨.int xs.length, H, I.tok _, ⟨_, by simp only [List.size_toArray]; rw [hlen]⟩, q⟩
  | _ => exact (show False from e).elim
/-- divmod: a new tuple -/
theorem call_divmod : CallR X (.builtin "divmod") (fun xs H Q => ∃ i j, xs = [.int i, .int j] ∧ CDiv i j ∧ ∀ p, H p = none → Q (.ref p) (upd H p (.tup [.int (i / j), .int (i % j)]))) := by
  intro pins s σ H xs us Q I r h
  obtain ⟨i, j, rfl, ⟨h1, h2⟩, q⟩ := h
  obtain ⟨u, w', rfl, ⟨t, rfl⟩, ⟨t', rfl⟩⟩ := vals2 r
  refine divmod_int (by omega) ?_ (.inl (PyProof.noPylong_small (by omega)))
  rw [Int.fdiv_eq_ediv_of_nonneg i (by omega), Int.fmod_eq_emod_of_nonneg i (by omega)]
  have hn : H s.heap.objs.size = none := I.hok.fresh (Nat.le_refl _)
  refine ⟨.ref s.heap.objs.size, _, ?_, rfl, q _ hn⟩
  refine I.laid (fun b o e => Heap.get?_push_of_some _ e) (Nat.le_refl _) ⟨by simp only [List.length_cons, List.length_nil]; rw [sizeLine_eq]; decide, [.int (i / j) s.toks, .int (i % j) (s.toks + 1)], .cons ⟨_, rfl⟩ (.cons ⟨_, rfl⟩ .nil), ?_⟩
  exact ⟨_, Heap.get?_push_size s.heap rfl, rfl, 0, rfl⟩
end
end L2

namespace L2
open PySem PySem.Spec PyProof.Rows

/-! ### an instance, its attributes a map -/
structure ObjM (h : Heap) (x dx C : Addr) (mA : Str → Option Value) : Prop where
  obj : h.get? x = some (PySem.W.instObj C dx)
  ns : h.Ns1 dx mA
  ne : dx ≠ x

theorem lookIn_ns {h : Heap} {dx : Addr} {mA : Str → Option Value} (n : h.Ns1 dx mA) : ∃ od, h.get? dx = some od ∧ ∀ name, PySem.W.lookIn name od = some (mA name) := by
  obtain ⟨o, es, ep, ho, hd, hk, _, hm⟩ := n
  refine ⟨o, ho, fun name => ?_⟩
  have e := hm name
  unfold nsFind findBy at e
  rw [← Array.find?_toList] at e
  unfold PySem.W.lookIn
  rw [hd]
  dsimp only
  split
  · rename_i y q
    rw [q] at e
    exact congrArg some e
  · rename_i q
    rw [q] at e
    have a : es.toList.any (·.refKey) = false := by
      rw [List.any_eq_false]
      intro y hy
      obtain ⟨z, t, hkey⟩ := hk y (Array.mem_toList_iff.mp hy)
      simp [DictEntry.refKey, hkey]
    have a' : ¬ es.toList.any (·.refKey) = true := by rw [a]; exact Bool.false_ne_true
    rw [if_neg a']
    exact congrArg some e

theorem ObjM.look {h : Heap} {x dx C : Addr} {mA : Str → Option Value} (I : ObjM h x dx C mA) : ∃ od, PySem.W.InstAt h x (PySem.W.instObj C dx) C (some od) ∧ ∀ name, PySem.W.lookIn name od = some (mA name) :=
  let ⟨od, ho, hl⟩ := lookIn_ns I.ns
  ⟨od, ⟨I.obj, rfl, rfl, ho⟩, hl⟩

section
variable {prog : Program} {w : World} {A : Around} {E : Value → Shared → Prop} {s : Shared} {K : PySem.W.Frag} {x dx C f : Addr} {mA : Str → Option Value} {name : Str} {v : Value}

theorem get_map {expr : Bool} {Q : Value → Shared → Prop} (X : K.In s.heap) (I : ObjM s.heap x dx C mA) (hg : PySem.W.plainGet K C name = true) (hh : PySem.W.hasDictIn K C = true)
    (ha : PySem.W.findIn K (.ref C) name = some none) (hv : mA name = some v) (hv' : PySem.W.handedIn v = true) (h : Q v { s with toks := s.toks + 1 }) :
    wpAny (model prog w) A (getAttr (.ref x) name expr) Q E s := by
  obtain ⟨od, J, hl⟩ := I.look
  exact PySem.W.get_value X J (PySem.W.plainGet_of hg).1 (PySem.W.findObj_own hh ha rfl (by rw [hl, hv])) hv' h

theorem get_const {expr : Bool} {a : Value} {Q : Value → Shared → Prop} (X : K.In s.heap) (I : ObjM s.heap x dx C mA) (hg : PySem.W.plainGet K C name = true) (hh : PySem.W.hasDictIn K C = true)
    (ha : PySem.W.findIn K (.ref C) name = some (some a)) (hn : PySem.W.specialIn K a "__get__" = some none) (hc : PySem.W.copiedNames.contains name = false) (hv : mA name = none) (hv' : PySem.W.handedIn a = true)
    (h : Q a { s with toks := s.toks + 1 }) : wpAny (model prog w) A (getAttr (.ref x) name expr) Q E s := by
  obtain ⟨od, J, hl⟩ := I.look
  exact PySem.W.get_value X J (PySem.W.plainGet_of hg).1 (PySem.W.findObj_cls hh ha hn hv' hc (by rw [hl, hv])) hv' h

theorem get_meth {pl : Sem Bool} {Q : Value × List Value → Shared → Prop} (X : K.In s.heap) (I : ObjM s.heap x dx C mA) (hg : PySem.W.plainGet K C name = true)
    (hf : PySem.W.findIn K (.ref C) name = some (some (.ref f))) (ht : PySem.W.isFn K (.ref f) = true) (hv : mA name = none) (h : Q (.ref f, [.ref x]) s) :
    wpAny (model prog w) A (getMethod (.ref x) name pl) Q E s := by
  obtain ⟨od, J, hl⟩ := I.look
  exact PySem.W.method_fn X J (PySem.W.plainGet_of hg).1 (PySem.W.plainGet_of hg).2 hf (beq_iff_eq.mp ht) (by show (PySem.W.lookIn name od).map (·.isSome) = some false; rw [hl, hv]; rfl) h

theorem set_map {ns : List Str} {Q : Unit → Shared → Prop} (X : K.In s.heap) (I : ObjM s.heap x dx C mA)
    (hs : PySem.W.findIn K (.ref C) "__setattr__" = some (some (.builtin "object.__setattr__"))) (hp : PySem.W.plainOver K C = true) (ht : PySem.W.takerIn K C name = some none) (hh : PySem.W.hasDictIn K C = true)
    (hw : PySem.Within mA ns) (hsz : ns.length ≤ sizeLine)
    (h : ∀ h', ObjM h' x dx C (fun y => if y = name then some v else mA y) → Heap.SameBut dx s.heap h' → Q () { s with heap := h', toks := s.toks + 2 }) :
    wpAny (model prog w) A (setAttr (.ref x) name v) Q E s := by
  obtain ⟨od, J, hl⟩ := I.look
  refine PySem.W.set_plain X J hs (PySem.W.osa_open (s := { s with toks := s.toks + 1 }) (r := none) X J hp ht fun b => ?_)
  obtain ⟨cd, hc, hd'⟩ := PySem.W.any_some hh
  have hx : s.heap.get? x = some ⟨.ref C, some dx, .plain, #[]⟩ := I.obj
  refine wpAny_bind (wpAny_pure (wpAny_bind (wpAny_bind (wpAny_loadPart hx (wpAny_bind (PySem.W.Looks.here (s := { s with toks := s.toks + 1 }) (PySem.W.looks_clsIn X hc) ?_))))))
  rw [hd']
  refine wpAny_pure (a := some dx) (wpAny_bind (wpAny_pure (wpAny_bind ?_)))
  refine wpAny_nsSet1 (s := { s with toks := s.toks + 1 }) I.ns fun h' hn2 hs2 => ?_
  obtain ⟨oD, esD, epD, hoD, hdD, hcD⟩ := hn2.count (PySem.Within.cons name v hw)
  refine wpAny_bind (wpAny_lookBehind hoD (by rw [hdD]; exact pastItsLine_dict (Nat.le_trans hcD (by rw [List.length_cons]; omega))) ?_)
  exact wpAny_pure (h _ ⟨(hs2.2 _ (Ne.symm I.ne)).trans I.obj, hn2, I.ne⟩ hs2)

/-- C(..): the dict at the heap's end, the instance behind it; then its __init__ -/
theorem make_map {R : Result → Shared → Prop} {vs : List Value} {kw : List (Str × Value)} (X : K.In s.heap) (hm : PySem.W.makesIn K C = true)
    (hi : PySem.W.findIn K (.ref C) "__init__" = some (some (.ref f))) (hf : PySem.W.typeIn K (.ref f) = some (.type "function"))
    (h : codeAny (model prog w) (A.under (.builtin "type.__call__" ⟨.ref C :: vs, kw⟩)) (.call (.ref f) ⟨.ref (s.heap.objs.size + 1) :: vs, kw⟩) (PySem.W.InitBack (s.heap.objs.size + 1) R)
      { s with heap := (s.heap.push PySem.W.emptyDict).push (PySem.W.instObj C s.heap.objs.size) }) :
    codeAny (model prog w) A (.call (.ref C) ⟨vs, kw⟩) R s := by
  obtain ⟨hh, g, d, t, os⟩ := s
  exact PySem.W.make_core (PySem.W.makes_of X hm) (PySem.W.looks_findIn X hi) (fun self => PySem.W.bind_fn X self hf) (.inl rfl) h
/-- C() where there is no __init__ but object's -/
theorem make_map0 {R : Result → Shared → Prop} (X : K.In s.heap) (hm : PySem.W.makesIn K C = true)
    (hi : PySem.W.findIn K (.ref C) "__init__" = some (some (.builtin "object.__init__")))
    (hb : ∀ self, PySem.W.Looks (model prog w) s.heap (bindSpecial (.builtin "object.__init__") self) (.builtin "object.__init__", [self]))
    (h : codeAny (model prog w) (A.under (.builtin "type.__call__" ⟨[.ref C], []⟩)) (.call (.builtin "object.__init__") ⟨[.ref (s.heap.objs.size + 1)], []⟩) (PySem.W.InitBack (s.heap.objs.size + 1) R)
      { s with heap := (s.heap.push PySem.W.emptyDict).push (PySem.W.instObj C s.heap.objs.size) }) :
    codeAny (model prog w) A (.call (.ref C) ⟨[], []⟩) R s := by
  obtain ⟨hh, g, d, t, os⟩ := s
  exact PySem.W.make_core (PySem.W.makes_of X hm) (PySem.W.looks_findIn X hi) hb (.inr ⟨rfl, rfl⟩) h
end

/-! ### the attributes as a list of pairs -/
def putF (f : Str) (v : V) : List (Str × V) → List (Str × V)
  | [] => [(f, v)]
  | (g, x) :: r => if g = f then (g, v) :: r else (g, x) :: putF f v r
theorem lookup_putF (f g : Str) (v : V) : ∀ fs : List (Str × V), (putF f v fs).lookup g = if g = f then some v else fs.lookup g
  | [] => by
    show List.lookup g [(f, v)] = _
    by_cases h : g = f
    · have hb : (g == f) = true := beq_iff_eq.mpr h
      simp only [List.lookup, hb, if_pos h]
    · have hb : (g == f) = false := beq_eq_false_iff_ne.mpr h
      simp only [List.lookup, hb, if_neg h]
  | (k, x) :: r => by
    have ih := lookup_putF f g v r
    rw [show putF f v ((k, x) :: r) = (if k = f then (k, v) :: r else (k, x) :: putF f v r) from rfl]
    by_cases hk : k = f
    · rw [if_pos hk]
      by_cases h : g = k
      · have hb : (g == k) = true := beq_iff_eq.mpr h
        simp only [List.lookup, hb, if_pos (h.trans hk)]
      · have hb : (g == k) = false := beq_eq_false_iff_ne.mpr h
        simp only [List.lookup, hb, if_neg (fun e : g = f => h (e.trans hk.symm))]
    · rw [if_neg hk]
      by_cases h : g = k
      · have hb : (g == k) = true := beq_iff_eq.mpr h
        simp only [List.lookup, hb, if_neg (fun e : g = f => hk (h.symm.trans e))]
      · have hb : (g == k) = false := beq_eq_false_iff_ne.mpr h
        simp only [List.lookup, hb]
        exact ih
theorem keys_putF (f : Str) (v : V) : ∀ fs : List (Str × V), f ∈ (putF f v fs).map (·.1) ∧ ∀ g, g ∈ fs.map (·.1) → g ∈ (putF f v fs).map (·.1)
  | [] => ⟨by simp [putF], fun g h => by simp at h⟩
  | (k, x) :: r => by
    obtain ⟨i1, i2⟩ := keys_putF f v r
    rw [show putF f v ((k, x) :: r) = (if k = f then (k, v) :: r else (k, x) :: putF f v r) from rfl]
    by_cases hk : k = f
    · rw [if_pos hk]
      subst hk
      exact ⟨by simp, fun g h => by simpa using h⟩
    · rw [if_neg hk]
      refine ⟨?_, fun g h => ?_⟩
      · rw [List.map_cons]
        exact List.mem_cons_of_mem _ i1
      · rw [List.map_cons] at h ⊢
        rcases List.mem_cons.mp h with e | e
        · exact List.mem_cons.mpr (.inl e)
        · exact List.mem_cons_of_mem _ (i2 g e)
theorem length_putF (f : Str) (v : V) : ∀ fs : List (Str × V), (putF f v fs).length ≤ fs.length + 1
  | [] => by simp [putF]
  | (k, x) :: r => by
    have ih := length_putF f v r
    rw [show putF f v ((k, x) :: r) = (if k = f then (k, v) :: r else (k, x) :: putF f v r) from rfl]
    by_cases hk : k = f
    · rw [if_pos hk, List.length_cons, List.length_cons]; omega
    · rw [if_neg hk, List.length_cons, List.length_cons]; omega

theorem RelO.some_of {v : V} {o : Option Value} (r : RelO (some v) o) : ∃ u, o = some u ∧ RelV v u := by
  cases o with
  | none => exact (show False from r).elim
  | some u => exact ⟨u, rfl, r⟩
theorem RelO.none_of {o : Option Value} (r : RelO none o) : o = none := by
  cases o with
  | none => rfl
  | some u => exact (show False from r).elim
theorem handed_of {v : V} {u : Value} (r : RelV v u) : PySem.W.handedIn u = true := by
  cases v with
  | non => cases (show u = Value.none from r); rfl
  | bl b => cases (show u = Value.bool b from r); rfl
  | int i => obtain ⟨t, e⟩ := (show ∃ t, u = Value.int i t from r); cases e; rfl
  | str x => obtain ⟨t, e⟩ := (show ∃ t, u = Value.str x t from r); cases e; rfl
  | byt b => obtain ⟨t, e⟩ := (show ∃ t, u = Value.bytes b t from r); cases e; rfl
  | flt b => obtain ⟨t, e⟩ := (show ∃ t, u = Value.float b t from r); cases e; rfl
  | ref a => cases (show u = Value.ref a from r); rfl
  | ty n => cases (show u = Value.type n from r); rfl

section
variable {P : Program} {w : World} {H H' : Hp} {h h' : Heap} {a C dx : Addr} {fs fs' : List (Str × V)}
theorem ins_get (hok : HOk P w H h) (e : H a = some (.ins C dx fs)) : ∃ mA, ObjM h a dx C mA ∧ (∀ f, RelO (fs.lookup f) (mA f)) ∧ PySem.Within mA (fs.map (·.1)) ∧ fs.length ≤ 1000 ∧ H dx = some (.own a) := by
  obtain ⟨d, z, ne, ob, mA, n, r, q⟩ := (show ObjOk P w H h a (.ins C dx fs) from hok a _ e)
  exact ⟨mA, ⟨ob, n, ne⟩, r, q, z, d⟩
end

/-! ### what of the text a class must have -/
structure Cls (K : PySem.W.Frag) (C : Addr) : Prop where
  pg : PySem.W.plainGet K C Str.empty = true
  hd : PySem.W.hasDictIn K C = true
  po : PySem.W.plainOver K C = true
  sa : PySem.W.findIn K (.ref C) "__setattr__" = some (some (.builtin "object.__setattr__"))
theorem Cls.get {K : PySem.W.Frag} {C : Addr} (c : Cls K C) (f : Str) : PySem.W.plainGet K C f = true := c.pg
/-- no class of it has the name -/
def NoAttr (K : PySem.W.Frag) (C : Addr) (f : Str) : Prop := PySem.W.findIn K (.ref C) f = some none
theorem NoAttr.taker {K : PySem.W.Frag} {C : Addr} {f : Str} (n : NoAttr K C f) : PySem.W.takerIn K C f = some none := by
  unfold PySem.W.takerIn
  rw [show PySem.W.findIn K (.ref C) f = some none from n]
  rfl
/-- a constant of the class -/
structure Con (K : PySem.W.Frag) (C : Addr) (f : Str) (v : V) (u : Value) : Prop where
  at_ : PySem.W.findIn K (.ref C) f = some (some u)
  rel : RelV v u
  get : PySem.W.specialIn K u "__get__" = some none
  cp : PySem.W.copiedNames.contains f = false
/-- a method: a plain def of the class or of one above it -/
structure Meth (K : PySem.W.Frag) (C : Addr) (m : Str) (f : Addr) : Prop where
  at_ : PySem.W.findIn K (.ref C) m = some (some (.ref f))
  fn : PySem.W.isFn K (.ref f) = true
  kp : PySem.W.keepIn K (.ref f) = true

section
variable {X : Cx} {pins : List (Addr × Obj)} {σ : St} {H : Hp} {s : Shared} {a C dx : Addr} {fs : List (Str × V)} {f : Str} {v : V} {A : Around} {E : Value → Shared → Prop}

theorem getattr_ok {b : Bool} {Q : Value → Shared → Prop} (I : Inv X pins σ H s) (e : H a = some (.ins C dx fs)) (c : Cls X.K C) (n : NoAttr X.K C f) (l : fs.lookup f = some v)
    (h : ∀ u s', Inv X pins σ H s' → RelV v u → Q u s') : wpAny (model X.prog X.w) A (getAttr (.ref a) f b) Q E s := by
  obtain ⟨mA, O, r, _, _, _⟩ := ins_get I.hok e
  obtain ⟨u, hu, ru⟩ := RelO.some_of (v := v) (o := mA f) (by rw [← l]; exact r f)
  exact get_map I.kIn O (c.get f) c.hd n hu (handed_of ru) (h u _ (I.tok _) ru)

theorem getcon_ok {b : Bool} {u : Value} {Q : Value → Shared → Prop} (I : Inv X pins σ H s) (e : H a = some (.ins C dx fs)) (c : Cls X.K C) (k : Con X.K C f v u) (l : fs.lookup f = none)
    (h : ∀ s', Inv X pins σ H s' → Q u s') : wpAny (model X.prog X.w) A (getAttr (.ref a) f b) Q E s := by
  obtain ⟨mA, O, r, _, _, _⟩ := ins_get I.hok e
  have hn : mA f = none := RelO.none_of (by rw [← l]; exact r f)
  exact get_const I.kIn O (c.get f) c.hd k.at_ k.get k.cp hn (handed_of k.rel) (h _ (I.tok _))

theorem getmeth_ok {m : Str} {g : Addr} {pl : Sem Bool} {Q : Value × List Value → Shared → Prop} (I : Inv X pins σ H s) (e : H a = some (.ins C dx fs)) (c : Cls X.K C) (k : Meth X.K C m g) (l : fs.lookup m = none)
    (h : Q (.ref g, [.ref a]) s) : wpAny (model X.prog X.w) A (getMethod (.ref a) m pl) Q E s := by
  obtain ⟨mA, O, r, _, _, _⟩ := ins_get I.hok e
  have hn : mA m = none := RelO.none_of (by rw [← l]; exact r m)
  exact get_meth I.kIn O (c.get m) k.at_ k.fn hn h

theorem setattr_ok {y : V} {u : Value} {Q : Unit → Shared → Prop} (I : Inv X pins σ H s) (e : H a = some (.ins C dx fs)) (c : Cls X.K C) (n : NoAttr X.K C f) (hl : fs.length < 1000) (ry : RelV y u)
    (h : ∀ s', Inv X pins σ (upd H a (.ins C dx (putF f y fs))) s' → Q () s') : wpAny (model X.prog X.w) A (setAttr (.ref a) f u) Q E s := by
  obtain ⟨mA, O, r, wi, _, ho⟩ := ins_get I.hok e
  have hz : (fs.map (·.1)).length ≤ sizeLine := by rw [List.length_map, sizeLine_eq]; omega
  refine set_map I.kIn O c.sa c.po n.taker c.hd wi hz fun h' O' sb => h _ ?_
  have hd : ∃ o, h'.get? dx = some o := let ⟨o, _, _, e', _⟩ := O'.ns; ⟨o, e'⟩
  refine I.write (x := a) (e := dx) (by rw [e]; exact True.intro) (.inr ho) (fun b q hb z => (sb.2 b hb).trans z) hd ?_
  refine ⟨by rw [upd_ne O.ne]; exact ho, ?_, O.ne, O'.obj, _, O'.ns, fun g => ?_, fun g hg => ?_⟩
  · have := length_putF f y fs; omega
  · show RelO ((putF f y fs).lookup g) (if g = f then some u else mA g)
    rw [lookup_putF]
    by_cases q : g = f
    · rw [if_pos q, if_pos q]; exact ry
    · rw [if_neg q, if_neg q]; exact r g
  · by_cases q : g = f
    · rw [q]; exact (keys_putF f y fs).1
    · refine (keys_putF f y fs).2 g (wi g fun z => hg ?_)
      show (if g = f then some u else mA g) = none
      rw [if_neg q]; exact z

/-- a new instance, tracked, without attributes -/
theorem Inv.made (I : Inv X pins σ H s) : Inv X pins σ (upd (upd H s.heap.objs.size (.own (s.heap.objs.size + 1))) (s.heap.objs.size + 1) (.ins C s.heap.objs.size []))
    { s with heap := (s.heap.push PySem.W.emptyDict).push (PySem.W.instObj C s.heap.objs.size) } := by
  have e1 : (s.heap.push PySem.W.emptyDict).get? s.heap.objs.size = some PySem.W.emptyDict := Heap.get?_push_size s.heap rfl
  have e2 : ((s.heap.push PySem.W.emptyDict).push (PySem.W.instObj C s.heap.objs.size)).get? (s.heap.objs.size + 1) = some (PySem.W.instObj C s.heap.objs.size) := by
    have := Heap.get?_push_size (s.heap.push PySem.W.emptyDict) (o := PySem.W.instObj C s.heap.objs.size) rfl
    rwa [Heap.size_push] at this
  have e3 : (s.heap.push PySem.W.emptyDict).Ns s.heap.objs.size (fun _ => none) := ⟨PySem.W.emptyDict, #[], _, e1, rfl, (fun e he => absurd he (by simp)), fun _ => rfl⟩
  have I1 := I.laid (a := s.heap.objs.size) (o := .own (s.heap.objs.size + 1)) (h' := s.heap.push PySem.W.emptyDict) (t' := s.toks) (fun b u q => Heap.get?_push_of_some _ q) (Nat.le_refl _) ⟨_, e1⟩
  refine I1.laid (a := s.heap.objs.size + 1) (o := .ins C s.heap.objs.size []) (t' := s.toks) (fun b u q => Heap.get?_push_of_some _ q) (Nat.le_of_eq (Heap.size_push _ _)) ?_
  have ne : s.heap.objs.size ≠ s.heap.objs.size + 1 := Nat.ne_of_lt (Nat.lt_succ_self _)
  refine ⟨by rw [upd_ne ne, upd_same], Nat.zero_le _, ne, e2, fun _ => none, (Heap.Ns1.of_empty e3).at fun o q => Heap.get?_push_of_some _ q, fun _ => True.intro, fun y hy => absurd rfl hy⟩

/-- e.f where nothing but the object is asked: through attributeBase (super) and the last hold -/
theorem attr_of {prog : Program} {w : World} {env : Env} {e : Expr} {f : Str} {pos : Pos} {s : Shared} {Q : Value → Shared → Prop} (hb : attributeBase e f env (eval e env) = eval e env)
    (h : wpAny (model prog w) A (eval e env) (fun o s₁ => wpAny (model prog w) A (getAttr o f true) Q E s₁) E s) : wpAny (model prog w) A (eval (.Attribute e f pos) env) Q E s :=
  Attribute_any_ h (by rw [arm_eval_Attribute, hb])
end

/-! ### readings and rules -/
/-- e.f, an attribute of the instance -/
def tFld (K : PySem.W.Frag) (ta : TE) (f : Str) : TE := fun σ H Q => ta σ H fun x H1 => ∃ a C dx fs v, x = .ref a ∧ H1 a = some (.ins C dx fs) ∧ Cls K C ∧ NoAttr K C f ∧ fs.lookup f = some v ∧ Q v H1
/-- e.f, a constant of the class -/
def tCon (K : PySem.W.Frag) (ta : TE) (f : Str) : TE := fun σ H Q => ta σ H fun x H1 => ∃ a C dx fs v u, x = .ref a ∧ H1 a = some (.ins C dx fs) ∧ Cls K C ∧ Con K C f v u ∧ fs.lookup f = none ∧ Q v H1
/-- e.f = value -/
def sFld (K : PySem.W.Frag) (ta tv : TE) (f : Str) : TS := fun D σ H => tv σ H fun y H1 => ta σ H1 fun x H2 => ∃ a C dx fs, x = .ref a ∧ H2 a = some (.ins C dx fs) ∧ Cls K C ∧ NoAttr K C f ∧ fs.length < 1000 ∧
  D.nx σ (upd H2 a (.ins C dx (putF f y fs)))
/-- an augmented operator on two values -/
def InOp (X : Cx) (op : Operator) (rd : V → V → Hp → VK → Prop) : Prop :=
  ∀ (pins : List (Addr × Obj)) (s : Shared) (σ : St) (H : Hp) (x y : V) (u v : Value) (Q : VK), Inv X pins σ H s → RelV x u → RelV y v → rd x y H Q → wpAny (model X.prog X.w) X.A (inplaceOp op u v) (EP X pins σ Q) X.xe s
/-- e.f op= value -/
def sFldAug (K : PySem.W.Frag) (ta tv : TE) (rd : V → V → Hp → VK → Prop) (f : Str) : TS := fun D σ H => ta σ H fun x H1 => ∃ a C dx fs v, x = .ref a ∧ H1 a = some (.ins C dx fs) ∧ Cls K C ∧ NoAttr K C f ∧ fs.lookup f = some v ∧
  tv σ H1 fun y H2 => rd v y H2 fun z H3 => ∃ dx' fs', H3 a = some (.ins C dx' fs') ∧ fs'.length < 1000 ∧ D.nx σ (upd H3 a (.ins C dx' (putF f z fs')))

section
variable {X : Cx} {o e value : Expr} {f : Str} {pos pos' tpos : Pos} {ta tv : TE}
theorem pe_fld (he : PE X e ta) (hb : attributeBase e f X.env (eval e X.env) = eval e X.env) : PE X (.Attribute e f pos) (tFld X.K ta f) := by
  intro pins s σ H Q I h
  refine attr_of hb (thn (he pins s σ H _ I h) fun u s1 ⟨x, H1, I1, rx, a, C, dx, fs, v, ex, ea, c, n, l, q⟩ => ?_)
  subst ex
  obtain rfl : u = Value.ref a := rx
  exact getattr_ok I1 ea c n l fun u' s2 I2 ru => ⟨v, H1, I2, ru, q⟩
theorem pe_con (he : PE X e ta) (hb : attributeBase e f X.env (eval e X.env) = eval e X.env) : PE X (.Attribute e f pos) (tCon X.K ta f) := by
  intro pins s σ H Q I h
  refine attr_of hb (thn (he pins s σ H _ I h) fun u s1 ⟨x, H1, I1, rx, a, C, dx, fs, v, u0, ex, ea, c, k, l, q⟩ => ?_)
  subst ex
  obtain rfl : u = Value.ref a := rx
  exact getcon_ok I1 ea c k l fun s2 I2 => ⟨v, H1, I2, k.rel, q⟩
theorem ps_fld (ha : PE X o ta) (hv : PE X value tv) (hs : swapsWith value (some (.Attribute o f pos')) pos.line X.env = pure false) : PS X (.Assign [.Attribute o f pos'] value pos) (sFld X.K ta tv f) := by
  intro pins s σ H D I h
  refine plainObj_wpAny_Assign_Attribute (thn (hv pins s σ H _ I h) fun u s1 ⟨y, H1, I1, ry, q⟩ => thn (ha pins s1 σ H1 _ I1 q) fun ov s2 ⟨x, H2, I2, rx, a, C, dx, fs, ex, ea, c, n, l, q2⟩ => ?_) hs
  subst ex
  obtain rfl : ov = Value.ref a := rx
  exact setattr_ok I2 ea c n l ry fun s3 I3 => ⟨σ, _, I3, q2⟩
theorem ps_fldaug {op : Operator} {rd : V → V → Hp → VK → Prop} (ha : PE X o ta) (hv : PE X value tv) (hop : InOp X op rd) : PS X (.AugAssign (.Attribute o f tpos) op value pos) (sFldAug X.K ta tv rd f) := by
  intro pins s σ H D I h
  refine wpAny_AugAssign_AttributeAny (thn (ha pins s σ H _ I h) fun ov s1 ⟨x, H1, I1, rx, a, C, dx, fs, v, ex, ea, c, n, l, q⟩ => ?_)
  subst ex
  obtain rfl : ov = Value.ref a := rx
  refine getattr_ok I1 ea c n l fun u s2 I2 ru => thn (hv pins s2 σ H1 _ I2 q) fun w3 s3 ⟨y, H2, I3, ry, q3⟩ => thn (hop pins s3 σ H2 v y u w3 _ I3 ru ry q3) fun w4 s4 ⟨z, H3, I4, rz, dx', fs', ea', l', q4⟩ => ?_
  exact setattr_ok I4 ea' c n l' rz fun s5 I5 => ⟨σ, _, I5, q4⟩
def rAdd : V → V → Hp → VK → Prop := fun x y H Q => ∃ i j, x = .int i ∧ y = .int j ∧ Q (.int (i + j)) H
def rSub : V → V → Hp → VK → Prop := fun x y H Q => ∃ i j, x = .int i ∧ y = .int j ∧ Q (.int (i - j)) H
theorem in_add : InOp X .Add rAdd := by
  rintro pins s σ H x y u v Q I rx ry ⟨i, j, rfl, rfl, q⟩
  obtain ⟨t, rfl⟩ := (show ∃ t, u = Value.int i t from rx)
  obtain ⟨t', rfl⟩ := (show ∃ t', v = Value.int j t' from ry)
  exact PyProof.Rows.iadd_int ⟨.int (i + j), H, I.tok _, ⟨_, rfl⟩, q⟩
theorem in_sub : InOp X .Sub rSub := by
  rintro pins s σ H x y u v Q I rx ry ⟨i, j, rfl, rfl, q⟩
  obtain ⟨t, rfl⟩ := (show ∃ t, u = Value.int i t from rx)
  obtain ⟨t', rfl⟩ := (show ∃ t', v = Value.int j t' from ry)
  exact PyProof.Rows.isub_int ⟨.int (i - j), H, I.tok _, ⟨_, rfl⟩, q⟩

/-- what is between an instance and its method: the tree of a method call -/
theorem methcall_of {pl : Sem Bool} {m : Str} {apos : Pos} {args : List Expr} {pins : List (Addr × Obj)} {s : Shared} {σ : St} {H : Hp} {Q : Value → Shared → Prop} {te : TE} (he : PE X e te) (I : Inv X pins σ H s)
    (h : te σ H fun x H1 => ∃ a C dx fs g, x = .ref a ∧ H1 a = some (.ins C dx fs) ∧ Cls X.K C ∧ Meth X.K C m g ∧ fs.lookup m = none ∧
      ∀ s1, Inv X pins σ H1 s1 → wpAny (model X.prog X.w) X.A (callWith pos (.ref g) [.ref a] (backTo pos (starEach args X.env)) (backToKw pos (keywordEach [] X.env))) Q X.xe s1)
    (ht : eval (.Call (.Attribute e m apos) args [] pos) X.env = (do
      let ov ← eval e X.env
      standAt apos.atName
      let (f, first) ← holding [ov] (getMethod ov m pl)
      callWith pos f first (backTo pos (starEach args X.env)) (backToKw pos (keywordEach [] X.env)))) :
    wpAny (model X.prog X.w) X.A (eval (.Call (.Attribute e m apos) args [] pos) X.env) Q X.xe s := by
  refine PySem.W.methodCall_KW (pl := pl) (thn (he pins s σ H _ I h) fun u s1 ⟨x, H1, I1, rx, a, C, dx, fs, g, ex, ea, c, k, l, q⟩ => ?_) ht
  subst ex
  obtain rfl : u = Value.ref a := rx
  exact getmeth_ok I1 ea c k l (q s1 I1)
end

/-! ### isinstance -/
section
variable {X : Cx} {pins : List (Addr × Obj)} {σ : St} {H : Hp} {s : Shared} {A : Around} {E : Value → Shared → Prop} {Q : Value → Shared → Prop} {c : Value} {b : Bool}
/-- the type of a value, as the fragment's deciders take it; for an instance its class -/
inductive TyOf (K : PySem.W.Frag) (H : Hp) : V → Value → Prop where
  | non : TyOf K H .non (.type "NoneType")
  | bl (x : Bool) : TyOf K H (.bl x) (.type "bool")
  | int (i : Int) : TyOf K H (.int i) (.type "int")
  | str (x : Str) : TyOf K H (.str x) (.type "str")
  | flt (x : UInt64) : TyOf K H (.flt x) (.type "float")
  | lst {a : Addr} {xs : List V} (e : H a = some (.lst xs)) : TyOf K H (.ref a) (.type "list")
  | frz {a : Addr} {o : Obj} {xs : List V} (e : H a = some (.frz o (.lst xs))) : TyOf K H (.ref a) (.type "list")
  | tup {a : Addr} {xs : List V} (e : H a = some (.tup xs)) : TyOf K H (.ref a) (.type "tuple")
  | dK {a : Addr} {kvs : List (Key × V)} (e : H a = some (.dK kvs)) : TyOf K H (.ref a) (.type "dict")
  | dT {a : Addr} {kvs : List (List Key × V)} (e : H a = some (.dT kvs)) : TyOf K H (.ref a) (.type "dict")
  | ins {a C dx : Addr} {fs : List (Str × V)} (e : H a = some (.ins C dx fs)) (cl : Cls K C) (ha : PySem.W.findIn K (.ref C) "__class__" = some (some (.builtin "object.__class__")))
      (hn : PySem.W.specialIn K (.builtin "object.__class__") "__get__" = some (some (.builtin "getset_descriptor.__get__"))) (htk : PySem.W.takesIn K (.builtin "object.__class__") = some true)
      (hm : PySem.W.mroIn K C (.type "object") = some true) : TyOf K H (.ref a) (.ref C)
/-- isinstance(x, c) for one class c, a built-in or an own one: kitOne's answer -/
theorem isinst_ok {x : V} {u t : Value} (I : Inv X pins σ H s) (rx : RelV x u) (ty : TyOf X.K H x t) (e : PySem.W.kitOne X.K t c = some b) (h : ∀ tk, Q (.bool b) { s with toks := tk }) :
    wpAny (model X.prog X.w) A (call (.builtin "isinstance") [u, c]) Q E s := by
  cases ty with
  | non => cases (show u = Value.none from rx); exact PySem.W.kia_one PySem.W.kitx_none I.kIn True.intro e (fun z => nomatch z) h
  | bl y => cases (show u = Value.bool y from rx); exact PySem.W.kia_one PySem.W.kitx_bool I.kIn True.intro e (fun z => nomatch z) h
  | int i => obtain ⟨t, q⟩ := (show ∃ t, u = Value.int i t from rx); cases q; exact PySem.W.kia_one PySem.W.kitx_int I.kIn True.intro e (fun z => nomatch z) h
  | str y => obtain ⟨t, q⟩ := (show ∃ t, u = Value.str y t from rx); cases q; exact PySem.W.kia_one PySem.W.kitx_str I.kIn True.intro e (fun z => nomatch z) h
  | flt y => obtain ⟨t, q⟩ := (show ∃ t, u = Value.float y t from rx); cases q; exact PySem.W.kia_one PySem.W.kitx_float I.kIn True.intro e (fun z => nomatch z) h
  | @lst a xs ea =>
    cases (show u = Value.ref a from rx)
    obtain ⟨_, _, n, _, h1⟩ := (show ObjOk X.prog X.w H s.heap a (.lst xs) from I.hok a _ ea)
    exact PySem.W.kia_one PySem.W.kitx_list I.kIn ⟨_, h1, rfl⟩ e (fun z => nomatch z) h
  | @frz a ob xs ea =>
    cases (show u = Value.ref a from rx)
    obtain ⟨_, _, _, n, _, h1⟩ := (show ObjOk X.prog X.w H s.heap a (.frz ob (.lst xs)) from I.hok a _ ea)
    exact PySem.W.kia_one PySem.W.kitx_list I.kIn ⟨_, h1, rfl⟩ e (fun z => nomatch z) h
  | @tup a xs ea =>
    cases (show u = Value.ref a from rx)
    obtain ⟨_, _, _, p⟩ := (show ObjOk X.prog X.w H s.heap a (.tup xs) from I.hok a _ ea)
    obtain ⟨o, h1, h2, _⟩ := p
    exact PySem.W.kia_one PySem.W.kitx_tuple I.kIn ⟨o, h1, h2⟩ e (fun z => nomatch z) h
  | @dK a kvs ea =>
    cases (show u = Value.ref a from rx)
    obtain ⟨_, _, vs, _, p⟩ := (show ObjOk X.prog X.w H s.heap a (.dK kvs) from I.hok a _ ea)
    obtain ⟨o, es, ep, h1, h2, _⟩ := p
    exact PySem.W.kia_one PySem.W.kitx_dict I.kIn ⟨o, h1, h2.1⟩ e (fun z => nomatch z) h
  | @dT a kvs ea =>
    cases (show u = Value.ref a from rx)
    obtain ⟨_, _, xs, _, o, es, ep, h1, h2, _⟩ := (show ObjOk X.prog X.w H s.heap a (.dT kvs) from I.hok a _ ea)
    exact PySem.W.kia_one PySem.W.kitx_dict I.kIn ⟨o, h1, h2.1⟩ e (fun z => nomatch z) h
  | @ins a C dx fs ea cl ha hn htk hm =>
    cases (show u = Value.ref a from rx)
    obtain ⟨mA, O, _⟩ := ins_get I.hok ea
    obtain ⟨od, J, _⟩ := O.look
    exact PySem.W.kia_one (PySem.W.kitx_own (cl.get _) cl.hd ha hn htk hm) I.kIn J e (fun z => nomatch z) h
end
end L2

namespace L2
open PySem PySem.Spec PyProof.Rows

/-! ### room -/
structure Room (k : Nat) (A : Around) : Prop where
  hd : A.handled = none
  dp : A.depth + 3 * k + 5 < recursionLimit
  un : A.units + 16 * k + 200 < cLine
theorem Room.mono {j k : Nat} {A : Around} (r : Room k A) (h : j ≤ k) : Room j A := ⟨r.hd, by have := r.dp; omega, by have := r.un; omega⟩
theorem Room.deeper {k : Nat} {A : Around} (r : Room (k + 1) A) (env : Env) : Room k (A.deeper env) :=
  ⟨r.hd, by have := r.dp; show A.depth + 1 + 3 * k + 5 < _; omega, by have := r.un; show A.units + 3 + 16 * k + 200 < _; omega⟩
theorem Room.in1 {k : Nat} {A : Around} (r : Room (k + 1) A) : Room k A.in1 :=
  ⟨r.hd, by have := r.dp; show A.depth + 3 * k + 5 < _; omega, by have := r.un; show A.units + 1 + 16 * k + 200 < _; omega⟩
theorem make_depth {A : Around} {C : Addr} {us : List Value} {kw : List (Str × Value)} : (A.under (.builtin "type.__call__" ⟨.ref C :: us, kw⟩)).depth = A.depth + 1 := by
  first | rfl | simp [Around.under, Code.weight, Code.isCreation, Code.isGuard, Code.isCaller, Code.frames, Code.isFrame, guardIds]
theorem make_units {A : Around} {C : Addr} {us : List Value} {kw : List (Str × Value)} : (A.under (.builtin "type.__call__" ⟨.ref C :: us, kw⟩)).units = A.units + 1 := by
  first | rfl | simp [Around.under, Code.cUnits, Code.frames, Code.isFrame]
theorem Room.make {k : Nat} {A : Around} (r : Room (k + 1) A) (C : Addr) (us : List Value) (kw : List (Str × Value)) : Room k (A.under (.builtin "type.__call__" ⟨.ref C :: us, kw⟩)) :=
  ⟨r.hd, by have := r.dp; rw [make_depth]; omega, by have := r.un; rw [make_units]; omega⟩
theorem Room.depth {k : Nat} {A : Around} (r : Room k A) : A.depth < recursionLimit := by have := r.dp; omega
theorem Room.units {k : Nat} {A : Around} (r : Room k A) : A.units + 64 < cLine := by have := r.un; omega
theorem Room.units0 {k : Nat} {A : Around} (r : Room k A) : A.units < cLine := by have := r.un; omega

/-! ### argument lists and displays -/
def tNil : TA := fun _ H Q => Q [] H
def tCons (ta : TE) (tr : TA) : TA := fun σ H Q => ta σ H fun x H1 => tr σ H1 fun xs H2 => Q (x :: xs) H2
section
variable {X : Cx} {e : Expr} {es : List Expr} {te : TE} {t : TA} {pos : Pos}
theorem pa_nil : PA X [] tNil := fun _ _ _ _ H Q I h => Calls.spliced_nil ⟨[], H, I, .nil, h⟩
theorem pa_cons (ha : PE X e te) (hr : PA X es t) (hs : starEach (e :: es) X.env = (false, eval e X.env) :: starEach es X.env := by rfl) : PA X (e :: es) (tCons te t) := by
  intro pos pins s σ H Q I h
  rw [hs]
  show wpAny _ _ (spliced ((false, eval e X.env) :: backTo pos (starEach es X.env))) _ _ s
  refine Calls.spliced_cons (thn (ha pins s σ H _ I h) fun u s1 ⟨x, H1, I1, r1, q1⟩ => ?_)
  exact thn (hr pos pins s1 σ H1 _ I1 q1) fun us s2 ⟨xs, H2, I2, r2, q2⟩ => ⟨x :: xs, H2, I2, .cons r1 r2, q2⟩

/-- a tuple, a list of written items -/
def tTup (t : TA) : TE := fun σ H Q => t σ H fun xs H1 => xs.length ≤ sizeLine ∧ ∀ p, H1 p = none → Q (.ref p) (upd H1 p (.tup xs))
def tLst (t : TA) : TE := fun σ H Q => t σ H fun xs H1 => xs.length ≤ sizeLine ∧ ∀ p, H1 p = none → Q (.ref p) (upd H1 p (.lst xs))
theorem pe_tup {x1} (h : PA X es t) : PE X (.Tuple es x1 pos) (tTup t) := by
  intro pins s σ H Q I hq
  refine wpAny_Tuple_spliced (thn (h pos pins s σ H _ I hq) fun us s1 ⟨xs, H1, I1, r, z, q⟩ => ⟨by rw [← r.length]; exact z, ?_⟩)
  have hf : H1 s1.heap.objs.size = none := I1.hok.fresh (Nat.le_refl _)
  refine ⟨.ref s1.heap.objs.size, upd H1 s1.heap.objs.size (.tup xs), I1.laid (t' := s1.toks) (fun b u e => Heap.get?_push_of_some _ e) (Nat.le_refl _) ?_, rfl, q _ hf⟩
  exact ⟨z, us, r, ⟨_, Heap.get?_push_size _ rfl, rfl, _, rfl⟩⟩
theorem pe_lst (h : PA X es t) : PE X (.List es pos) (tLst t) := by
  intro pins s σ H Q I hq
  refine wpAny_List_spliced (thn (h pos pins s σ H _ I hq) fun us s1 ⟨xs, H1, I1, r, z, q⟩ => ⟨by rw [← r.length]; exact z, ?_⟩)
  have hf : H1 s1.heap.objs.size = none := I1.hok.fresh (Nat.le_refl _)
  refine ⟨.ref s1.heap.objs.size, upd H1 s1.heap.objs.size (.lst xs), I1.laid (t' := s1.toks) (fun b u e => Heap.get?_push_of_some _ e) (Nat.le_refl _) ?_, rfl, q _ hf⟩
  exact ⟨z, us, 0, r, Heap.get?_push_size _ rfl⟩
end

/-! ### what a def promises -/
/-- a def's promise: the bound arguments in the parameters' order, the heap, the wanted end, the wanted exception -/
abbrev Sp := List V → Hp → VK → XK → Prop
/-- how an exception lies behind a call (file 08 gives it): the callers' frames, abstract heap and state ahead of the call, the wish, the exception, the state -/
abbrev CXT := List Env → Hp → Shared → XK → Value → Shared → Prop

/-- the state at a call -/
structure Env0 (P : Program) (w : World) (K : PySem.W.Frag) (mg : Str → Option Value) (base : Heap) (A : Around) (outer : List Env) (s : Shared) (H : Hp) : Prop where
  frames : A.frames = some outer
  mod : Mod K mg base
  bs : ∀ b o, base.get? b = some o → s.heap.get? b = some o ∧ H b = none
  bsz : base.objs.size ≤ s.heap.objs.size
  funs : s.heap.FunFrames base outer
  frf : ∀ b ∈ frs outer, H b = none
  hok : HOk P w H s.heap
  bare : AllBare s.gens
/-- a call's end -/
def CE (outer : List Env) (P : Program) (w : World) (H : Hp) (s : Shared) (Q : VK) (u : Value) (s' : Shared) : Prop :=
  ∃ v H', s'.os = s.os ∧ AllBare s'.gens ∧ Un (frs outer) [] H H' s.heap s'.heap ∧ HOk P w H' s'.heap ∧ RelV v u ∧ Q v H'
def CR (CX : CXT) (outer : List Env) (P : Program) (w : World) (H : Hp) (s : Shared) (Q : VK) (E : XK) (r : Result) (s' : Shared) : Prop :=
  match r with
  | .ok (.ret u) => CE outer P w H s Q u s'
  | .ok _ => False
  | .error e => CX outer H s E e s'
structure FnOk (P : Program) (w : World) (K : PySem.W.Frag) (mg : Str → Option Value) (base : Heap) (CX : CXT) (k : Nat) (f : Addr) (fd : FuncData) (ps : List Str) (sp : Sp) : Prop where
  len : ∀ vs H Q E, sp vs H Q E → vs.length = ps.length
  run : ∀ (A : Around) (outer : List Env) (s : Shared) (H : Hp) (args : Args) (us : List Value) (vs : List V) (Q : VK) (E : XK), Room k A → Env0 P w K mg base A outer s H → BindsTo s fd args (ps.zip us) → Vals vs us → sp vs H Q E →
    codeAny (model P w) A (.call (.ref f) args) (CR CX outer P w H s Q E) s
theorem FnOk.mono {P : Program} {w : World} {K : PySem.W.Frag} {mg : Str → Option Value} {base : Heap} {CX : CXT} {j k : Nat} {f : Addr} {fd : FuncData} {ps : List Str} {sp : Sp} (F : FnOk P w K mg base CX j f fd ps sp) (h : j ≤ k) :
    FnOk P w K mg base CX k f fd ps sp := ⟨F.len, fun A outer s H args us vs Q E hr => F.run A outer s H args us vs Q E (hr.mono h)⟩
/-- a weaker promise -/
theorem FnOk.imp {P : Program} {w : World} {K : PySem.W.Frag} {mg : Str → Option Value} {base : Heap} {CX : CXT} {k : Nat} {f : Addr} {fd : FuncData} {ps : List Str} {sp sp' : Sp} (F : FnOk P w K mg base CX k f fd ps sp)
    (h : ∀ vs H Q E, sp' vs H Q E → sp vs H Q E) : FnOk P w K mg base CX k f fd ps sp' :=
  ⟨fun vs H Q E q => F.len vs H Q E (h _ _ _ _ q), fun A outer s H args us vs Q E hr he hb hv hs => F.run A outer s H args us vs Q E hr he hb hv (h _ _ _ _ hs)⟩

theorem Env0.make {P : Program} {w : World} {K : PySem.W.Frag} {mg : Str → Option Value} {base : Heap} {A : Around} {outer : List Env} {s : Shared} {H : Hp} (e : Env0 P w K mg base A outer s H) (C : Addr) (us : List Value) (kw : List (Str × Value)) :
    Env0 P w K mg base (A.under (.builtin "type.__call__" ⟨.ref C :: us, kw⟩)) outer s H := ⟨by first | exact e.frames | (simpa [Around.under, Code.envs, Code.isFrame, pushEnvs] using e.frames), e.mod, e.bs, e.bsz, e.funs, e.frf, e.hok, e.bare⟩
theorem Env0.in1 {P : Program} {w : World} {K : PySem.W.Frag} {mg : Str → Option Value} {base : Heap} {A : Around} {outer : List Env} {s : Shared} {H : Hp} (e : Env0 P w K mg base A outer s H) :
    Env0 P w K mg base A.in1 outer s H := ⟨e.frames, e.mod, e.bs, e.bsz, e.funs, e.frf, e.hok, e.bare⟩

section
variable {X : Cx} {pins : List (Addr × Obj)} {σ : St} {H : Hp} {s s' : Shared}
/-- from a body: what a callee wants -/
theorem Inv.env0 (I : Inv X pins σ H s) : Env0 X.prog X.w X.K X.mg X.base X.A X.stack s H :=
  ⟨I.ok.frames, I.ok.mod, I.bs, Nat.le_trans I.ok.bsz I.sz, I.stack, I.stkFree, I.hok, I.bare⟩
/-- behind a call -/
theorem Inv.after {Q : VK} {u : Value} (I : Inv X pins σ H s) (h : CE X.stack X.prog X.w H s Q u s') : EP X pins σ Q u s' := by
  obtain ⟨v, H', os, bare, un, hok, r, q⟩ := h
  obtain ⟨hh, g, d, t, os'⟩ := s'
  obtain rfl : os' = s.os := os
  exact ⟨v, H', I.call (h' := hh) (g' := g) (d' := d) (t' := t) (ch := []) un hok bare (fun b z => absurd z (by simp)), r, q⟩
end

/-! ### calls -/
/-- f(..): the written arguments, then the defaults dvs; E: what is wanted of an exception -/
def tCall (sp : Sp) (dvs : List V) (E : XK) (t : TA) : TE := fun σ H Q => t σ H fun vs H1 => sp (vs ++ dvs) H1 Q E
/-- o.m(..) of an instance of the class at C -/
def tMeth (C : Addr) (m : Str) (sp : Sp) (dvs : List V) (E : XK) (ta : TE) (t : TA) : TE := fun σ H Q => ta σ H fun x H1 => ∃ a dx fs, x = .ref a ∧ H1 a = some (.ins C dx fs) ∧ fs.lookup m = none ∧
  t σ H1 fun vs H2 => sp (x :: (vs ++ dvs)) H2 Q E
/-- C(..): a new instance and its dict, then __init__ -/
def tMake (C : Addr) (sp : Sp) (dvs : List V) (E : XK) (t : TA) : TE := fun σ H Q => t σ H fun vs H1 => ∀ x dx, H1 x = none → H1 dx = none → dx ≠ x →
  sp (.ref x :: (vs ++ dvs)) (upd (upd H1 dx (.own x)) x (.ins C dx [])) (fun v H2 => v = .non ∧ Q (.ref x) H2) E

/-- how the parameters are bound: us the positional arguments, kw the keywords' values by name, ds the defaults that fill up -/
def Binds (K : PySem.W.Frag) (fd : FuncData) (ps : List Str) (ds : List Value) : Prop :=
  ∀ (s : Shared) (us : List Value), K.In s.heap → (us ++ ds).length = ps.length → BindsTo s fd ⟨us, []⟩ (ps.zip (us ++ ds))
/-- every parameter is given -/
theorem Binds.all {K : PySem.W.Frag} {fd : FuncData} {ps : List Str} (h : ∀ us : List Value, us.length = ps.length → bindArgs fd ⟨us, []⟩ = pure (ps.zip us)) : Binds K fd ps [] := fun s us _ hl => by
  rw [List.append_nil] at hl ⊢
  exact .of_eq (h us hl)

/-- an exception of a callee reaches what this body wants of exceptions -/
def Passes (CX : CXT) (X : Cx) (E : XK) : Prop := ∀ (pins : List (Addr × Obj)) (σ : St) (H : Hp) (s : Shared) (e : Value) (s' : Shared), Inv X pins σ H s → CX X.stack H s E e s' → X.xe e s'

section
variable {X : Cx} {CX : CXT} {k : Nat} {f C : Addr} {fd : FuncData} {ps : List Str} {sp : Sp} {dvs : List V} {ds : List Value} {E : XK} {x m : Str} {p pos apos : Pos} {e o : Expr} {es : List Expr} {ta : TE} {t : TA}

/-- the callee runs -/
theorem run_fn {pins : List (Addr × Obj)} {σ : St} {H : Hp} {s : Shared} {Q : VK} {us : List Value} {vs : List V} (F : FnOk X.prog X.w X.K X.mg X.base CX k f fd ps sp) (hr : Room k X.A) (hb : Binds X.K fd ps ds) (hd : Vals dvs ds) (hx : Passes CX X E)
    (I : Inv X pins σ H s) (r : Vals vs us) (h : sp (vs ++ dvs) H Q E) : wpAny (model X.prog X.w) X.A (call (.ref f) us) (EP X pins σ Q) X.xe s := by
  have r2 : Vals (vs ++ dvs) (us ++ ds) := r.append hd
  have hl : (us ++ ds).length = ps.length := by rw [← r2.length]; exact F.len _ _ _ _ h
  refine wpAny_call (codeAny_mono (F.run X.A X.stack s H ⟨us, []⟩ (us ++ ds) (vs ++ dvs) Q E hr I.env0 (hb s us I.kIn hl) r2 h) fun r s' hq => ?_)
  cases r with
  | error e => exact hx pins σ H s e s' I hq
  | ok fl =>
    cases fl with
    | ret u => exact I.after hq
    | next => exact False.elim hq
    | brk => exact False.elim hq
    | cont => exact False.elim hq

theorem pe_call (F : FnOk X.prog X.w X.K X.mg X.base CX k f fd ps sp) (hr : Room k X.A) (hg : Gl X x) (hm : X.mg x = some (.ref f)) (hk : PySem.W.keepIn X.K (.ref f) = true) (hb : Binds X.K fd ps ds) (hd : Vals dvs ds) (hx : Passes CX X E)
    (ha : PA X (e :: es) t) (hdb : (x == ("__debug__" : Str)) = false := by decide) (he : starEach (e :: es) X.env = (false, eval e X.env) :: starEach es X.env := by rfl) (hpl : (backTo pos (starEach es X.env)).any (·.1) = false := by rfl) :
    PE X (.Call (.Name x p) (e :: es) [] pos) (tCall sp dvs E t) := by
  intro pins s σ H Q I h
  refine wpAny_Call_Name_kw (ld_glob I hg hm ?_ hdb)
  refine PySem.W.callWith_K (h₀ := X.base) I.ok.mod.kin hk (thn (ha pos pins s σ H _ I h) fun us s1 ⟨vs, H1, I1, r, q⟩ => ⟨I1.kIn, ?_⟩) he hpl
  exact run_fn F hr hb hd hx I1 r q
theorem pe_call0 (F : FnOk X.prog X.w X.K X.mg X.base CX k f fd ps sp) (hr : Room k X.A) (hg : Gl X x) (hm : X.mg x = some (.ref f)) (hk : PySem.W.keepIn X.K (.ref f) = true) (hb : Binds X.K fd ps ds) (hd : Vals dvs ds) (hx : Passes CX X E)
    (hdb : (x == ("__debug__" : Str)) = false := by decide) : PE X (.Call (.Name x p) [] [] pos) (tCall sp dvs E tNil) := by
  intro pins s σ H Q I h
  refine wpAny_Call_Name_kw (ld_glob I hg hm ?_ hdb)
  exact PySem.W.callWith_K0 I.kIn hk (run_fn (us := []) F hr hb hd hx I .nil h)

/-- o.m(e, ..) -/
theorem pe_meth {pl : Sem Bool} (he : PE X o ta) (c : Cls X.K C) (hm : Meth X.K C m f) (F : FnOk X.prog X.w X.K X.mg X.base CX k f fd ps sp) (hr : Room k X.A) (hb : Binds X.K fd ps ds) (hd : Vals dvs ds) (hx : Passes CX X E) (ha : PA X (e :: es) t)
    (hst : starEach (e :: es) X.env = (false, eval e X.env) :: starEach es X.env := by rfl) (hpl : (backTo pos (starEach es X.env)).any (·.1) = false := by rfl)
    (ht : eval (.Call (.Attribute o m apos) (e :: es) [] pos) X.env = (do
      let ov ← eval o X.env
      standAt apos.atName
      let (f, first) ← holding [ov] (getMethod ov m pl)
      callWith pos f first (backTo pos (starEach (e :: es) X.env)) (backToKw pos (keywordEach [] X.env))) := by rfl) :
    PE X (.Call (.Attribute o m apos) (e :: es) [] pos) (tMeth C m sp dvs E ta t) := by
  intro pins s σ H Q I h
  refine PySem.W.methodCall_KW (pl := pl) (thn (he pins s σ H _ I h) fun u s1 ⟨x, H1, I1, rx, a, dx, fs, ex, ea, l, q⟩ => ?_) ht
  subst ex
  obtain rfl : u = Value.ref a := rx
  refine getmeth_ok I1 ea c hm l ?_
  refine PySem.W.callWith_K (first := [.ref a]) (h₀ := X.base) I.ok.mod.kin hm.kp (thn (ha pos pins s1 σ H1 _ I1 q) fun us s2 ⟨vs, H2, I2, r, q2⟩ => ⟨I2.kIn, ?_⟩) hst hpl
  exact run_fn (us := .ref a :: us) (vs := .ref a :: vs) F hr hb hd hx I2 (.cons rfl r) q2
/-- o.m() -/
theorem pe_meth0 {pl : Sem Bool} (he : PE X o ta) (c : Cls X.K C) (hm : Meth X.K C m f) (F : FnOk X.prog X.w X.K X.mg X.base CX k f fd ps sp) (hr : Room k X.A) (hb : Binds X.K fd ps ds) (hd : Vals dvs ds) (hx : Passes CX X E)
    (ht : eval (.Call (.Attribute o m apos) [] [] pos) X.env = (do
      let ov ← eval o X.env
      standAt apos.atName
      let (f, first) ← holding [ov] (getMethod ov m pl)
      callWith pos f first (backTo pos (starEach [] X.env)) (backToKw pos (keywordEach [] X.env))) := by rfl) :
    PE X (.Call (.Attribute o m apos) [] [] pos) (tMeth C m sp dvs E ta tNil) := by
  intro pins s σ H Q I h
  refine PySem.W.methodCall_KW (pl := pl) (thn (he pins s σ H _ I h) fun u s1 ⟨x, H1, I1, rx, a, dx, fs, ex, ea, l, q⟩ => ?_) ht
  subst ex
  obtain rfl : u = Value.ref a := rx
  refine getmeth_ok I1 ea c hm l ?_
  exact PySem.W.callWith_K0 (first := [.ref a]) I1.kIn hm.kp (run_fn (us := [.ref a]) (vs := [.ref a]) F hr hb hd hx I1 (.cons rfl .nil) q)

/-- what a class must have to be made -/
structure Mk (K : PySem.W.Frag) (C f : Addr) : Prop where
  makes : PySem.W.makesIn K C = true
  init : PySem.W.findIn K (.ref C) "__init__" = some (some (.ref f))
  fn : PySem.W.isFn K (.ref f) = true
  kp : PySem.W.keepIn K (.ref C) = true

theorem run_make {pins : List (Addr × Obj)} {σ : St} {H : Hp} {s : Shared} {Q : VK} {us : List Value} {vs : List V} (M : Mk X.K C f) (F : FnOk X.prog X.w X.K X.mg X.base CX k f fd ps sp) (hr : Room (k + 1) X.A) (hb : Binds X.K fd ps ds) (hd : Vals dvs ds)
    (hx : Passes CX X E) (I : Inv X pins σ H s) (r : Vals vs us)
    (h : ∀ x dx, H x = none → H dx = none → dx ≠ x → sp (.ref x :: (vs ++ dvs)) (upd (upd H dx (.own x)) x (.ins C dx [])) (fun v H2 => v = .non ∧ Q (.ref x) H2) E) :
    wpAny (model X.prog X.w) X.A (call (.ref C) us) (EP X pins σ Q) X.xe s := by
  have hq := h (s.heap.objs.size + 1) s.heap.objs.size (I.hok.fresh (Nat.le_succ _)) (I.hok.fresh (Nat.le_refl _)) (Nat.ne_of_lt (Nat.lt_succ_self _))
  have I2 := Inv.made (C := C) I
  have r2 : Vals (V.ref (s.heap.objs.size + 1) :: (vs ++ dvs)) (Value.ref (s.heap.objs.size + 1) :: (us ++ ds)) := .cons rfl (r.append hd)
  have hl : (Value.ref (s.heap.objs.size + 1) :: us ++ ds).length = ps.length := by
    have e := r2.length
    rw [F.len _ _ _ _ hq] at e
    exact e.symm
  refine wpAny_call (make_map (f := f) I.kIn M.makes M.init (beq_iff_eq.mp M.fn) (codeAny_mono (F.run _ X.stack _ _ ⟨Value.ref (s.heap.objs.size + 1) :: us, []⟩ (Value.ref (s.heap.objs.size + 1) :: (us ++ ds)) _ _ E (hr.make C us [])
    (I2.env0.make C us []) (hb _ (Value.ref (s.heap.objs.size + 1) :: us) I2.kIn hl) r2 hq) fun r s' hq' => ?_))
  cases r with
  | error e => exact hx pins σ _ _ e s' I2 hq'
  | ok fl =>
    cases fl with
    | ret u =>
      obtain ⟨v, H', I3, rv, ev, q3⟩ := I2.after hq'
      subst ev
      exact ⟨rv, ⟨V.ref (s.heap.objs.size + 1), H', I3, rfl, q3⟩⟩
    | next => exact False.elim hq'
    | brk => exact False.elim hq'
    | cont => exact False.elim hq'
theorem pe_make (M : Mk X.K C f) (F : FnOk X.prog X.w X.K X.mg X.base CX k f fd ps sp) (hr : Room (k + 1) X.A) (hg : Gl X x) (hm : X.mg x = some (.ref C)) (hb : Binds X.K fd ps ds) (hd : Vals dvs ds) (hx : Passes CX X E)
    (ha : PA X (e :: es) t) (hdb : (x == ("__debug__" : Str)) = false := by decide) (he : starEach (e :: es) X.env = (false, eval e X.env) :: starEach es X.env := by rfl) (hpl : (backTo pos (starEach es X.env)).any (·.1) = false := by rfl) :
    PE X (.Call (.Name x p) (e :: es) [] pos) (tMake C sp dvs E t) := by
  intro pins s σ H Q I h
  refine wpAny_Call_Name_kw (ld_glob I hg hm ?_ hdb)
  refine PySem.W.callWith_K (h₀ := X.base) I.ok.mod.kin M.kp (thn (ha pos pins s σ H _ I h) fun us s1 ⟨vs, H1, I1, r, q⟩ => ⟨I1.kIn, ?_⟩) he hpl
  exact run_make M F hr hb hd hx I1 r q
theorem pe_make0 (M : Mk X.K C f) (F : FnOk X.prog X.w X.K X.mg X.base CX k f fd ps sp) (hr : Room (k + 1) X.A) (hg : Gl X x) (hm : X.mg x = some (.ref C)) (hb : Binds X.K fd ps ds) (hd : Vals dvs ds) (hx : Passes CX X E)
    (hdb : (x == ("__debug__" : Str)) = false := by decide) : PE X (.Call (.Name x p) [] [] pos) (tMake C sp dvs E tNil) := by
  intro pins s σ H Q I h
  refine wpAny_Call_Name_kw (ld_glob I hg hm ?_ hdb)
  exact PySem.W.callWith_K0 I.kIn M.kp (run_make (us := []) M F hr hb hd hx I .nil h)
end

/-! ### keywords -/
/-- the values of the keywords, from the left -/
def PK (X : Cx) (kws : List Keyword) (t : TA) : Prop :=
  ∀ (pos : Pos) (pins : List (Addr × Obj)) (s : Shared) (σ : St) (H : Hp) (Q : List V → Hp → Prop), Inv X pins σ H s → t σ H Q → wpAny (model X.prog X.w) X.A (evalAll ((backToKw pos (keywordEach kws X.env)).map (·.2))) (AP X pins σ Q) X.xe s
section
variable {X : Cx} {CX : CXT} {k : Nat} {f C : Addr} {fd : FuncData} {ps ks : List Str} {sp : Sp} {E : XK} {x m : Str} {p pos apos kpos : Pos} {e o : Expr} {es : List Expr} {kws : List Keyword} {te ta : TE} {t tk : TA} {nm : Option Str}
theorem pk_nil : PK X [] tNil := fun _ _ _ _ H Q I h => wpAny_evalAll_nil ⟨[], H, I, .nil, h⟩
theorem pk_cons (ha : PE X e te) (hr : PK X kws t) : PK X (⟨nm, e, kpos⟩ :: kws) (tCons te t) := by
  intro pos pins s σ H Q I h
  show wpAny _ _ (evalAll ((do let v ← eval e X.env; standAt pos; pure v) :: (backToKw pos (keywordEach kws X.env)).map (·.2))) _ _ s
  refine wpAny_evalAll_cons (wpAny_bind (thn (ha pins s σ H _ I h) fun u s1 ⟨x, H1, I1, r1, q1⟩ => wpAny_bind (wpAny_standAt (wpAny_pure ?_))))
  exact thn (hr pos pins s1 σ H1 _ I1 q1) fun us s2 ⟨xs, H2, I2, r2, q2⟩ => ⟨x :: xs, H2, I2, .cons r1 r2, q2⟩

/-- how a call with keywords binds: g puts the positional values us and the keywords' values ws (names ks) in the parameters' order, defaults among them -/
structure KBinds (K : PySem.W.Frag) (fd : FuncData) (ps ks : List Str) (g : List Value → List Value → List Value) (gV : List V → List V → List V) : Prop where
  to : ∀ (s : Shared) (us ws : List Value), K.In s.heap → (g us ws).length = ps.length → BindsTo s fd ⟨us, ks.zip ws⟩ (ps.zip (g us ws))
  rel : ∀ {vs : List V} {us : List Value} {zs : List V} {ws : List Value}, Vals vs us → Vals zs ws → Vals (gV vs zs) (g us ws)
def tCallK (sp : Sp) (gV : List V → List V → List V) (E : XK) (t tk : TA) : TE := fun σ H Q => t σ H fun vs H1 => tk σ H1 fun zs H2 => sp (gV vs zs) H2 Q E
variable {g : List Value → List Value → List Value} {gV : List V → List V → List V}
theorem run_fnk {pins : List (Addr × Obj)} {σ : St} {H : Hp} {s : Shared} {Q : VK} {us ws : List Value} {vs zs : List V} (F : FnOk X.prog X.w X.K X.mg X.base CX k f fd ps sp) (hr : Room k X.A) (hb : KBinds X.K fd ps ks g gV) (hx : Passes CX X E)
    (I : Inv X pins σ H s) (r : Vals vs us) (rz : Vals zs ws) (h : sp (gV vs zs) H Q E) : wpAny (model X.prog X.w) X.A (call (.ref f) us (ks.zip ws)) (EP X pins σ Q) X.xe s := by
  have r2 := hb.rel r rz
  have hl : (g us ws).length = ps.length := by rw [← r2.length]; exact F.len _ _ _ _ h
  refine wpAny_call (codeAny_mono (F.run X.A X.stack s H ⟨us, ks.zip ws⟩ (g us ws) (gV vs zs) Q E hr I.env0 (hb.to s us ws I.kIn hl) r2 h) fun r s' hq => ?_)
  cases r with
  | error e => exact hx pins σ H s e s' I hq
  | ok fl =>
    cases fl with
    | ret u => exact I.after hq
    | next => exact False.elim hq
    | brk => exact False.elim hq
    | cont => exact False.elim hq
/-- f(e, .., k = v, ..) -/
theorem pe_callK (F : FnOk X.prog X.w X.K X.mg X.base CX k f fd ps sp) (hr : Room k X.A) (hg : Gl X x) (hm : X.mg x = some (.ref f)) (hk : PySem.W.keepIn X.K (.ref f) = true) (hb : KBinds X.K fd ps ks g gV) (hx : Passes CX X E)
    (ha : PA X (e :: es) t) (hkw : PK X kws tk) (hall : (backToKw pos (keywordEach kws X.env)).all (·.1.isSome) = true := by rfl) (hks : (backToKw pos (keywordEach kws X.env)).filterMap (·.1) = ks := by rfl)
    (hdb : (x == ("__debug__" : Str)) = false := by decide) (he : starEach (e :: es) X.env = (false, eval e X.env) :: starEach es X.env := by rfl)
    (hpl : ((backTo pos (starEach (e :: es) X.env)).any (·.1) || (backToKw pos (keywordEach kws X.env)).any (·.1.isNone)) = false := by rfl) :
    PE X (.Call (.Name x p) (e :: es) kws pos) (tCallK sp gV E t tk) := by
  intro pins s σ H Q I h
  refine wpAny_Call_Name_kw (ld_glob I hg hm ?_ hdb)
  refine PySem.W.callWith_KW (h₀ := X.base) I.ok.mod.kin hk hall (thn (ha pos pins s σ H _ I h) fun us s1 ⟨vs, H1, I1, r, q⟩ => ?_) hpl he
  refine thn (hkw pos pins s1 σ H1 _ I1 q) fun ws s2 ⟨zs, H2, I2, rz, q2⟩ => ⟨I2.kIn, ?_⟩
  rw [hks]
  exact run_fnk F hr hb hx I2 r rz q2
end

/-! ### a def's body keeps its promise -/
/-- names: the parameters first -/
structure FnScope (N P : List Str) (sc : Scope) : Prop where
  kind : sc.kind = .function
  co : sc.isCoroutine = false
  gen : sc.isGenerator = false
  nd : N.Nodup
  pre : N.take P.length = P
  par : ∀ x ∈ P, sc.names.lookup x = some .local ∨ sc.names.lookup x = some .cell
  nofree : ∀ y ∈ sc.names, y.2 ≠ .free

theorem bindL_out {kindOf : Str → Option NameKind} {x : Str} : ∀ {binds : List (Str × Value)} {m : Str → Option Value}, (∀ v, (x, v) ∉ binds) → bindL kindOf binds m x = m x
  | [], _, _ => rfl
  | (n, v) :: r, m, h => by
    unfold bindL
    rw [bindL_out fun w hw => h w (List.mem_cons_of_mem _ hw)]
    split
    · have : x ≠ n := by rintro rfl; exact h v List.mem_cons_self
      simp [this]
    · rfl
theorem bindC_out {kindOf : Str → Option NameKind} {x : Str} : ∀ {binds : List (Str × Value)} {m : Str → Option Value}, (∀ v, (x, v) ∉ binds) → bindC kindOf binds m x = m x
  | [], _, _ => rfl
  | (n, v) :: r, m, h => by
    unfold bindC
    rw [bindC_out fun w hw => h w (List.mem_cons_of_mem _ hw)]
    split
    · rfl
    · have : x ≠ n := by rintro rfl; exact h v List.mem_cons_self
      simp [this]
theorem bindL_get {kindOf : Str → Option NameKind} {x : Str} {v : Value} : ∀ {P : List Str} {vs : List Value} {i : Nat} {m : Str → Option Value}, P.Nodup → P[i]? = some x → vs[i]? = some v → kindOf x = some .local →
    bindL kindOf (P.zip vs) m x = some v
  | [], _, _, _, _, h, _, _ => by simp at h
  | _ :: _, [], _, _, _, _, h, _ => by simp at h
  | p :: P, w :: vs, 0, m, nd, h1, h2, hk => by
    simp at h1 h2; subst h1; subst h2
    show bindL kindOf ((p, w) :: P.zip vs) m p = _
    unfold bindL
    rw [bindL_out fun v hv => (List.nodup_cons.mp nd).1 (List.of_mem_zip hv).1, if_pos hk]
    simp
  | p :: P, w :: vs, i + 1, m, nd, h1, h2, hk => by
    show bindL kindOf ((p, w) :: P.zip vs) m x = _
    unfold bindL
    exact bindL_get (i := i) (List.nodup_cons.mp nd).2 (by simpa using h1) (by simpa using h2) hk
theorem bindC_get {kindOf : Str → Option NameKind} {x : Str} {v : Value} : ∀ {P : List Str} {vs : List Value} {i : Nat} {m : Str → Option Value}, P.Nodup → P[i]? = some x → vs[i]? = some v → kindOf x ≠ some .local →
    bindC kindOf (P.zip vs) m x = some v
  | [], _, _, _, _, h, _, _ => by simp at h
  | _ :: _, [], _, _, _, _, h, _ => by simp at h
  | p :: P, w :: vs, 0, m, nd, h1, h2, hk => by
    simp at h1 h2; subst h1; subst h2
    show bindC kindOf ((p, w) :: P.zip vs) m p = _
    unfold bindC
    rw [bindC_out fun v hv => (List.nodup_cons.mp nd).1 (List.of_mem_zip hv).1, if_neg hk]
    simp
  | p :: P, w :: vs, i + 1, m, nd, h1, h2, hk => by
    show bindC kindOf ((p, w) :: P.zip vs) m x = _
    unfold bindC
    exact bindC_get (i := i) (List.nodup_cons.mp nd).2 (by simpa using h1) (by simpa using h2) hk

/-- the names' values at the entry -/
def start (N : List Str) (vs : List V) : St := vs.map some ++ List.replicate (N.length - vs.length) none

/-- the context of a def's body, at its entry; an exception leaves the frame, then lies as CX says -/
def cxOf (CX : CXT) (P : Program) (w : World) (K : PySem.W.Frag) (mg : Str → Option Value) (base : Heap) (N : List Str) (qual : Str) (scope : Scope) (f : Addr) (cd : Value) (A : Around) (outer : List Env) (s : Shared) (H : Hp) (E : XK) : Cx where
  prog := P
  w := w
  K := K
  mg := mg
  base := base
  A := A.deeper (envOfC qual scope s.heap.objs.size f cd)
  N := N
  s₀ := s
  H₀ := H
  env := envOfC qual scope s.heap.objs.size f cd
  outer := outer
  stack := envOfC qual scope s.heap.objs.size f cd :: outer
  ex := []
  calm := true
  fn := fun _ => true
  pn := []
  xe := fun e s' => wpAny (model P w) (A.deeper (envOfC qual scope s.heap.objs.size f cd)) (leaving (envOfC qual scope s.heap.objs.size f cd) e) (fun _ s'' => CX outer H s E e s'') (fun e' s'' => CX outer H s E e' s'') s'

theorem cell_has {sc : Scope} {n : Nat} {x : Str} (h : sc.names.lookup x = some .cell) : ∃ c, (cellsFrom n sc.names []).lookup x = some c := by
  have q := PySem.W.cellsFrom_some sc.names n [] (.inl h)
  exact Option.isSome_iff_exists.mp q

theorem inv_start {CX : CXT} {P : Program} {w : World} {K : PySem.W.Frag} {mg : Str → Option Value} {base : Heap} {N ps : List Str} {qual : Str} {scope : Scope} {f : Addr} {cd : Value} {A : Around} {outer : List Env} {s s1 : Shared} {H : Hp} {E : XK} {us : List Value} {vs : List V}
    (S : FnScope N ps scope) (hd : A.handled = none) (e0 : Env0 P w K mg base A outer s H) (hl : vs.length = ps.length) (r : Vals vs us)
    (x : InCallC s s.heap.objs.size (bindL (envOfC qual scope s.heap.objs.size f cd).kindOf (ps.zip us) fun _ => none) (cellsFrom (s.heap.objs.size + 1) scope.names []) (bindC (envOfC qual scope s.heap.objs.size f cd).kindOf (ps.zip us) fun _ => none) s1) :
    Inv (cxOf CX P w K mg base N qual scope f cd A outer s H E) [] (start N vs) H s1 := by
  have hpl : ps.length ≤ N.length := by have := congrArg List.length S.pre; rw [List.length_take] at this; omega
  obtain ⟨h1, tk, rfl, hk⟩ := x.done
  have noA : ∀ b : Addr, b ∉ (cxOf CX P w K mg base N qual scope f cd A outer s H E).ex := fun b z => absurd (show b ∈ ([] : List Addr) from z) (by simp)
  refine ⟨⟨e0.mod, S.kind, rfl, rfl, Nat.le_refl _, fun y z c h1 h2 => ?_, fun y hy => ?_, fun y c _ h => ?_, fun _ => hd, Around.frames_deeper e0.frames, .inr ⟨rfl, rfl⟩, fun b z => absurd z (noA b), e0.bs, e0.bsz, fun b _ _ => noA b, fun b z => absurd z (noA b), e0.funs, e0.frf⟩,
    rfl, e0.bare, Un.kept hk, ⟨_, x.toInCall.ns, fun i y v h1 h2 h3 => ?_⟩, fun y c h => ⟨_, x.cell y c h⟩, e0.hok.fresh (Nat.le_refl _), fun y c h => ?_, fun p hp => absurd (show p ∈ ([] : List (Addr × Obj)) from hp) (by simp), e0.hok.kept hk, ?_⟩
  · exact name_of_addr x.apart (PySem.mem_of_lookup h1) (PySem.mem_of_lookup h2)
  · have hy : scope.names.lookup y = some .cell ∨ scope.names.lookup y = some .free := hy
    rcases hy with hy | hy
    · exact cell_has hy
    · exact absurd rfl (S.nofree _ (PySem.mem_of_lookup hy))
  · exact Nat.le_of_lt (x.above y c (PySem.mem_of_lookup h))
  · have hi : i < vs.length := by
      unfold start at h2
      by_cases hi : i < vs.length
      · exact hi
      · rw [List.getElem?_append_right (by simpa using hi)] at h2
        rw [List.getElem?_replicate] at h2
        split at h2 <;> cases h2
    have ha : vs[i]? = some v := by
      unfold start at h2
      rw [List.getElem?_append_left (by simpa using hi), List.getElem?_map] at h2
      cases e : vs[i]? with
      | none => rw [e] at h2; cases h2
      | some a => rw [e] at h2; cases h2; rfl
    obtain ⟨u, hu, rv⟩ := r.get ha
    have hp : ps[i]? = some y := by
      rw [← S.pre, List.getElem?_take_of_lt (by omega)]; exact h1
    have ndP : ps.Nodup := by rw [← S.pre]; exact S.nd.sublist (List.take_sublist _ _)
    refine ⟨u, rv, ?_⟩
    rcases S.par y (List.mem_of_getElem? hp) with k | k
    · exact .inl ⟨k, bindL_get ndP hp hu k⟩
    · obtain ⟨c, e⟩ := cell_has (n := s.heap.objs.size + 1) k
      refine .inr ⟨.inl k, c, e, ?_⟩
      have q := x.cell y c e
      rw [bindC_get ndP hp hu (by show scope.names.lookup y ≠ _; rw [k]; decide)] at q
      exact q
  · exact e0.hok.fresh (Nat.le_of_lt (x.above y c (PySem.mem_of_lookup h)))
  · unfold start
    show _ = N.length
    rw [List.length_append, List.length_map, List.length_replicate]
    omega

/-- THE RULE: a def (or a method) of the text, by its body. The body's reading t is chosen for each entry; it is run at the parameters' values -/
theorem fn_of {CX : CXT} {P : Program} {w : World} {K : PySem.W.Frag} {mg : Str → Option Value} {base : Heap} {k : Nat} {f : Addr} {name qual : Str} {params : Arguments} {body : List Stmt} {scope : Scope} {dV kV doc pm cdv ct oc : Value} {an od : Option Addr}
    {osl : Array (Option Value)} {N ps : List Str} {sp : Sp} (lk : K.lookup f = some ⟨oc, od, .func (PySem.W.fnOf name qual params body scope dV kV doc pm an cdv ct), osl⟩) (hcd : PySem.W.codeIn K cdv qual = true) (S : FnScope N ps scope)
    (len : ∀ vs H Q E, sp vs H Q E → vs.length = ps.length)
    (hbody : ∀ (A : Around) (outer : List Env) (s : Shared) (H : Hp) (vs : List V) (Q : VK) (E : XK), Room k (A.deeper (envOfC qual scope s.heap.objs.size f cdv)) → sp vs H Q E →
      ∃ t, PSs (cxOf CX P w K mg base N qual scope f cdv A outer s H E) body t ∧ t { nx := fun _ H' => Q .non H', rt := Q } (start N vs) H) :
    FnOk P w K mg base CX (k + 1) f (PySem.W.fnOf name qual params body scope dV kV doc pm an cdv ct) ps sp := by
  refine ⟨len, fun A outer s H args us vs Q E hr e0 hb r hsp => ?_⟩
  have hl := len _ _ _ _ hsp
  have KX : K.In s.heap := e0.mod.kin.keeps fun b o e => (e0.bs b o e).1
  have lim : s.heap.NoLimit := e0.mod.nolimit.keeps fun b o e => (e0.bs b o e).1
  have hkind : ∀ y ∈ ps.zip us, scope.names.lookup y.1 = some .local ∨ (scope.names.lookup y.1 = some .cell ∧ ((cellsFrom (s.heap.objs.size + 1) scope.names []).lookup y.1).isSome = true) := fun ⟨n, v⟩ hy => by
    rcases S.par n (List.of_mem_zip hy).1 with q | q
    · exact .inl q
    · exact .inr ⟨q, PySem.W.cellsFrom_some _ _ _ (.inl q)⟩
  refine codeAny_call_function hr.depth (KX _ _ lk) rfl S.co S.gen rfl (PySem.W.codeRec_of KX hcd) (hb _ _ _ _ ?_)
  refine wpAny_newFunctionEnv_cells S.kind hkind fun env he s1 x => ?_
  subst he
  refine ⟨lim.keeps x.toInCall.keep, codeAny_func ?_⟩
  obtain ⟨t, ht, hq⟩ := hbody A outer s H vs Q E (hr.deeper _) hsp
  have I : Inv (cxOf CX P w K mg base N qual scope f cdv A outer s H E) [] (start N vs) H s1 := inv_start S hr.hd e0 hl r x
  refine wpAny_mono (ht [] s1 (start N vs) H _ I hq) (fun fl s' hs => ?_) fun e s' hs => hs
  have fin : ∀ {σ' : St} {H' : Hp} {v : V} {u : Value}, Inv (cxOf CX P w K mg base N qual scope f cdv A outer s H E) [] σ' H' s' → RelV v u → Q v H' → CE outer P w H s Q u s' :=
    fun {σ' H' v u} J rv q => ⟨v, H', J.os, J.bare, J.base, J.hok, rv, q⟩
  cases fl with
  | ret u =>
    obtain ⟨v, σ', H', J, rv, q⟩ := hs
    exact fin J rv q
  | next =>
    obtain ⟨σ', H', J, q⟩ := hs
    exact fin (v := V.non) (u := Value.none) J rfl q
  | brk =>
    obtain ⟨_, _, _, q⟩ := hs
    exact False.elim q
  | cont =>
    obtain ⟨_, _, _, q⟩ := hs
    exact False.elim q
end L2

namespace L2
open PySem PySem.Spec PyProof.Rows
section
variable {X : Cx} {x : Str} {p pos : Pos} {e : Expr} {es : List Expr} {t : TA} {id T : String} {r : List V → Hp → VK → Prop}

def tCB (r : List V → Hp → VK → Prop) (t : TA) : TE := fun σ H Q => t σ H fun vs H1 => r vs H1 Q
/-- f(e, ..), f a built-in function -/
theorem pe_callB (hc : CallR X (.builtin id) r) (hg : Gl X x) (hm : X.mg x = none) (hv : bootBuiltins x = some (.builtin id)) (ha : PA X (e :: es) t) (hn : x ≠ "__name__" := by decide) (hdb : (x == ("__debug__" : Str)) = false := by decide)
    (he : starEach (e :: es) X.env = (false, eval e X.env) :: starEach es X.env := by rfl) (hpl : (backTo pos (starEach es X.env)).any (·.1) = false := by rfl) : PE X (.Call (.Name x p) (e :: es) [] pos) (tCB r t) := by
  intro pins s σ H Q I h
  refine wpAny_Call_Name_kw (ld_blt I hg hm hv ?_ hn hdb)
  exact PyProof.Rows.callWith_builtin1 (thn (ha pos pins s σ H _ I h) fun us s1 ⟨vs, H1, I1, r1, q1⟩ => hc pins s1 σ H1 vs us Q I1 r1 q1) he hpl
/-- T(e, ..), T a built-in type -/
theorem pe_callTy (hc : CallR X (.type T) r) (hg : Gl X x) (hm : X.mg x = none) (hv : bootBuiltins x = some (.type T)) (ha : PA X (e :: es) t) (hn : x ≠ "__name__" := by decide) (hdb : (x == ("__debug__" : Str)) = false := by decide)
    (he : starEach (e :: es) X.env = (false, eval e X.env) :: starEach es X.env := by rfl) (hpl : (backTo pos (starEach es X.env)).any (·.1) = false := by rfl) : PE X (.Call (.Name x p) (e :: es) [] pos) (tCB r t) := by
  intro pins s σ H Q I h
  refine wpAny_Call_Name_kw (ld_blt I hg hm hv ?_ hn hdb)
  exact PyProof.Rows.callWith_type1 (thn (ha pos pins s σ H _ I h) fun us s1 ⟨vs, H1, I1, r1, q1⟩ => hc pins s1 σ H1 vs us Q I1 r1 q1) he hpl
/-- T() -/
theorem pe_callTy0 (hc : CallR X (.type T) r) (hg : Gl X x) (hm : X.mg x = none) (hv : bootBuiltins x = some (.type T)) (hn : x ≠ "__name__" := by decide) (hdb : (x == ("__debug__" : Str)) = false := by decide) :
    PE X (.Call (.Name x p) [] [] pos) (tCB r tNil) := by
  intro pins s σ H Q I h
  refine wpAny_Call_Name_kw (ld_blt I hg hm hv ?_ hn hdb)
  exact PyProof.Rows.callWith_type0 (hc pins s σ H [] [] Q I .nil h)
end
end L2

namespace HT
open PySem PyProof.Rows

/-- t < u of tuples of ints -/
def lexLt : List Int → List Int → Bool
  | [], [] => false
  | [], _ :: _ => true
  | _ :: _, [] => false
  | x :: xs, y :: ys => if x = y then lexLt xs ys else decide (x < y)
theorem lexLt_cons (x y : Int) (xs ys : List Int) : lexLt (x :: xs) (y :: ys) = if x = y then lexLt xs ys else decide (x < y) := rfl
theorem lexLt_nil_nil : lexLt [] [] = false := rfl
theorem lexLt_nil_cons (y : Int) (ys : List Int) : lexLt [] (y :: ys) = true := rfl
theorem lexLt_cons_nil (x : Int) (xs : List Int) : lexLt (x :: xs) [] = false := rfl

theorem eqAt_int (A : Around) (s : Shared) (a : Int) (t : Tok) (c : Int) (u : Tok) : ∃ e, SeqAt.EqAt A s (.int a t) (.int c u) e ∧ (e = true ↔ a = c) :=
  ⟨(a == c), SeqAt.EqAt.int_int a t c u, by simp⟩
theorem rcLt_int (A : Around) (s : Shared) (a : Int) (t : Tok) (c : Int) (u : Tok) (prog : Program) (w : World) (E : Value → Shared → Prop) (Q : Value → Shared → Prop) (h : Q (.bool (decide (a < c))) s) :
    wpAny (model prog w) A (richCompare .Lt (.int a t) (.int c u)) Q E s :=
  (PyProof.Rows.lt_int h : wpAny (model prog w) A (compareOp .Lt (.int a t) (.int c u)) Q E s)

section
open PySem.SeqAt
open PySem.AutoSeq1 (wpAny_loadPart')
open PySem.MeetsSeq PySem.MeetsSeq2 PySem.MeetsSeq3

theorem tuple_lt_ints (l b : Addr) (items items2 : Array Value) (n n2 : Nat) (dd dd2 : Option Addr) (sl sl2 : Array (Option Value)) (ns ms : List Int) (hi : IntsAre items.toList ns) (hj : IntsAre items2.toList ms) :
    Meets (Builtin.«tuple.__lt__» ⟨[.ref l, .ref b], []⟩)
      (fun _ R s => s.heap.get? l = some { cls := .type "tuple", dict := dd, data := .seq items n, slots := sl } ∧ s.heap.get? b = some { cls := .type "tuple", dict := dd2, data := .seq items2 n2, slots := sl2 } ∧
        R (.ok (.ret (.bool (lexLt ns ms)))) s) :=
  .of_wp fun prog w A R s h => by
    obtain ⟨hp, g, d, tk, os⟩ := s; obtain ⟨hl, hb, h⟩ := h
    have f2 := AutoSeq1.sub_tuple_tuple
    have z1 : items.size = ns.length := by rw [← hi.length]; simp
    have z2 : items2.size = ms.length := by rw [← hj.length]; simp
    wp_walk using wpAny_loadPart' hl, wpAny_loadPart' hb, wpAny_forIn_list _ (fun rest b s' => b.1 = none ∧ s' = ⟨hp, g, d, tk, os⟩ ∧ ∃ (vs ws : List Value) (ns' ms' : List Int), rest = vs.zip ws ∧
      IntsAre vs ns' ∧ IntsAre ws ms' ∧ ns'.length + items2.size = ms'.length + items.size ∧ R (.ok (.ret (.bool (lexLt ns' ms')))) ⟨hp, g, d, tk, os⟩) _
    case turn =>
      rintro ⟨y, x⟩ rest b s' ⟨hb', rfl, vs, ws, ns', ms', hz, hvi, hwi, hlen, hR⟩
      cases hvi with
      | nil => rw [List.zip_nil_left] at hz; cases hz
      | cons a t hvi' =>
        cases hwi with
        | nil => rw [List.zip_nil_right] at hz; cases hz
        | cons c u hwi' =>
          rw [List.zip_cons_cons] at hz
          injection hz with hyx hrest
          injection hyx with hy hx
          subst hy hx
          rw [lexLt_cons] at hR
          simp only [List.length_cons] at hlen
          obtain ⟨e, he, hiff⟩ := eqAt_int A.in1 ⟨hp, g, d, tk, os⟩ a t c u
          refine wpAny_bind (he prog w _ _ ?_)
          cases e with
          | true =>
            rw [if_pos (hiff.mp rfl)] at hR
            wp_walk
            exact ⟨rfl, rfl, _, _, _, _, hrest, hvi', hwi', by omega, hR⟩
          | false =>
            rw [if_neg (fun q => absurd (hiff.mpr q) Bool.false_ne_true)] at hR
            have hri := rcLt_int A.in1 ⟨hp, g, d, tk, os⟩ a t c u prog w
            wp_walk using hri
            exact ⟨_, rfl, by simpa using hR⟩
    case fin =>
      rintro ⟨b1, b2⟩ s' ⟨hb', rfl, vs, ws, ns', ms', hz, hvi, hwi, hlen, hR⟩
      simp only at hb'
      subst hb'
      have hv : lexLt ns' ms' = decide (items.size < items2.size) := by
        cases hvi with
        | nil =>
          cases hwi with
          | nil =>
            simp only [List.length_nil] at hlen
            rw [lexLt_nil_nil]
            exact (decide_eq_false (by omega)).symm
          | cons c u hw =>
            simp only [List.length_nil, List.length_cons] at hlen
            rw [lexLt_nil_cons]
            exact (decide_eq_true (by omega)).symm
        | cons a t hv =>
          cases hwi with
          | nil =>
            simp only [List.length_nil, List.length_cons] at hlen
            rw [lexLt_cons_nil]
            exact (decide_eq_false (by omega)).symm
          | cons c u hw =>
            rw [List.zip_cons_cons] at hz
            cases hz
      rw [hv] at hR
      wp_walk
      exact ⟨_, rfl, by simpa [Builtin.Tuple.tupleCompareSizes] using hR⟩
    case h =>
      exact ⟨rfl, rfl, items.toList, items2.toList, ns, ms, rfl, hi, hj, by omega, h⟩
end

section
variable {prog : Program} {w : World} {A : Around} {E : Value → Shared → Prop} {s : Shared}

theorem lt_tupInts {l b : Addr} {items items2 : Array Value} {ns ms : List Int} {Q : Value → Shared → Prop} (hl : IsTup s.heap l items) (hb : IsTup s.heap b items2) (hi : IntsAre items.toList ns) (hj : IntsAre items2.toList ms)
    (hu : A.units < cLine) (h : Q (.bool (lexLt ns ms)) s) : wpAny (model prog w) A (compareOp .Lt (.ref l) (.ref b)) Q E s := by
  obtain ⟨⟨cls, dd, data, sl⟩, ho, hc, n, hd⟩ := id hl
  obtain ⟨⟨cls2, dd2, data2, sl2⟩, ho2, hc2, n2, hd2⟩ := id hb
  simp only at hc hd hc2 hd2
  subst hc hd hc2 hd2
  exact richCompare_meets_room (op := .Lt) ⟨_, ho, rfl⟩ ⟨_, ho2, rfl⟩ PySem.F.slot_tuple_lt PySem.F.entry_tuple_lt (PySem.F.args_tuple_lt_2 _ _) (tuple_lt_ints l b items items2 n n2 dd dd2 sl sl2 ns ms hi hj)
    ⟨ho, ho2, show Value.bool (lexLt ns ms) ≠ Value.notImplemented ∧ Q (.bool (lexLt ns ms)) s from ⟨(fun x => nomatch x), h⟩⟩ hu

/-- t + u, t not empty -/
theorem cat_tup {t b : Addr} {vs ws : List Value} {Q : Value → Shared → Prop} (ht : IsTup s.heap t vs.toArray) (hb : IsTup s.heap b ws.toArray) (hv : vs ≠ [])
    (h1 : ws = [] → Q (.ref t) s) (h2 : ws ≠ [] → Q (.ref s.heap.objs.size) { s with heap := s.heap.push { cls := .type "tuple", data := .seq (vs ++ ws).toArray } })
    (hsz : vs.length + ws.length ≤ sizeLine) : wpAny (model prog w) A (binaryOp .Add (.ref t) (.ref b)) Q E s := by
  obtain ⟨⟨cls, dd, data, sl⟩, ho, hc, n, hd⟩ := id ht
  obtain ⟨⟨cls2, dd2, data2, sl2⟩, ho2, hc2, n2, hd2⟩ := id hb
  simp only at hc hd hc2 hd2
  subst hc hd hc2 hd2
  have e : vs.toArray ++ ws.toArray = (vs ++ ws).toArray := by simp
  by_cases hw : ws = []
  · exact concat_meets ⟨_, ho, rfl⟩ ⟨_, ho2, rfl⟩ noFill_tuple_add seq_tuple_add PySem.F.slot_tuple_add PySem.F.entry_tuple_add (PySem.F.args_tuple_add_2 _ _)
      (tuple_addW1 t b vs.toArray ws.toArray n n2 dd dd2 sl sl2 (by simpa using hv) (by simp [hw])) ⟨ho, ho2, h1 hw⟩
  · refine concat_meets ⟨_, ho, rfl⟩ ⟨_, ho2, rfl⟩ noFill_tuple_add seq_tuple_add PySem.F.slot_tuple_add PySem.F.entry_tuple_add (PySem.F.args_tuple_add_2 _ _)
      (tuple_addW2 t b vs.toArray ws.toArray n n2 dd dd2 sl sl2 (by simpa using hv) (by simpa using hw) (by rw [List.size_toArray, List.size_toArray]; exact hsz)) ⟨ho, ho2, ?_⟩
    rw [e]
    exact h2 hw

/-! ### t[a:b], not the whole -/
/-- a slice's bound as a place among n (d where it is left out) -/
def sIx (n d : Nat) : Option Int → Nat
  | none => d
  | some v => if v < 0 then (v + (n : Int)).toNat else min v.toNat n
theorem sIx_none (n d : Nat) : sIx n d none = d := rfl
theorem sIx_nat (n d k : Nat) : sIx n d (some (k : Int)) = min k n := by
  show (if (k : Int) < 0 then ((k : Int) + (n : Int)).toNat else min (k : Int).toNat n) = min k n
  rw [if_neg (by omega), Int.toNat_natCast]
theorem sIx_le (n d : Nat) (hd : d ≤ n) (o : Option Int) : sIx n d o ≤ n := by
  cases o with
  | none => exact hd
  | some v =>
    show (if v < 0 then (v + (n : Int)).toNat else min v.toNat n) ≤ n
    by_cases hv : v < 0
    · rw [if_pos hv]; omega
    · rw [if_neg hv]; exact Nat.min_le_right _ _
theorem clip_eq (v : Int) (n d : Nat) : (if v < 0 then max (v + (n : Int)) 0 else min v (n : Int)) = ((sIx n d (some v) : Nat) : Int) := by
  show (if v < 0 then max (v + (n : Int)) 0 else min v (n : Int)) = (((if v < 0 then (v + (n : Int)).toNat else min v.toNat n) : Nat) : Int)
  by_cases hv : v < 0
  · simp only [if_pos hv]; omega
  · simp only [if_neg hv]; omega
theorem adjust_gen (lo hi : Option Int) (n : Nat) : Builtin.Slice.sliceAdjust lo hi 1 (n : Int) = (((sIx n 0 lo : Nat) : Int), ((sIx n n hi : Nat) : Int)) := by
  have h1 : ¬ ((1 : Int) < 0) := by omega
  unfold Builtin.Slice.sliceAdjust
  simp only [h1, if_false]
  refine Prod.ext ?_ ?_
  · cases lo with
    | none => rfl
    | some v => exact clip_eq v n 0
  · cases hi with
    | none => rfl
    | some v => exact clip_eq v n n
theorem places_gen (i j : Nat) : Builtin.Slice.slicePlaces (i : Int) (j : Int) 1 = j - i := by
  unfold Builtin.Slice.slicePlaces
  have h1 : (1 : Int) > 0 := by omega
  simp only [h1, if_true, Int.ediv_one]
  split <;> omega
theorem slicePart_ {v : Value} {o : Option Int} {Q : Option Int → Shared → Prop} (p : IsPart v o) (h : Q o s) : wpAny (model prog w) A (Builtin.Slice.slicePartIndex v) Q E s := by
  cases p with
  | none => exact slicePart_none h
  | int i t => exact slicePart_int h
theorem sliceApplied_gen {sl : Addr} {vl vu : Value} {lo hi : Option Int} {n : Nat} {Q : Int × Int × Nat → Shared → Prop} (hs : s.heap.IsSliceOf sl vl vu .none) (pl : IsPart vl lo) (pu : IsPart vu hi)
    (h : Q (((sIx n 0 lo : Nat) : Int), 1, sIx n n hi - sIx n 0 lo) s) : wpAny (model prog w) A (Builtin.Slice.sliceApplied (.ref sl) (pure (n : Int))) Q E s := by
  obtain ⟨os, hos, hcs, hds⟩ := id hs
  unfold Builtin.Slice.sliceApplied Builtin.Slice.sliceFields
  refine wpAny_bind (wpAny_bind (wpAny_field hos hds (x := vl) rfl (wpAny_bind (wpAny_field hos hds (x := vu) rfl (wpAny_bind (wpAny_field hos hds (x := .none) rfl (wpAny_pure ?_)))))))
  refine wpAny_bind (slicePart_none ?_)
  show wpAny _ _ (if ((1 : Int) == 0) = true then _ else _) _ _ s
  rw [if_neg (by decide)]
  refine wpAny_bind (slicePart_ pl (wpAny_bind (slicePart_ pu (wpAny_bind (wpAny_pure ?_)))))
  show wpAny _ _ (match Builtin.Slice.sliceAdjust lo hi 1 (n : Int) with | (lo, hi) => pure (lo, (1 : Int), Builtin.Slice.slicePlaces lo hi 1)) _ _ s
  rw [adjust_gen lo hi n]
  show wpAny _ _ (pure (((sIx n 0 lo : Nat) : Int), (1 : Int), Builtin.Slice.slicePlaces ((sIx n 0 lo : Nat) : Int) ((sIx n n hi : Nat) : Int) 1)) _ _ s
  rw [places_gen]
  exact wpAny_pure h
theorem pick_gen (xs : Array Value) (i k : Nat) : ((List.range k).filterMap fun (m : Nat) => xs[((i : Int) + (m : Int) * 1).toNat]?).toArray = ((xs.toList.drop i).take k).toArray := by
  have e : (fun (m : Nat) => xs[((i : Int) + (m : Int) * 1).toNat]?) = fun m => xs[i + m]? := by
    funext m
    have : ((i : Int) + (m : Int) * 1).toNat = i + m := by omega
    rw [this]
  rw [e]
  have := pick_run xs i k
  rw [List.filterMap_map] at this
  have e2 : ((fun x => xs[x]?) ∘ fun x => i + x) = fun m => xs[i + m]? := rfl
  rw [e2] at this
  rw [this]

theorem getItem_tuple_cut {t sl : Addr} {items : Array Value} {vl vu : Value} {lo hi : Option Int} {Q : Value → Shared → Prop} (ht : IsTup s.heap t items) (hs : s.heap.IsSliceOf sl vl vu .none) (pl : IsPart vl lo) (pu : IsPart vu hi)
    (hw : ¬ (sIx items.size 0 lo = 0 ∧ sIx items.size items.size hi = items.size))
    (h : Q (.ref s.heap.objs.size) { s with heap := s.heap.push { cls := .type "tuple", data := .seq ((items.toList.drop (sIx items.size 0 lo)).take (sIx items.size items.size hi - sIx items.size 0 lo)).toArray } })
    (hsz : items.size ≤ sizeLine) : wpAny (model prog w) A (getItem (.ref t) (.ref sl)) Q E s := by
  have htake : sizeOk (.seq ((items.toList.drop (sIx items.size 0 lo)).take (sIx items.size items.size hi - sIx items.size 0 lo)).toArray) := by
    show ((items.toList.drop (sIx items.size 0 lo)).take (sIx items.size items.size hi - sIx items.size 0 lo)).toArray.size ≤ sizeLine
    rw [List.size_toArray, List.length_take, List.length_drop, Array.length_toList]
    omega
  have hj : sIx items.size items.size hi ≤ items.size := sIx_le _ _ (Nat.le_refl _) hi
  obtain ⟨os, hos, hcs, hds⟩ := id hs
  have hTs : s.TypeIs (.ref sl) "slice" := ⟨os, hos, hcs⟩
  unfold getItem
  try with_reducible refine wpAny_holding ?_
  first | refine wpAny_bind (wpAny_pure ?_) | skip
  refine wpAny_bind (wpAny_sequenceKey ht.typeIs (by decide) ?_)
  refine wpAny_bind (wpAny_callSpecial?_slot (name := Str.ofString "__getitem__") ht.typeIs PyProof.Rows.slot_tuple_getitem
    (wpAny_call_entry PyProof.Rows.slot_tuple_getitem ht.typeIs entry_tuple_getitem ?_ (args_tuple_getitem _ _)))
  show wpAny _ _ (Builtin.Tuple.tupleItemsOf (.ref t) >>= _) _ _ s
  refine wpAny_bind (tupleItemsOf_ ht ?_)
  refine wpAny_bind (wpAny_typeOf hTs ?_)
  rw [if_pos (by decide)]
  refine wpAny_bind (sliceApplied_gen hs pl pu ?_)
  have hno : ¬ ((((sIx items.size 0 lo : Nat) : Int) == 0 && (1 : Int) == 1 && (sIx items.size items.size hi - sIx items.size 0 lo) == items.size) = true) := by
    intro q
    rw [Bool.and_eq_true, Bool.and_eq_true] at q
    have q1 : ((sIx items.size 0 lo : Nat) : Int) = 0 := eq_of_beq q.1.1
    have q2 : sIx items.size items.size hi - sIx items.size 0 lo = items.size := eq_of_beq q.2
    exact hw ⟨by omega, by omega⟩
  show wpAny _ _ (if (((sIx items.size 0 lo : Nat) : Int) == 0 && (1 : Int) == 1 && (sIx items.size items.size hi - sIx items.size 0 lo) == items.size) = true then _ else _) _ _ s
  rw [if_neg hno, pick_gen]
  first
    | exact wpAny_bind (m := Builtin.Tuple.tupleExact _) (wpAny_newObj_type (wpAny_pure ⟨_, rfl, wpAny_pure h⟩) htake)
    | exact wpAny_bind (m := Builtin.Tuple.tupleExact _) (wpAny_newObj_type (wpAny_bind (wpAny_pure (wpAny_pure ⟨_, rfl, wpAny_pure h⟩))) htake)
    | exact wpAny_bind (wpAny_bind (m := Builtin.Tuple.tupleExact _) (wpAny_newObj_type (wpAny_pure (wpAny_pure ⟨_, rfl, wpAny_pure h⟩)) htake))
    | exact wpAny_bind (wpAny_bind (m := Builtin.Tuple.tupleExact _) (wpAny_newObj_type (wpAny_pure ⟨_, rfl, wpAny_pure h⟩) htake))
end
end HT

namespace L2
open PySem PySem.Spec PyProof.Rows

/-! ### the parts of a slice -/
abbrev TO := St → Hp → (Option Int → Hp → Prop) → Prop
/-- a slice's part (left out, or an int) -/
def PO (X : Cx) (e : Option Expr) (t : TO) : Prop :=
  ∀ (pins : List (Addr × Obj)) (s : Shared) (σ : St) (H : Hp) (Q : Option Int → Hp → Prop), Inv X pins σ H s → t σ H Q →
    wpAny (model X.prog X.w) X.A (evalPart e X.env) (fun u s' => ∃ o H', Inv X pins σ H' s' ∧ IsPart u o ∧ Q o H') X.xe s
def tNoPart : TO := fun _ H Q => Q none H
def tPart (t : TE) : TO := fun σ H Q => t σ H fun x H1 => ∃ i, x = .int i ∧ Q (some i) H1

theorem intsAre_of {ns : List Int} : ∀ {us : List Value}, Vals (ns.map V.int) us → IntsAre us ns := by
  induction ns with
  | nil => intro us r; rw [List.map_nil] at r; cases r; exact .nil
  | cons n ns ih =>
    intro us r
    rw [List.map_cons] at r
    cases r with
    | cons r1 r2 =>
      obtain ⟨t, e⟩ := r1
      subst e
      exact .cons n t (ih r2)

section
variable {X : Cx} {e : Expr} {te : TE} {lo hi : Option Expr} {tl th : TO} {pos p2 : Pos}

theorem po_none : PO X none tNoPart := by
  intro pins s σ H Q I h
  rw [evalPart_none]
  exact wpAny_pure ⟨none, H, I, .none, h⟩
theorem po_some (h : PE X e te) : PO X (some e) (tPart te) := by
  intro pins s σ H Q I hw
  rw [evalPart_some]
  refine thn (h pins s σ H _ I hw) fun u s1 ⟨x, H1, I1, r1, q1⟩ => ?_
  obtain ⟨i, rfl, q⟩ := q1
  obtain ⟨t, rfl⟩ := r1
  exact ⟨some i, H1, I1, .int i t, q⟩

/-- what a slice of a value is, by values: the slice object stands at sl -/
def SlR (X : Cx) (r : V → Option Int → Option Int → Hp → VK → Prop) : Prop :=
  ∀ (pins : List (Addr × Obj)) (s : Shared) (σ : St) (H : Hp) (x : V) (v vl vu : Value) (lo hi : Option Int) (sl : Addr) (Q : VK), Inv X pins σ H s → RelV x v → s.heap.IsSliceOf sl vl vu .none → IsPart vl lo → IsPart vu hi → r x lo hi H Q →
    ∃ T id, typeLookup (.type T) "__getitem__" = pure (some (.builtin id)) ∧ s.TypeIs v T ∧ wpAny (model X.prog X.w) X.A (getItem v (.ref sl)) (EP X pins σ Q) X.xe s
theorem SlR.or {r r' : V → Option Int → Option Int → Hp → VK → Prop} (h : SlR X r) (h' : SlR X r') : SlR X (fun x lo hi H Q => r x lo hi H Q ∨ r' x lo hi H Q) := by
  intro pins s σ H x v vl vu lo hi sl Q I rx hs pl pu q
  rcases q with q | q
  · exact h pins s σ H x v vl vu lo hi sl Q I rx hs pl pu q
  · exact h' pins s σ H x v vl vu lo hi sl Q I rx hs pl pu q
def tSl (r : V → Option Int → Option Int → Hp → VK → Prop) (te : TE) (tl th : TO) : TE := fun σ H Q => te σ H fun x H1 => tl σ H1 fun l H2 => th σ H2 fun u H3 => r x l u H3 Q
/-- a[lo:hi], any a -/
theorem pe_slice {r : V → Option Int → Option Int → Hp → VK → Prop} (hr : SlR X r) (he : PE X e te) (hl : PO X lo tl) (hu : PO X hi th) : PE X (.Subscript e (.Slice lo hi none p2) pos) (tSl r te tl th) := by
  intro pins s σ H Q I h
  refine Subscript_ (thn (he pins s σ H _ I h) fun v s1 ⟨x, H1, I1, r1, q1⟩ => ?_)
  refine wpAny_Slice (thn (hl pins s1 σ H1 _ I1 q1) fun vl s2 ⟨l, H2, I2, pl, q2⟩ => thn (hu pins s2 σ H2 _ I2 q2) fun vu s3 ⟨u, H3, I3, pu, q3⟩ => ?_)
  rw [evalPart_none]
  refine wpAny_pure ?_
  have I4 : Inv X pins σ H3 { s3 with heap := s3.heap.push { cls := .type "slice", data := .fields #[vl, vu, .none] } } := I3.kept (t' := s3.toks) fun b ob q => Heap.get?_push_of_some _ q
  obtain ⟨T, id, hT, ht, hg⟩ := hr pins { s3 with heap := s3.heap.push { cls := .type "slice", data := .fields #[vl, vu, .none] } } σ H3 x v vl vu l u s3.heap.objs.size Q I4 r1 (Heap.IsSliceOf.new ..) pl pu q3
  show wpAny (model X.prog X.w) X.A (subscriptTail e (.Slice lo hi none p2) v (.ref s3.heap.objs.size)) (EP X pins σ Q) X.xe { s3 with heap := s3.heap.push { cls := .type "slice", data := .fields #[vl, vu, .none] } }
  exact tail_any (ops := [.ref s3.heap.objs.size, v]) ht hT hg (by with_unfolding_all rfl)

/-- the items of xs[lo:hi] -/
def cutV (xs : List V) (lo hi : Option Int) : List V := (xs.drop (HT.sIx xs.length 0 lo)).take (HT.sIx xs.length xs.length hi - HT.sIx xs.length 0 lo)
theorem cutV_length (xs : List V) (lo hi : Option Int) : (cutV xs lo hi).length ≤ xs.length := by
  unfold cutV
  rw [List.length_take, List.length_drop]
  omega
/-- t[lo:hi], not the whole of it (the whole would be t itself) -/
def rSlT (K : PySem.W.Frag) : V → Option Int → Option Int → Hp → VK → Prop := fun x lo hi H Q => ∃ a xs, x = .ref a ∧ SqT K H a xs ∧
  ¬ (HT.sIx xs.length 0 lo = 0 ∧ HT.sIx xs.length xs.length hi = xs.length) ∧ ∀ p, H p = none → Q (.ref p) (upd H p (.tup (cutV xs lo hi)))
theorem sl_tup : SlR X (rSlT X.K) := by
  intro pins s σ H x v vl vu lo hi sl Q I rx hs pl pu h
  obtain ⟨a, xs, rfl, hx, hw, q⟩ := h
  cases rx
  obtain ⟨its, r, ht, hz⟩ := I.tuple hx
  have hlen : its.toArray.size = xs.length := by rw [List.size_toArray]; exact r.length.symm
  refine ⟨"tuple", _, PyProof.Rows.slot_tuple_getitem.lookup, ht.typeIs, ?_⟩
  refine HT.getItem_tuple_cut ht hs pl pu (by rw [hlen]; exact hw) ?_ (by rw [hlen]; exact hz)
  rw [hlen]
  refine ⟨.ref s.heap.objs.size, _, I.laid (t' := s.toks) (o := .tup (cutV xs lo hi)) (fun b ob q => Heap.get?_push_of_some _ q) (Nat.le_refl _) ?_, rfl, q _ (I.hok.fresh (Nat.le_refl _))⟩
  exact ⟨Nat.le_trans (cutV_length xs lo hi) hz, _, (r.drop (HT.sIx xs.length 0 lo)).take (HT.sIx xs.length xs.length hi - HT.sIx xs.length 0 lo), IsTup.new _ _⟩

/-! ### t < u, t + u -/
def rLtT (K : PySem.W.Frag) : R2 := fun x y H Q => ∃ a b ns ms, x = .ref a ∧ y = .ref b ∧ SqT K H a (ns.map V.int) ∧ SqT K H b (ms.map V.int) ∧ Q (.bl (HT.lexLt ns ms)) H
theorem op_ltT (hu : X.A.units < cLine) : OpR X (compareOp .Lt) (rLtT X.K) := by
  intro pins s σ H x y v u Q I rx ry h
  obtain ⟨a, b, ns, ms, rfl, rfl, ha, hb, q⟩ := h
  cases rx
  cases ry
  obtain ⟨its, r1, p1, _⟩ := I.tuple ha
  obtain ⟨its2, r2, p2, _⟩ := I.tuple hb
  have i1 : IntsAre its.toArray.toList ns := intsAre_of r1
  have i2 : IntsAre its2.toArray.toList ms := intsAre_of r2
  exact HT.lt_tupInts p1 p2 i1 i2 hu ⟨.bl (HT.lexLt ns ms), H, I, rfl, q⟩
/-- t + u, t not empty: u empty gives t itself -/
def rCatT (K : PySem.W.Frag) : R2 := fun x y H Q => ∃ a b xs ys, x = .ref a ∧ y = .ref b ∧ SqT K H a xs ∧ SqT K H b ys ∧ xs ≠ [] ∧ xs.length + ys.length ≤ sizeLine ∧
  (ys = [] → Q (.ref a) H) ∧ (ys ≠ [] → ∀ p, H p = none → Q (.ref p) (upd H p (.tup (xs ++ ys))))
theorem Vals.nil_iff {xs : List V} {us : List Value} (r : Vals xs us) : us = [] ↔ xs = [] := by
  cases r with
  | nil => simp
  | cons _ _ => simp
theorem op_catT : OpR X (binaryOp .Add) (rCatT X.K) := by
  intro pins s σ H x y v u Q I rx ry h
  obtain ⟨a, b, xs, ys, rfl, rfl, ha, hb, hx, hz, q1, q2⟩ := h
  cases rx
  cases ry
  obtain ⟨its, r1, p1, _⟩ := I.tuple ha
  obtain ⟨its2, r2, p2, _⟩ := I.tuple hb
  refine HT.cat_tup p1 p2 (fun z => hx (r1.nil_iff.mp z)) (fun z => ⟨.ref a, H, I, rfl, q1 (r2.nil_iff.mp z)⟩) (fun z => ?_) (by rw [← r1.length, ← r2.length]; exact hz)
  refine ⟨.ref s.heap.objs.size, _, I.laid (t' := s.toks) (o := .tup (xs ++ ys)) (fun b ob q => Heap.get?_push_of_some _ q) (Nat.le_refl _) ?_, rfl, q2 (fun w => z (r2.nil_iff.mpr w)) _ (I.hok.fresh (Nat.le_refl _))⟩
  exact ⟨by rw [List.length_append]; exact hz, _, r1.append r2, IsTup.new _ _⟩
/-- tuple(t) -/
theorem call_tupleT : CallR X (.type "tuple") (fun xs H Q => ∃ a ys, xs = [.ref a] ∧ SqT X.K H a ys ∧ Q (.ref a) H) := by
  intro pins s σ H xs us Q I r h
  obtain ⟨a, ys, rfl, ha, q⟩ := h
  obtain ⟨u, rfl, ru⟩ := vals1 r
  cases ru
  obtain ⟨its, _, p1, _⟩ := I.tuple ha
  exact call_tuple_same (items := its.toArray) p1 ⟨.ref a, H, I, rfl, q⟩
end
end L2

namespace L2
open PySem PySem.Spec PyProof.Rows

/-! ### places -/
/-- the place that an index of any sign means -/
def ixN (n : Nat) (i : Int) : Option Nat := if 0 ≤ i then (if i < n then some i.toNat else none) else if -(n : Int) ≤ i then some (i + n).toNat else none
def atI {α : Type} (xs : List α) (i : Int) : Option α := (ixN xs.length i).bind fun j => xs[j]?
theorem ixN_seq {n : Nat} {i : Int} {j : Nat} (h : ixN n i = some j) : seqIndex? i n = some j ∧ j < n ∧ -(n : Int) ≤ i ∧ i < n := by
  unfold ixN at h
  by_cases h0 : 0 ≤ i
  · rw [if_pos h0] at h
    by_cases h1 : i < n
    · rw [if_pos h1] at h
      have e : i.toNat = j := Option.some.inj h
      exact ⟨by rw [seqIndex_of h0 h1, e], by omega, by omega, h1⟩
    · rw [if_neg h1] at h; cases h
  · rw [if_neg h0] at h
    by_cases h1 : -(n : Int) ≤ i
    · rw [if_pos h1] at h
      have e : (i + n).toNat = j := Option.some.inj h
      exact ⟨by rw [seqIndex_neg (by omega) h1, e], by omega, h1, by omega⟩
    · rw [if_neg h1] at h; cases h
theorem atI_get {α : Type} {xs : List α} {i : Int} {v : α} (h : atI xs i = some v) : ∃ j, seqIndex? i xs.length = some j ∧ xs[j]? = some v ∧ j < xs.length ∧ -(xs.length : Int) ≤ i ∧ i < xs.length := by
  unfold atI at h
  cases e : ixN xs.length i with
  | none => rw [e] at h; cases h
  | some j =>
    rw [e] at h
    obtain ⟨h1, h2, h3, h4⟩ := ixN_seq e
    exact ⟨j, h1, h, h2, h3, h4⟩
theorem atI_nat {α : Type} {xs : List α} {j : Nat} {v : α} (h : xs[j]? = some v) : atI xs (j : Int) = some v := by
  have hj : j < xs.length := (List.getElem?_eq_some_iff.mp h).1
  have e : ixN xs.length (j : Int) = some j := by
    unfold ixN
    rw [if_pos (by omega), if_pos (by omega)]; simp
  unfold atI; rw [e]; exact h
theorem atI_last {α : Type} (xs : List α) (v : α) : atI (xs ++ [v]) (-1) = some v := by
  have hl : (xs ++ [v]).length = xs.length + 1 := by simp
  have e : ixN (xs ++ [v]).length (-1) = some xs.length := by
    unfold ixN
    rw [hl, if_neg (by decide), if_pos (by omega)]
    congr 1
    omega
  unfold atI
  rw [e]
  show (xs ++ [v])[xs.length]? = some v
  simp

/-! ### what may be subscripted -/
/-- what stands as an index of a plain subscript -/
def PlainIx (b : Expr) : Prop := ∀ o i, subscripted b false o i = operate [o, i] (getItem o i)
/-- a subscript by values -/
def IxR (X : Cx) (r : R2) : Prop :=
  ∀ (value slice : Expr) (pins : List (Addr × Obj)) (s : Shared) (σ : St) (H : Hp) (x y : V) (v u : Value) (Q : VK), Inv X pins σ H s → RelV x v → RelV y u → r x y H Q →
    subscripted slice false v u = operate [v, u] (getItem v u) → wpAny (model X.prog X.w) X.A (subscriptTail value slice v u) (EP X pins σ Q) X.xe s
/-- a call of a builtin's method by values: the receiver, the arguments -/
def MtR (X : Cx) (id : String) (r : V → List V → Hp → VK → Prop) : Prop :=
  ∀ (pins : List (Addr × Obj)) (s : Shared) (σ : St) (H : Hp) (x : V) (xs : List V) (v : Value) (us : List Value) (Q : VK), Inv X pins σ H s → RelV x v → Vals xs us → r x xs H Q →
    wpAny (model X.prog X.w) X.A (call (.builtin id) (v :: us)) (EP X pins σ Q) X.xe s
section
variable {X : Cx} {a b : Expr} {ta tb : TE} {pos : Pos}
theorem IxR.or {r r' : R2} (h : IxR X r) (h' : IxR X r') : IxR X (fun x y H Q => r x y H Q ∨ r' x y H Q) := by
  intro value slice pins s σ H x y v u Q I rx ry q hs
  rcases q with q | q
  · exact h value slice pins s σ H x y v u Q I rx ry q hs
  · exact h' value slice pins s σ H x y v u Q I rx ry q hs
theorem MtR.or {id : String} {r r' : V → List V → Hp → VK → Prop} (h : MtR X id r) (h' : MtR X id r') : MtR X id (fun x xs H Q => r x xs H Q ∨ r' x xs H Q) := by
  intro pins s σ H x xs v us Q I rx rs q
  rcases q with q | q
  · exact h pins s σ H x xs v us Q I rx rs q
  · exact h' pins s σ H x xs v us Q I rx rs q
/-- a[b] -/
theorem pe_ix {r : R2} (hr : IxR X r) (ha : PE X a ta) (hb : PE X b tb) (hs : PlainIx b) : PE X (.Subscript a b pos) (tOp r ta tb) := by
  intro pins s σ H Q I h
  exact Subscript_ (binT ha hb I h fun v u s2 x y H2 I2 rx ry q => hr a b pins s2 σ H2 x y v u Q I2 rx ry q (hs _ _))

def rIxL (K : PySem.W.Frag) : R2 := fun x y H Q => ∃ p xs i v, x = .ref p ∧ y = .int i ∧ SqL K H p xs ∧ atI xs i = some v ∧ Q v H
def rIxT (K : PySem.W.Frag) : R2 := fun x y H Q => ∃ p xs i v, x = .ref p ∧ y = .int i ∧ SqT K H p xs ∧ atI xs i = some v ∧ Q v H
def rIxS : R2 := fun x y H Q => ∃ z i c, x = .str z ∧ y = .int i ∧ z.length ≤ sizeLine ∧ atI z.cps.toList i = some c ∧ Q (.str ⟨#[c]⟩) H
theorem ix_list : IxR X (rIxL X.K) := by
  intro value slice pins s σ H x y v u Q I rx ry h hs
  obtain ⟨p, xs, i, z, rfl, rfl, hq, he, q⟩ := h
  cases rx
  obtain ⟨t, rfl⟩ := ry
  obtain ⟨its, r, pl, hz⟩ := I.list hq
  obtain ⟨j, h1, h2, h3, h4, h5⟩ := atI_get he
  obtain ⟨w, ew, rw'⟩ := r.get h2
  have hl := r.length
  have hn := line63
  have fin : EP X pins σ Q w s := ⟨z, H, I, rw', q⟩
  by_cases h0 : 0 ≤ i
  · have hj : i.toNat = j := by
      rw [seqIndex_of h0 h5] at h1
      exact Option.some.inj h1
    exact item_listR pl.isList h0 (by omega) (by rw [hj]; simpa using ew) fin hs
  · have hj : (i + (its.toArray.size : Int)).toNat = j := by
      rw [seqIndex_neg (by omega) h4] at h1
      rw [List.size_toArray, ← hl]
      exact Option.some.inj h1
    exact subscriptTail_builtinR (x := w) pl.isList.typeIs slot_list_getitem.lookup
      (wpAny_getItem_list_neg (Q := fun r s' => r = w ∧ EP X pins σ Q r s') pl.isList (by omega) (by rw [List.size_toArray] <;> omega) (by omega) (by rw [hj]; simpa using ew) ⟨rfl, fin⟩) hs
theorem ix_tup : IxR X (rIxT X.K) := by
  intro value slice pins s σ H x y v u Q I rx ry h hs
  obtain ⟨p, xs, i, z, rfl, rfl, hq, he, q⟩ := h
  cases rx
  obtain ⟨t, rfl⟩ := ry
  obtain ⟨its, r, pl, hz⟩ := I.tuple hq
  obtain ⟨j, h1, h2, h3, h4, h5⟩ := atI_get he
  obtain ⟨w, ew, rw'⟩ := r.get h2
  have hl := r.length
  have hn := line63
  have fin : EP X pins σ Q w s := ⟨z, H, I, rw', q⟩
  exact subscriptTail_builtinR (x := w) pl.typeIs slot_tuple_getitem.lookup
    (getItem_tuple (j := j) (Q := fun r s' => r = w ∧ EP X pins σ Q r s') pl (by omega) (by omega) (by rw [List.size_toArray, ← hl]; exact h1) (by simpa using ew) ⟨rfl, fin⟩) hs
theorem ix_str : IxR X rIxS := by
  intro value slice pins s σ H x y v u Q I rx ry h hs
  obtain ⟨z, i, c, rfl, rfl, hz, he, q⟩ := h
  obtain ⟨t, rfl⟩ := rx
  obtain ⟨t', rfl⟩ := ry
  obtain ⟨j, h1, h2, h3, h4, h5⟩ := atI_get he
  have hl : z.cps.toList.length = z.length := by simp [Str.length]
  rw [hl] at h1 h4 h5
  have hn := line63
  exact tail_any (typeIs_str s z t) slot_str_getitem.lookup (getItem_str (c := c) (by
    have e1 : decide (i < -(2 ^ 63 : Int)) = false := decide_eq_false (by omega)
    have e2 : decide (i ≥ 2 ^ 63) = false := decide_eq_false (by omega)
    rw [e1, e2, Bool.or_false]) (by rw [h1]; simpa using h2) ⟨.str ⟨#[c]⟩, H, I.tok _, ⟨_, rfl⟩, q⟩) hs
/-- list, tuple or str -/
def rIx (K : PySem.W.Frag) : R2 := fun x y H Q => rIxL K x y H Q ∨ rIxT K x y H Q ∨ rIxS x y H Q
theorem ix_seq : IxR X (rIx X.K) := ix_list.or (ix_tup.or ix_str)

/-! ### xs[i] = v, any sign -/
/-- the list's object behind a store -/
theorem mapSeq_set (its : List Value) (n j : Nat) (u : Value) : Obj.mapSeq (·.setIfInBounds j u) { cls := .type "list", data := .seq its.toArray n } = { cls := .type "list", data := .seq (its.set j u).toArray n } := by
  simp [Obj.mapSeq]
theorem Inv.lst {pins : List (Addr × Obj)} {σ : St} {H : Hp} {s : Shared} {p : Addr} {xs : List V} (I : Inv X pins σ H s) (h : H p = some (.lst xs)) :
    ∃ (its : List Value) (n : Nat), Vals xs its ∧ s.heap.get? p = some { cls := .type "list", data := .seq its.toArray n } ∧ xs.length ≤ sizeLine := by
  obtain ⟨z, its, n, r, e⟩ := I.hok p _ h
  exact ⟨its, n, r, e, z⟩
/-- the list at p is written by an update of its object -/
theorem Inv.lstUpd {pins : List (Addr × Obj)} {σ : St} {H : Hp} {s : Shared} {p : Addr} {xs ys : List V} {its its' : List Value} {n n' : Nat} {f : Obj → Obj} (I : Inv X pins σ H s) (h : H p = some (.lst xs))
    (ho : s.heap.get? p = some { cls := .type "list", data := .seq its.toArray n }) (hf : f { cls := .type "list", data := .seq its.toArray n } = { cls := .type "list", data := .seq its'.toArray n' }) (r : Vals ys its') (hz : ys.length ≤ sizeLine) (t : Nat) :
    Inv X pins σ (upd H p (.lst ys)) { s with heap := s.heap.update p f, toks := t } := by
  have e : (s.heap.update p f).get? p = some { cls := .type "list", data := .seq its'.toArray n' } := by
    rw [Heap.get?_update_self f ho (by rw [hf] <;> rfl), hf]
  refine I.write (x := p) (e := p) (by rw [h]; trivial) (.inl rfl) (fun b u hb q => (Heap.get?_update_other _ _ (Ne.symm hb)).trans q) ⟨_, e⟩ ?_
  exact ⟨hz, its', n', r, e⟩
def rSetL : V → V → V → Hp → (Hp → Prop) → Prop := fun o i v H Q => ∃ p xs k j, o = .ref p ∧ i = .int k ∧ H p = some (.lst xs) ∧ ixN xs.length k = some j ∧ Q (upd H p (.lst (xs.set j v)))
theorem set_list : PSet X rSetL := by
  intro pins s σ H o i v ov iv u Q I ro ri rv h
  obtain ⟨p, xs, k, j, rfl, rfl, hp, hj, q⟩ := h
  cases ro
  obtain ⟨t, rfl⟩ := ri
  obtain ⟨its, n, r, ho, hz⟩ := I.lst hp
  obtain ⟨h1, h2, h3, h4⟩ := ixN_seq hj
  have hl := r.length
  have hn := line63
  have I' : Inv X pins σ (upd H p (.lst (xs.set j v))) { s with heap := s.heap.update p (Obj.mapSeq (·.setIfInBounds j u)) } :=
    I.lstUpd hp ho (mapSeq_set its n j u) (r.set rv j) (by rw [List.length_set]; exact hz) s.toks
  by_cases h0 : 0 ≤ k
  · have hk : k.toNat = j := by
      rw [seqIndex_of h0 h4] at h1
      exact Option.some.inj h1
    exact PySem.W.ki_setAt ho h0 (by omega) (by rw [List.size_toArray, ← hl]; exact h4) (by rw [hk]; exact ⟨_, I', q⟩)
  · have hk : (k + (its.toArray.size : Int)).toNat = j := by
      rw [seqIndex_neg (by omega) h3] at h1
      rw [List.size_toArray, ← hl]
      exact Option.some.inj h1
    exact PySem.W.ki_setBack ho (by omega) (by rw [List.size_toArray, ← hl]; exact h3) (by omega) (by rw [hk]; exact ⟨_, I', q⟩)

/-! ### slices -/
theorem slice_bounds (lo hi : Option Int) (n : Nat) : (sliceBounds lo hi none n).1 = ((HT.sIx n 0 lo : Nat) : Int) ∧ (sliceBounds lo hi none n).2.1 = ((HT.sIx n n hi : Nat) : Int) ∧ (sliceBounds lo hi none n).2.2 = 1 := by
  refine ⟨?_, ?_, rfl⟩
  · cases lo with
    | none => simp [sliceBounds, HT.sIx]
    | some i =>
      simp only [sliceBounds, HT.sIx, Option.getD_none, show (1 : Int) > 0 by decide, if_true]
      by_cases h : i < 0
      · simp only [h, if_true] <;> omega
      · simp only [h, if_false] <;> omega
  · cases hi with
    | none => simp [sliceBounds, HT.sIx]
    | some i =>
      simp only [sliceBounds, HT.sIx, Option.getD_none, show (1 : Int) > 0 by decide, if_true]
      by_cases h : i < 0
      · simp only [h, if_true] <;> omega
      · simp only [h, if_false] <;> omega
theorem slicePick_cut (its : List Value) (lo hi : Option Int) : slicePick its.toArray lo hi none = ((its.drop (HT.sIx its.length 0 lo)).take (HT.sIx its.length its.length hi - HT.sIx its.length 0 lo)).toArray := by
  obtain ⟨h1, h2, h3⟩ := slice_bounds lo hi its.toArray.size
  unfold slicePick
  rw [h1, h2, h3]
  simp only [sliceRange_one, pick_run, List.size_toArray] <;> rfl
/-- xs[lo:hi] of a list: a new list -/
def rSlL (K : PySem.W.Frag) : V → Option Int → Option Int → Hp → VK → Prop := fun x lo hi H Q => ∃ a xs, x = .ref a ∧ SqL K H a xs ∧ ∀ p, H p = none → Q (.ref p) (upd H p (.lst (cutV xs lo hi)))
theorem sl_list : SlR X (rSlL X.K) := by
  intro pins s σ H x v vl vu lo hi sl Q I rx hs pl pu h
  obtain ⟨a, xs, rfl, hx, q⟩ := h
  cases rx
  obtain ⟨its, r, ht, hz⟩ := I.list hx
  have hlen := r.length
  refine ⟨"list", _, slot_list_getitem.lookup, ht.isList.typeIs, ?_⟩
  refine wpAny_getItem_list_slice ht.isList hs pl pu .none (by simp) ?_ (by rw [List.size_toArray] <;> omega)
  rw [slicePick_cut, ← hlen]
  refine ⟨.ref s.heap.objs.size, _, I.laid (t' := s.toks) (o := .lst (cutV xs lo hi)) (fun b ob q => Heap.get?_push_of_some _ q) (Nat.le_refl _) ?_, rfl, q _ (I.hok.fresh (Nat.le_refl _))⟩
  exact ⟨Nat.le_trans (cutV_length xs lo hi) hz, _, 0, (r.drop (HT.sIx xs.length 0 lo)).take (HT.sIx xs.length xs.length hi - HT.sIx xs.length 0 lo), Heap.get?_push_size _ rfl⟩

/-! ### in, not in: flat items -/
def flatV : V → Bool
  | .non => true
  | .bl _ => true
  | .int _ => true
  | .str _ => true
  | _ => false
/-- == of flat values -/
def eqV : V → V → Bool
  | .non, .non => true
  | .bl a, .bl b => a == b
  | .bl a, .int b => (if a then 1 else 0) == b
  | .int a, .bl b => a == (if b then 1 else 0)
  | .int a, .int b => a == b
  | .str a, .str b => a == b
  | _, _ => false
theorem eqAt_V {A : Around} {s : Shared} {y x : V} {u v : Value} (ry : RelV y u) (rx : RelV x v) (fy : flatV y = true) (fx : flatV x = true) : SeqAt.EqAt A s u v (eqV y x) := by
  cases y with
  | non =>
    cases ry
    cases x with
    | non => cases rx; exact SeqAt.EqAt.same _
    | bl b => cases rx; exact SeqAt.EqAt.none_bool b
    | int b => obtain ⟨t, rfl⟩ := rx; exact SeqAt.EqAt.none_int b t
    | str b => obtain ⟨t, rfl⟩ := rx; exact SeqAt.EqAt.none_str b t
    | _ => exact absurd (show false = true from fx) Bool.false_ne_true
  | bl a =>
    cases ry
    cases x with
    | non => cases rx; exact SeqAt.EqAt.bool_none a
    | bl b => cases rx; exact SeqAt.EqAt.bool_bool a b
    | int b => obtain ⟨t, rfl⟩ := rx; exact SeqAt.EqAt.bool_int a b t
    | str b => obtain ⟨t, rfl⟩ := rx; exact SeqAt.EqAt.bool_str a b t
    | _ => exact absurd (show false = true from fx) Bool.false_ne_true
  | int a =>
    obtain ⟨t', rfl⟩ := ry
    cases x with
    | non => cases rx; exact SeqAt.EqAt.int_none a t'
    | bl b => cases rx; exact SeqAt.EqAt.int_bool a t' b
    | int b => obtain ⟨t, rfl⟩ := rx; exact SeqAt.EqAt.int_int a t' b t
    | str b => obtain ⟨t, rfl⟩ := rx; exact SeqAt.EqAt.int_str a t' b t
    | _ => exact absurd (show false = true from fx) Bool.false_ne_true
  | str a =>
    obtain ⟨t', rfl⟩ := ry
    cases x with
    | non => cases rx; exact SeqAt.EqAt.str_none a t'
    | bl b => cases rx; exact SeqAt.EqAt.str_bool a t' b
    | int b => obtain ⟨t, rfl⟩ := rx; exact SeqAt.EqAt.str_int a t' b t
    | str b => obtain ⟨t, rfl⟩ := rx; exact SeqAt.EqAt.str_str a t' b t
    | _ => exact absurd (show false = true from fx) Bool.false_ne_true
  | _ => exact absurd (show false = true from fy) Bool.false_ne_true
/-- the items' answers, read off the values (a value's own answer does not lean on its token) -/
def eqU (x : V) (u : Value) : Bool := match u with
  | .none => eqV .non x
  | .bool b => eqV (.bl b) x
  | .int i _ => eqV (.int i) x
  | .str z _ => eqV (.str z) x
  | _ => false
theorem eqU_of {x y : V} {u : Value} (r : RelV y u) (f : flatV y = true) : eqU x u = eqV y x := by
  cases y with
  | non => cases r; rfl
  | bl b => cases r; rfl
  | int i => obtain ⟨t, rfl⟩ := r; rfl
  | str z => obtain ⟨t, rfl⟩ := r; rfl
  | _ => exact absurd (show false = true from f) Bool.false_ne_true
theorem any_eqU {x : V} : ∀ {xs : List V} {us : List Value}, Vals xs us → xs.all flatV = true → us.any (eqU x) = xs.any fun y => eqV y x
  | _, _, .nil, _ => rfl
  | y :: xs, u :: us, .cons r t, f => by
    rw [List.all_cons, Bool.and_eq_true] at f
    rw [List.any_cons, List.any_cons, eqU_of r f.1, any_eqU t f.2]
theorem mem_eqAt {A : Around} {s : Shared} {x : V} {v : Value} (rx : RelV x v) (fx : flatV x = true) : ∀ {xs : List V} {us : List Value}, Vals xs us → xs.all flatV = true → ∀ u ∈ us, SeqAt.EqAt A s u v (eqU x u)
  | _, _, .nil, _ => fun u hu => by cases hu
  | y :: xs, u :: us, .cons r t, f => fun u' hu => by
    rw [List.all_cons, Bool.and_eq_true] at f
    rcases List.mem_cons.mp hu with rfl | hu
    · rw [eqU_of r f.1]; exact eqAt_V r rx f.1 fx
    · exact mem_eqAt rx fx t f.2 u' hu
def inV (x : V) (xs : List V) : Bool := xs.any fun y => eqV y x
/-- x in a list or tuple of flat items -/
def rIn (K : PySem.W.Frag) (neg : Bool) : R2 := fun x y H Q => ∃ p xs, y = .ref p ∧ (SqL K H p xs ∨ SqT K H p xs) ∧ flatV x = true ∧ xs.all flatV = true ∧ Q (.bl (if neg then !inV x xs else inV x xs)) H
theorem op_in_seq : OpR X (compareOp .In) (rIn X.K false) := by
  intro pins s σ H x y v u Q I rx ry h
  obtain ⟨p, xs, rfl, hq, fx, fs, q⟩ := h
  cases ry
  rcases hq with hq | hq
  · obtain ⟨its, r, pl, hz⟩ := I.list hq
    refine SeqAt.in_listAt (eqU x) pl.isList (fun w hw => mem_eqAt rx fx r fs w (by simpa using hw)) ⟨.bl _, H, I, rfl, ?_⟩
    rw [show its.toArray.any (eqU x) = its.any (eqU x) by simp, any_eqU r fs]
    exact q
  · obtain ⟨its, r, pl, hz⟩ := I.tuple hq
    refine SeqAt.in_tupleAt (eqU x) pl (fun w hw => mem_eqAt rx fx r fs w (by simpa using hw)) ⟨.bl _, H, I, rfl, ?_⟩
    rw [show its.toArray.any (eqU x) = its.any (eqU x) by simp, any_eqU r fs]
    exact q
theorem op_notIn_seq : OpR X (compareOp .NotIn) (rIn X.K true) := by
  intro pins s σ H x y v u Q I rx ry h
  obtain ⟨p, xs, rfl, hq, fx, fs, q⟩ := h
  cases ry
  rcases hq with hq | hq
  · obtain ⟨its, r, pl, hz⟩ := I.list hq
    refine SeqAt.notIn_listAt (eqU x) pl.isList (fun w hw => mem_eqAt rx fx r fs w (by simpa using hw)) ⟨.bl _, H, I, rfl, ?_⟩
    rw [show its.toArray.any (eqU x) = its.any (eqU x) by simp, any_eqU r fs]
    exact q
  · obtain ⟨its, r, pl, hz⟩ := I.tuple hq
    refine SeqAt.notIn_tupleAt (eqU x) pl (fun w hw => mem_eqAt rx fx r fs w (by simpa using hw)) ⟨.bl _, H, I, rfl, ?_⟩
    rw [show its.toArray.any (eqU x) = its.any (eqU x) by simp, any_eqU r fs]
    exact q
theorem op_notIn_str : OpR X (compareOp .NotIn) (fun x y H Q => ∃ i j, x = .str i ∧ y = .str j ∧ Q (.bl (!(!(Builtin.Str.occurrences j i 0 j.length 1).isEmpty))) H) := by
  intro pins s σ H x y v u Q I rx ry h
  obtain ⟨i, j, rfl, rfl, q⟩ := h
  obtain ⟨t, rfl⟩ := rx
  obtain ⟨t', rfl⟩ := ry
  exact notIn_str ⟨.bl _, H, I, rfl, q⟩

/-! ### len, list(x), tuple(x) of any list or tuple that is read -/
theorem call_len_seq : CallR X (.builtin "len") (fun xs H Q => ∃ p ys, xs = [.ref p] ∧ (SqL X.K H p ys ∨ SqT X.K H p ys) ∧ Q (.int ys.length) H) := by
  intro pins s σ H xs us Q I r h
  obtain ⟨p, ys, rfl, hq, q⟩ := h
  obtain ⟨u, rfl, rx⟩ := vals1 r
  cases rx
  have hn := line63
  rcases hq with hq | hq
  · obtain ⟨its, r', pl, hz⟩ := I.list hq
    have hlen := r'.length
    exact Calls.call_len_list pl.isList (by simp only [List.size_toArray] <;> omega) ⟨.int ys.length, H, I.tok _, ⟨s.toks + 1, by rw [List.size_toArray, hlen]⟩, q⟩
  · obtain ⟨its, r', pl, hz⟩ := I.tuple hq
    have hlen := r'.length
    exact len_tuple pl (by simp only [List.size_toArray] <;> omega) ⟨.int ys.length, H, I.tok _, ⟨s.toks + 1, by rw [List.size_toArray, hlen]⟩, q⟩
theorem call_len_str : CallR X (.builtin "len") (fun xs H Q => ∃ z, xs = [.str z] ∧ z.length ≤ sizeLine ∧ Q (.int z.length) H) := by
  intro pins s σ H xs us Q I r h
  obtain ⟨z, rfl, hz, q⟩ := h
  obtain ⟨u, rfl, t, rfl⟩ := vals1 r
  have hn := line63
  exact len_str (by omega) ⟨.int z.length, H, I.tok _, ⟨_, rfl⟩, q⟩
theorem CallR.or {f : Value} {r r' : List V → Hp → VK → Prop} (h : CallR X f r) (h' : CallR X f r') : CallR X f (fun xs H Q => r xs H Q ∨ r' xs H Q) := by
  intro pins s σ H xs us Q I rs q
  rcases q with q | q
  · exact h pins s σ H xs us Q I rs q
  · exact h' pins s σ H xs us Q I rs q
theorem call_list_of : CallR X (.type "list") (fun xs H Q => ∃ p ys, xs = [.ref p] ∧ (SqL X.K H p ys ∨ SqT X.K H p ys) ∧ ∀ l, H l = none → Q (.ref l) (upd H l (.lst ys))) := by
  intro pins s σ H xs us Q I r h
  obtain ⟨p, ys, rfl, hq, q⟩ := h
  obtain ⟨u, rfl, rx⟩ := vals1 r
  cases rx
  have fin : ∀ (its : List Value), Vals ys its → ys.length ≤ sizeLine → ∀ (h' : Heap) (c' : Nat), (∀ b o', s.heap.get? b = some o' → h'.get? b = some o') →
      h'.get? s.heap.objs.size = some { cls := .type "list", dict := none, data := .seq its.toArray c', slots := #[] } → EP X pins σ Q (.ref s.heap.objs.size) { s with heap := h' } := fun its r' hz h' c' kp e =>
    ⟨.ref s.heap.objs.size, _, I.laid (t' := s.toks) kp (Nat.le_refl _) (show ObjOk X.prog X.w _ h' _ (.lst ys) from ⟨hz, its, c', r', e⟩), rfl, q _ (I.hok.fresh (Nat.le_refl _))⟩
  rcases hq with hq | hq
  · obtain ⟨its, r', pl, hz⟩ := I.list hq
    have hlen := r'.length
    obtain ⟨o, ho, hc, n, hd⟩ := pl.isList
    exact call_list_seq p (.inl rfl) ho hc hd (fun h' c' kp e => fin its r' hz h' c' kp e) (by simp only [List.size_toArray] <;> omega)
  · obtain ⟨its, r', pl, hz⟩ := I.tuple hq
    have hlen := r'.length
    obtain ⟨o, ho, hc, n, hd⟩ := pl
    exact call_list_seq p (.inr rfl) ho hc hd (fun h' c' kp e => fin its r' hz h' c' kp e) (by simp only [List.size_toArray] <;> omega)
theorem call_tuple_of : CallR X (.type "tuple") (fun xs H Q => ∃ p ys, xs = [.ref p] ∧ ((SqL X.K H p ys ∧ ∀ l, H l = none → Q (.ref l) (upd H l (.tup ys))) ∨ (SqT X.K H p ys ∧ Q (.ref p) H))) := by
  intro pins s σ H xs us Q I r h
  obtain ⟨p, ys, rfl, h⟩ := h
  obtain ⟨u, rfl, rx⟩ := vals1 r
  cases rx
  rcases h with ⟨hq, q⟩ | ⟨hq, q⟩
  · obtain ⟨its, r', pl, hz⟩ := I.list hq
    have hlen := r'.length
    refine call_tuple_list pl.isList (fun h' kp => ?_) (by simp only [List.size_toArray] <;> omega)
    have I1 : Inv X pins σ H { s with heap := h' } := I.kept (t' := s.toks) kp
    have I2 : Inv X pins σ (upd H h'.objs.size (.tup ys)) { s with heap := h'.push { cls := .type "tuple", data := .seq its.toArray } } :=
      I1.laid (t' := s.toks) (fun b o e => Heap.get?_push_of_some _ e) (Nat.le_refl _) (show ObjOk X.prog X.w _ _ _ (.tup ys) from ⟨hz, its, r', IsTup.new _ _⟩)
    exact ⟨.ref h'.objs.size, _, I2, rfl, q _ (I1.hok.fresh (Nat.le_refl _))⟩
  · obtain ⟨its, r', pl, hz⟩ := I.tuple hq
    exact call_tuple_same pl ⟨.ref p, H, I, rfl, q⟩

/-! ### the call of a builtin's method: o.m(..) -/
/-- the value is of that builtin type -/
def tyV (K : PySem.W.Frag) (T : String) (x : V) (H : Hp) : Prop := match x with
  | .str _ => T = "str"
  | .int _ => T = "int"
  | .ref p => (T = "list" ∧ ∃ xs, SqL K H p xs) ∨ (T = "tuple" ∧ ∃ o, K.lookup p = some o ∧ o.cls = .type "tuple" ∧ o.dict = none) ∨
      (T = "dict" ∧ ((∃ kvs, H p = some (.dK kvs)) ∨ ∃ kvs, H p = some (.dT kvs))) ∨ (T = "set" ∧ ∃ S n, H p = some (.set S n))
  | _ => False
theorem tyV_is {pins : List (Addr × Obj)} {σ : St} {H : Hp} {s : Shared} {T : String} {x : V} {v : Value} (I : Inv X pins σ H s) (r : RelV x v) (ty : tyV X.K T x H) :
    s.TypeIs v T ∧ ∀ a, v = .ref a → ∃ ob, s.heap.get? a = some ob ∧ ob.dict = none := by
  cases x with
  | str z =>
    obtain ⟨t, rfl⟩ := r
    cases (show T = "str" from ty)
    exact ⟨typeIs_str s z t, fun _ e => nomatch e⟩
  | int i =>
    obtain ⟨t, rfl⟩ := r
    cases (show T = "int" from ty)
    exact ⟨typeIs_int s i t, fun _ e => nomatch e⟩
  | ref p =>
    cases r
    rcases ty with ⟨rfl, xs, hq⟩ | ⟨rfl, o, hk, hc, hd⟩ | ⟨rfl, hk⟩ | ⟨rfl, S, n, hk⟩
    · obtain ⟨its, _, pl, _⟩ := I.list hq
      refine ⟨pl.isList.typeIs, fun a e => ?_⟩
      cases e
      obtain ⟨o, n, e, c, hd, _⟩ := pl
      exact ⟨o, e, hd⟩
    · refine ⟨⟨o, I.kIn p o hk, hc⟩, fun a e => ?_⟩
      cases e
      exact ⟨o, I.kIn _ o hk, hd⟩
    · have z : ∃ o, s.heap.get? p = some o ∧ o.ExactDict := by
        rcases hk with ⟨kvs, hk⟩ | ⟨kvs, hk⟩
        · obtain ⟨_, _, _, _, o, _, _, e, ex, _⟩ := I.hok p _ hk
          exact ⟨o, e, ex⟩
        · obtain ⟨_, _, _, _, o, _, _, e, ex, _⟩ := I.hok p _ hk
          exact ⟨o, e, ex⟩
      obtain ⟨o, e, ex⟩ := z
      refine ⟨⟨o, e, ex.1⟩, fun a e2 => ?_⟩
      cases e2
      exact ⟨o, e, ex.2.1⟩
    · obtain ⟨o, _, _, _, e, ex, _⟩ := I.hok p _ hk
      refine ⟨⟨o, e, ex.1⟩, fun a e2 => ?_⟩
      cases e2
      exact ⟨o, e, ex.2.1⟩
  | _ => exact False.elim ty
def tBM0 (K : PySem.W.Frag) (T : String) (r : V → List V → Hp → VK → Prop) (to : TE) : TE := fun σ H Q => to σ H fun x H1 => tyV K T x H1 ∧ r x [] H1 Q
def tBM (K : PySem.W.Frag) (T : String) (r : V → List V → Hp → VK → Prop) (to : TE) (t : TA) : TE := fun σ H Q => to σ H fun x H1 => tyV K T x H1 ∧ t σ H1 fun xs H2 => r x xs H2 Q
variable {o e : Expr} {es : List Expr} {to : TE} {t : TA} {name : Str} {apos cpos : Pos} {T id : String} {r : V → List V → Hp → VK → Prop}
theorem pe_bm0 (pa : PlainAttrs T) (slot : Slot T name id) (hty : typeOf (.builtin id) = pure (.type "method_descriptor")) (hm : MtR X id r) (ho : PE X o to)
    (hbase : attributeBase o name X.env (eval o X.env) = eval o X.env := by rfl) (hline : (apos.endLine == cpos.line) = true := by rfl) : PE X (.Call (.Attribute o name apos) [] [] cpos) (tBM0 X.K T r to) := by
  intro pins s σ H Q I h
  refine wpAny_Call_method0_late hbase hline (thn (ho pins s σ H _ I h) fun v s1 ⟨x, H1, I1, r1, ty, q1⟩ => ?_)
  obtain ⟨h1, h2⟩ := tyV_is I1 r1 ty
  exact ⟨T, id, pa, slot, hty, h1, h2, Calls.callWith_builtin rfl (PySem.evalArgs_none (hm pins s1 σ H1 x [] v [] Q I1 r1 .nil q1))⟩
theorem pe_bm (pa : PlainAttrs T) (slot : Slot T name id) (hty : typeOf (.builtin id) = pure (.type "method_descriptor")) (hm : MtR X id r) (ho : PE X o to) (ha : PA X (e :: es) t)
    (hbase : attributeBase o name X.env (eval o X.env) = eval o X.env := by rfl)
    (hfew : ((backTo cpos (starEach (e :: es) X.env)).all (fun x => !x.1) && (backToKw cpos (keywordEach [] X.env)).all (fun x => x.1.isSome)
      && decide ((e :: es).length + ([] : List Keyword).length + (if ([] : List Keyword).isEmpty then 0 else 1) < 30)) = true := by rfl)
    (hline : (apos.endLine == cpos.line) = true := by rfl) (hs : starEach (e :: es) X.env = (false, eval e X.env) :: starEach es X.env := by rfl) (hplain : (backTo cpos (starEach es X.env)).any (·.1) = false := by rfl) :
    PE X (.Call (.Attribute o name apos) (e :: es) [] cpos) (tBM X.K T r to t) := by
  intro pins s σ H Q I h
  refine wpAny_Call_method_late hbase hfew hline rfl (thn (ho pins s σ H _ I h) fun v s1 ⟨x, H1, I1, r1, ty, q1⟩ => ?_)
  obtain ⟨h1, h2⟩ := tyV_is I1 r1 ty
  refine ⟨T, id, pa, slot, hty, h1, h2, ?_⟩
  have hA := ha cpos pins s1 σ H1 _ I1 q1
  rw [hs] at hA ⊢
  refine Calls.callWith_builtin (by show (false || (backTo cpos (starEach es X.env)).any (·.1)) = false; rw [hplain] <;> rfl) (Calls.evalArgs_plain ?_)
  exact thn hA fun us s2 ⟨vs, H2, I2, r2, q2⟩ => hm pins s2 σ H2 x vs v us Q I2 r1 r2 q2
/- xs.append(e), list.index on a module's tuple .. are MtR facts of 06m -/
end
end L2

namespace L2
open PySem PySem.Spec PyProof.Rows

def MtM (X : Cx) (id : String) (r : V → List V → Hp → VK → Prop) : Prop :=
  ∀ (pins : List (Addr × Obj)) (s : Shared) (σ : St) (H : Hp) (x : V) (xs : List V) (v : Value) (us : List Value) (Q : VK), Inv X pins σ H s → RelV x v → Vals xs us → r x xs H Q →
    wpAny (model X.prog X.w) X.A (call (.builtin id) (v :: us)) (EP X pins σ Q) X.xe s

/-! ### lists of values -/
theorem Vals.one : ∀ {x : V} {us : List Value}, Vals [x] us → ∃ u, us = [u] ∧ RelV x u
  | _, _, .cons r .nil => ⟨_, rfl, r⟩
theorem Vals.two : ∀ {x y : V} {us : List Value}, Vals [x, y] us → ∃ u v, us = [u, v] ∧ RelV x u ∧ RelV y v
  | _, _, _, .cons r (.cons q .nil) => ⟨_, _, rfl, r, q⟩
theorem Vals.zero : ∀ {us : List Value}, Vals [] us → us = []
  | _, .nil => rfl
theorem Vals.dropLast {xs : List V} {us : List Value} (h : Vals xs us) : Vals xs.dropLast us.dropLast := by
  induction h with
  | nil => exact .nil
  | cons r t ih =>
    cases t with
    | nil => exact .nil
    | cons q t' => exact .cons r ih
theorem Vals.eraseIdx : ∀ {xs : List V} {us : List Value} (i : Nat), Vals xs us → Vals (xs.eraseIdx i) (us.eraseIdx i)
  | _, _, _, .nil => .nil
  | _, _, 0, .cons _ t => t
  | _, _, i + 1, .cons r t => .cons r (Vals.eraseIdx i t)
theorem Vals.reverse {xs : List V} {us : List Value} (h : Vals xs us) : Vals xs.reverse us.reverse := by
  induction h with
  | nil => exact .nil
  | cons r t ih => rw [List.reverse_cons, List.reverse_cons]; exact Vals.append ih (.cons r .nil)
theorem Vals.rep {xs : List V} {us : List Value} (h : Vals xs us) : ∀ k : Nat, Vals (List.replicate k xs).flatten (List.replicate k us).flatten
  | 0 => .nil
  | k + 1 => by
    rw [List.replicate_succ, List.replicate_succ, List.flatten_cons, List.flatten_cons]
    exact Vals.append h (Vals.rep h k)
theorem erase_last {α : Type} (l : List α) : l.eraseIdx (l.length - 1) = l.dropLast := by
  induction l with
  | nil => rfl
  | cons a r ih =>
    cases r with
    | nil => rfl
    | cons b r =>
      have e : (a :: b :: r).length - 1 = ((b :: r).length - 1) + 1 := by
        have h1 : (a :: b :: r).length = r.length + 2 := rfl
        have h2 : (b :: r).length = r.length + 1 := rfl
        omega
      rw [e, List.eraseIdx_cons_succ, ih]
      all_goals rfl
theorem len_erase {α : Type} : ∀ (l : List α) (i : Nat), (l.eraseIdx i).length ≤ l.length
  | [], _ => Nat.le_refl _
  | _ :: _, 0 => Nat.le_succ _
  | _ :: r, i + 1 => Nat.succ_le_succ (len_erase r i)
theorem foldl_rep (its : List Value) : ∀ (k : Nat) (acc : List Value),
    List.foldl (fun x1 x2 => x1 ++ x2) acc.toArray (List.replicate k its.toArray) = (acc ++ (List.replicate k its).flatten).toArray
  | 0, acc => by simp
  | k + 1, acc => by
    have e : acc.toArray ++ its.toArray = (acc ++ its).toArray := by simp
    have e2 : (acc ++ its) ++ (List.replicate k its).flatten = acc ++ (List.replicate (k + 1) its).flatten := by
      rw [List.replicate_succ, List.flatten_cons, List.append_assoc]
    rw [← e2, ← foldl_rep its k (acc ++ its), ← e, List.replicate_succ, List.foldl_cons]

section
variable {X : Cx} {pins : List (Addr × Obj)} {σ : St} {H : Hp} {s : Shared} {l b : Addr} {xs ys zs : List V}

/-! ### the two steps: a tracked list is rewritten, a new list is laid -/
theorem Inv.lset {its its' : List Value} {n : Nat} {f : Array Value → Array Value} {t' : Nat} (I : Inv X pins σ H s) (hH : H l = some (.lst xs))
    (e : s.heap.get? l = some { cls := .type "list", data := .seq its.toArray n }) (hf : f its.toArray = its'.toArray) (hv : Vals ys its') (hz : ys.length ≤ sizeLine) :
    Inv X pins σ (upd H l (.lst ys)) { s with heap := s.heap.update l (Obj.mapSeq f), toks := t' } := by
  have q := PySem.IsL.update e f
  rw [hf] at q
  refine I.write (x := l) (e := l) (by rw [hH]; exact trivial) (.inl rfl) (fun b' u hb hu => (Heap.get?_update_other s.heap (Obj.mapSeq f) (Ne.symm hb)).trans hu) ⟨_, q⟩ ?_
  exact ⟨hz, its', _, hv, q⟩
theorem Inv.lnew {its : List Value} {t' : Nat} (I : Inv X pins σ H s) (hv : Vals ys its) (hz : ys.length ≤ sizeLine) :
    Inv X pins σ (upd H s.heap.objs.size (.lst ys)) { s with heap := s.heap.push { cls := .type "list", data := .seq its.toArray }, toks := t' } :=
  I.laid (fun _ _ q => Heap.get?_push_of_some _ q) (Nat.le_refl _) ⟨hz, its, 0, hv, Heap.get?_push_size _ rfl⟩
theorem Inv.fresh (I : Inv X pins σ H s) : H s.heap.objs.size = none := I.hok.fresh (Nat.le_refl _)
theorem Inv.lstM (I : Inv X pins σ H s) (hH : H l = some (.lst xs)) : xs.length ≤ sizeLine ∧ ∃ (its : List Value) (n : Nat), Vals xs its ∧ xs.length = its.length ∧ s.heap.get? l = some { cls := .type "list", data := .seq its.toArray n } := by
  obtain ⟨z, its, n, r, e⟩ := I.hok l _ hH
  exact ⟨z, its, n, r, r.length, e⟩

theorem notLongL {n : Nat} (h : n ≤ sizeLine) : Builtin.List.listTooLong n = false := by
  unfold Builtin.List.listTooLong
  exact decide_eq_false (by omega)
end

section
variable {X : Cx}

/-! ### methods -/
def rAppend : V → List V → Hp → VK → Prop := fun x vs H Q => ∃ l xs y, x = .ref l ∧ vs = [y] ∧ H l = some (.lst xs) ∧ xs.length < sizeLine ∧ Q .non (upd H l (.lst (xs ++ [y])))
theorem mt_append : MtM X "list.append" rAppend := by
  intro pins s σ H x vs v us Q I rx rv h
  obtain ⟨l, xs, y, rfl, rfl, hH, hz, q⟩ := h
  cases rx
  obtain ⟨u, rfl, ru⟩ := rv.one
  obtain ⟨z, its, n, r, hl, e⟩ := I.lstM hH
  refine call_meets F.slot_list_append ⟨_, e, rfl⟩ F.entry_list_append (F.args_list_append_2 _ _) (PySem.list_append l its.toArray n u (by rw [List.size_toArray]; omega)) ⟨e, ?_⟩
  refine ⟨.non, _, I.lset (its' := its ++ [u]) hH e (by simp) (r.append (.cons ru .nil)) ?_, rfl, q⟩
  rw [List.length_append, List.length_singleton]
  omega

def rExtend : V → List V → Hp → VK → Prop := fun x vs H Q => ∃ l b xs zs, x = .ref l ∧ vs = [.ref b] ∧ H l = some (.lst xs) ∧ H b = some (.lst zs) ∧ xs.length + zs.length ≤ sizeLine ∧ Q .non (upd H l (.lst (xs ++ zs)))
theorem mt_extend : MtM X "list.extend" rExtend := by
  intro pins s σ H x vs v us Q I rx rv h
  obtain ⟨l, b, xs, zs, rfl, rfl, hH, hB, hz, q⟩ := h
  cases rx
  obtain ⟨u, rfl, ru⟩ := rv.one
  cases ru
  obtain ⟨z, its, n, r, hl, e⟩ := I.lstM hH
  obtain ⟨z2, its2, n2, r2, hl2, e2⟩ := I.lstM hB
  have hsz : its.toArray.size + its2.toArray.size ≤ sizeLine := by rw [List.size_toArray, List.size_toArray]; omega
  have hlong : ¬ (!its.toArray.isEmpty && Builtin.List.listTooLong (its.toArray.size + its2.toArray.size)) = true := by
    rw [notLongL hsz, Bool.and_false]
    exact Bool.false_ne_true
  refine call_meets F.slot_list_extend ⟨_, e, rfl⟩ F.entry_list_extend (F.args_list_extend_2 _ _)
    (AutoSeq1.list_extend_list_list_0 l its.toArray n b its2.toArray n2 hlong (by rw [List.size_toArray]; omega) (by omega)) ⟨e, e2, ?_⟩
  refine ⟨.non, _, I.lset (its' := its ++ its2) hH e (by simp) (r.append r2) ?_, rfl, q⟩
  rw [List.length_append]
  omega

def rPop : V → List V → Hp → VK → Prop := fun x vs H Q => ∃ l xs y, x = .ref l ∧ vs = [] ∧ H l = some (.lst xs) ∧ xs[xs.length - 1]? = some y ∧ Q y (upd H l (.lst xs.dropLast))
theorem mt_pop : MtM X "list.pop" rPop := by
  intro pins s σ H x vs v us Q I rx rv h
  obtain ⟨l, xs, y, rfl, rfl, hH, hy, q⟩ := h
  cases rx
  have hus := rv.zero
  subst hus
  obtain ⟨z, its, n, r, hl, e⟩ := I.lstM hH
  obtain ⟨u, hu, ru⟩ := r.get hy
  have hy' : its.toArray[its.toArray.size - 1]? = some u := by
    show its.toArray[its.length - 1]? = some u
    rw [← Array.getElem?_toList, ← hl]
    exact hu
  refine call_meets F.slot_list_pop ⟨_, e, rfl⟩ F.entry_list_pop (F.args_list_pop_1 _) (MeetsSeq.list_pop_last l its.toArray n u hy' (by rw [List.size_toArray]; omega)) ⟨e, ?_⟩
  refine ⟨y, _, I.lset (its' := its.dropLast) hH e ?_ r.dropLast ?_, ru, q⟩
  · show its.toArray.eraseIdxIfInBounds (its.toArray.size - 1) = its.dropLast.toArray
    rw [List.size_toArray, List.eraseIdxIfInBounds_toArray, erase_last]
  · rw [List.length_dropLast]
    omega

def rPopAt : V → List V → Hp → VK → Prop := fun x vs H Q => ∃ l xs i k y, x = .ref l ∧ vs = [.int i] ∧ H l = some (.lst xs) ∧ -(2 ^ 63) ≤ i ∧ i < 2 ^ 63 ∧ seqIndex? i xs.length = some k ∧ xs[k]? = some y ∧ Q y (upd H l (.lst (xs.eraseIdx k)))
theorem mt_popAt : MtM X "list.pop" rPopAt := by
  intro pins s σ H x vs v us Q I rx rv h
  obtain ⟨l, xs, i, k, y, rfl, rfl, hH, h1, h2, hk, hy, q⟩ := h
  cases rx
  obtain ⟨u, rfl, ru⟩ := rv.one
  obtain ⟨t, rfl⟩ := ru
  obtain ⟨z, its, n, r, hl, e⟩ := I.lstM hH
  obtain ⟨w, hw, rw'⟩ := r.get hy
  refine call_meets F.slot_list_pop ⟨_, e, rfl⟩ F.entry_list_pop (F.args_list_pop_2 _ _)
    (MeetsSeq.list_pop_at l its.toArray n i t k w (fitsIndex_both h1 h2) (by rw [List.size_toArray, ← hl]; exact hk) (by rw [← Array.getElem?_toList]; exact hw) (by rw [List.size_toArray]; omega)) ⟨e, ?_⟩
  refine ⟨y, _, I.lset (its' := its.eraseIdx k) hH e ?_ (r.eraseIdx k) ?_, rw', q⟩
  · show its.toArray.eraseIdxIfInBounds k = (its.eraseIdx k).toArray
    rw [List.eraseIdxIfInBounds_toArray]
  · have := len_erase xs k
    omega

def rReverse : V → List V → Hp → VK → Prop := fun x vs H Q => ∃ l xs, x = .ref l ∧ vs = [] ∧ H l = some (.lst xs) ∧ Q .non (upd H l (.lst xs.reverse))
theorem mt_reverse : MtM X "list.reverse" rReverse := by
  intro pins s σ H x vs v us Q I rx rv h
  obtain ⟨l, xs, rfl, rfl, hH, q⟩ := h
  cases rx
  have hus := rv.zero
  subst hus
  obtain ⟨z, its, n, r, hl, e⟩ := I.lstM hH
  refine call_meets F.slot_list_reverse ⟨_, e, rfl⟩ F.entry_list_reverse (F.args_list_reverse_1 _) (AutoSeq1.list_reverse_list_0 l its.toArray n (by rw [List.size_toArray]; omega)) ⟨e, ?_⟩
  refine ⟨.non, _, I.lset (its' := its.reverse) hH e (by simp) r.reverse ?_, rfl, q⟩
  rw [List.length_reverse]
  omega

def rClear : V → List V → Hp → VK → Prop := fun x vs H Q => ∃ l xs, x = .ref l ∧ vs = [] ∧ H l = some (.lst xs) ∧ Q .non (upd H l (.lst []))
theorem mt_clear : MtM X "list.clear" rClear := by
  intro pins s σ H x vs v us Q I rx rv h
  obtain ⟨l, xs, rfl, rfl, hH, q⟩ := h
  cases rx
  have hus := rv.zero
  subst hus
  obtain ⟨z, its, n, r, hl, e⟩ := I.lstM hH
  refine call_meets F.slot_list_clear ⟨_, e, rfl⟩ F.entry_list_clear (F.args_list_clear_1 _) (AutoSeq1.list_clear_list_0 l its.toArray n (by rw [List.size_toArray]; omega)) ⟨e, ?_⟩
  exact ⟨.non, _, I.lset (its' := []) (ys := []) hH e rfl .nil (Nat.zero_le _), rfl, q⟩

/-! ### list + list, list += list, list * int -/
def rCat : R2 := fun x y H Q => ∃ l b xs zs, x = .ref l ∧ y = .ref b ∧ H l = some (.lst xs) ∧ H b = some (.lst zs) ∧ xs.length + zs.length ≤ sizeLine ∧ ∀ p, H p = none → Q (.ref p) (upd H p (.lst (xs ++ zs)))
theorem op_cat : OpR X (binaryOp .Add) rCat := by
  intro pins s σ H x y v u Q I rx ry h
  obtain ⟨l, b, xs, zs, rfl, rfl, hH, hB, hz, q⟩ := h
  cases rx
  cases ry
  obtain ⟨z, its, n, r, hl, e⟩ := I.lstM hH
  obtain ⟨z2, its2, n2, r2, hl2, e2⟩ := I.lstM hB
  refine PySem.P.add_list e e2 ?_ (by rw [List.size_toArray, List.size_toArray]; omega)
  have ea : its.toArray ++ its2.toArray = (its ++ its2).toArray := by simp
  rw [ea]
  exact ⟨.ref _, _, I.lnew (t' := s.toks) (r.append r2) (by rw [List.length_append]; omega), rfl, q _ I.fresh⟩
/-- a list times an int (a negative one is nothing) -/
def rRep : R2 := fun x y H Q => ∃ l k xs, x = .ref l ∧ y = .int k ∧ H l = some (.lst xs) ∧ -(2 ^ 63) ≤ k ∧ k < 2 ^ 63 ∧ xs.length * k.toNat ≤ sizeLine ∧
  ∀ p, H p = none → Q (.ref p) (upd H p (.lst (List.replicate k.toNat xs).flatten))
theorem len_rep {α : Type} (xs : List α) (k : Nat) : (List.replicate k xs).flatten.length = k * xs.length := by
  induction k with
  | zero => simp
  | succ k ih => rw [List.replicate_succ, List.flatten_cons, List.length_append, ih, Nat.succ_mul, Nat.add_comm]
theorem op_rep : OpR X (binaryOp .Mult) rRep := by
  intro pins s σ H x y v u Q I rx ry h
  obtain ⟨l, k, xs, rfl, rfl, hH, h1, h2, hz, q⟩ := h
  cases rx
  obtain ⟨t, rfl⟩ := ry
  obtain ⟨z, its, n, r, hl, e⟩ := I.lstM hH
  have hlen : its.toArray.size * k.toNat ≤ sizeLine := by rw [List.size_toArray, ← hl]; exact hz
  have hcap : ¬ its.toArray.size * k.toNat > (2 ^ 63 - 1) / 8 := by
    have : (sizeLine : Nat) ≤ (2 ^ 63 - 1) / 8 := by decide
    omega
  have hfit : ¬ (!Builtin.List.listFitsIndex k) = true := by
    rw [fitsIndex_both h1 h2]
    exact Bool.false_ne_true
  have hlong : ¬ Builtin.List.listTooLong (its.toArray.size * k.toNat) = true := by
    rw [notLongL hlen]
    exact Bool.false_ne_true
  have hnew : List.foldl (fun x1 x2 => x1 ++ x2) #[] (List.replicate (if its.toArray.isEmpty = true then 0 else k.toNat) its.toArray) = (List.replicate k.toNat its).flatten.toArray := by
    have f0 : ∀ m : Nat, List.foldl (fun x1 x2 => x1 ++ x2) #[] (List.replicate m its.toArray) = (List.replicate m its).flatten.toArray := fun m => by
      have := foldl_rep its m []
      rw [List.nil_append] at this
      exact this
    rw [f0]
    cases its with
    | nil => simp
    | cons a r' => rw [if_neg (by simp)]
  refine wpAny_binaryOp_repeat_ref (T := "list") (U := "int") (by decide) ⟨_, e, rfl⟩ (fun s' => typeIs_int s' k t) noFill_list_mul F.fills_int_mul F.slot_int_rmul repeat_list F.slot_int_index.lookup
    (call_meets F.slot_int_rmul (typeIs_int s k t) F.entry_int_rmul (F.args_int_rmul_2 _ _) (int___rmul___int_list k t l its.toArray n)
      ⟨e, rfl, ⟨_, e, rfl⟩, call_meets F.slot_list_mul ⟨_, e, rfl⟩ F.entry_list_mul (F.args_list_mul_2 _ _) (AutoListH.list___mul___list_int_3 l its.toArray n k t hfit hcap hlong) ⟨e, ?_⟩⟩)
  rw [hnew]
  exact ⟨.ref _, _, I.lnew (t' := s.toks) (r.rep k.toNat) (by rw [len_rep, Nat.mul_comm]; exact hz), rfl, q _ I.fresh⟩

/-! ### del xs[i] -/
theorem del_list {pins : List (Addr × Obj)} {s : Shared} {σ : St} {H : Hp} {l : Addr} {xs : List V} {i : Int} {t : Tok} {k : Nat} {Q : Unit → Shared → Prop} (I : Inv X pins σ H s) (hH : H l = some (.lst xs))
    (h1 : -(2 ^ 63) ≤ i) (h2 : i < 2 ^ 63) (hk : seqIndex? i xs.length = some k) (h : ∀ s', Inv X pins σ (upd H l (.lst (xs.eraseIdx k))) s' → Q () s') :
    wpAny (model X.prog X.w) X.A (delItem (.ref l) (.int i t)) Q X.xe s := by
  obtain ⟨z, its, n, r, hl, e⟩ := I.lstM hH
  refine PySem.P.delItem_list (k := k) e (fitsIndex_both h1 h2) (by rw [List.size_toArray, ← hl]; exact hk) (h _ ?_) (by rw [List.size_toArray]; omega)
  refine I.lset (its' := its.eraseIdx k) (t' := s.toks) hH e ?_ (r.eraseIdx k) ?_
  · show its.toArray.eraseIdxIfInBounds k = (its.eraseIdx k).toArray
    rw [List.eraseIdxIfInBounds_toArray]
  · have := len_erase xs k
    omega
end

/-! ### xs[a:b] = ys -/
section
variable {prog : Program} {w : World} {A : Around} {E : Value → Shared → Prop} {s : Shared}
theorem splice_eq (its its2 : List Value) (a c : Nat) : its.toArray.extract 0 a ++ its2.toArray ++ its.toArray.extract c its.toArray.size = (its.take a ++ its2 ++ its.drop c).toArray := by
  apply Array.toList_inj.mp
  first
    | (simp
       exact List.take_of_length_le (by simp))
    | simp [List.take_of_length_le]
    | simp
theorem bounds_run {a c n : Nat} (hac : a ≤ c) (hc : c ≤ n) : sliceBounds (some (a : Int)) (some (c : Int)) none n = ((a : Int), (c : Int), 1) := by
  simp only [sliceBounds, Option.getD_none]
  have h1 : ¬ ((a : Int) < 0) := by omega
  have h2 : ¬ ((c : Int) < 0) := by omega
  simp only [h1, h2, if_false, show (1 : Int) > 0 by decide, if_true]
  congr 1
  · omega
  · congr 1; omega
set_option maxRecDepth 100000 in
/-- list.__setitem__ with a slice of step one and another list -/
theorem setItem_slice {l b sl : Addr} {items new : Array Value} {n n2 : Nat} {vl vu : Value} {a c : Nat} {Q : Unit → Shared → Prop}
    (e : s.heap.get? l = some { cls := .type "list", data := .seq items n }) (e2 : s.heap.get? b = some { cls := .type "list", data := .seq new n2 }) (hne : l ≠ b)
    (hs : s.heap.IsSliceOf sl vl vu .none) (pl : IsPart vl (some (a : Int))) (pu : IsPart vu (some (c : Int))) (hac : a ≤ c) (hc : c ≤ items.size)
    (hsz : items.size + new.size ≤ sizeLine) (h : Q () { s with heap := s.heap.update l (Obj.mapSeq fun xs => xs.extract 0 a ++ new ++ xs.extract c xs.size) }) :
    wpAny (model prog w) A (setItem (.ref l) (.ref sl) (.ref b)) Q E s := by
  have hl : s.heap.IsList l items := PySem.IsL.isList e
  have hb : s.heap.IsList b new := PySem.IsL.isList e2
  obtain ⟨os, hos, hcs, hds⟩ := id hs
  have hTs : s.TypeIs (.ref sl) "slice" := ⟨os, hos, hcs⟩
  have hstep : ¬ ((rawPart none == rawInt 0) = true) := Bool.false_ne_true
  have hsame : Builtin.List.listSameRef (.ref l) (.ref b) = false := by
    unfold Builtin.List.listSameRef
    exact beq_eq_false_iff_ne.mpr hne
  have hmax : (max (a : Int) (c : Int)).toNat = c := by omega
  have hz' : ((fun xs : Array Value => xs.extract 0 a ++ new ++ xs.extract c xs.size) items).size ≤ sizeLine + 1 := by
    simp only [Array.size_append, Array.size_extract]
    omega
  unfold setItem
  try with_reducible refine wpAny_holding ?_
  first | refine wpAny_bind (wpAny_pure ?_) | skip
  refine wpAny_bind (wpAny_sequenceKey hl.typeIs (by decide) ?_)
  refine wpAny_bind (wpAny_callSpecial?_slot (name := Str.ofString "__setitem__") hl.typeIs slot_list_setitem
    (wpAny_call_entry slot_list_setitem hl.typeIs entry_list_setitem ?_ (args_list_setitem _ _ _)))
  show wpAny _ _ (Builtin.List.listSubscript? (.ref sl) >>= _) _ _ s
  refine wpAny_bind ?_
  unfold Builtin.List.listSubscript?
  refine wpAny_bind (wpAny_specialOf hTs slice_no_index ?_)
  simp only [Option.isNone_none, if_true]
  refine wpAny_pure ?_
  show wpAny _ _ (typeOf (.ref sl) >>= _) _ _ s
  refine wpAny_bind (wpAny_typeOf hTs ?_)
  first
    | rw [if_neg (by decide)]
    | refine PySem.W.KFB.if_not (by decide) ?_
  rw [listSliceParts_eq]
  refine wpAny_bind (wpAny_bind (wpAny_field hos hds (x := .none) rfl (wpAny_bind (wpAny_listPart .none ?_))))
  rw [if_neg hstep]
  refine wpAny_bind (wpAny_field hos hds (x := vl) rfl (wpAny_bind (wpAny_listPart pl ?_)))
  refine wpAny_bind (wpAny_field hos hds (x := vu) rfl (wpAny_bind (wpAny_listPart pu (wpAny_pure ?_))))
  first
    | simp only [hsame, Bool.false_eq_true, if_false]
    | refine PySem.W.KFB.if_not hsame ?_
    | (dsimp only
       rw [if_neg (by rw [hsame]; exact Bool.false_ne_true)])
  refine wpAny_bind (m := Builtin.List.listAllItems (.ref b) "must assign iterable to extended slice") ?_
  unfold Builtin.List.listAllItems
  refine wpAny_bind (wpAny_typeOf hb.typeIs ?_)
  first
    | refine PySem.W.KFB.if_so (by decide) ?_
    | rw [if_pos (by decide)]
    | simp only [beq_self_eq_true, Bool.true_or, if_true]
  unfold Builtin.List.listItems
  refine wpAny_bind (wpAny_seqItems e2 rfl (wpAny_pure ?_))
  refine wpAny_bind (wpAny_bind (wpAny_seqItems e rfl (wpAny_pure ?_)))
  refine wpAny_bind (wpAny_of_eq ((sliceIndices_raw (some (a : Int)) (some (c : Int)) none items.size (by simp)).trans (congrArg (pure : Int × Int × Int → Sem (Int × Int × Int)) (bounds_run hac hc))) ?_)
  show wpAny _ _ (if ((1 : Int) == 1) = true then _ else _) _ _ s
  rw [if_pos (by decide)]
  refine wpAny_bind (wpAny_rule ?_)
  first
    | simp only [notLongL hsz, Bool.false_eq_true, if_false]
    | refine PySem.W.KFB.if_not (notLongL hsz) ?_
  first | refine wpAny_bind (wpAny_pure ?_) | skip
  show wpAny _ _ (updateSeq l (fun xs => xs.extract 0 ((a : Int)).toNat ++ new ++ xs.extract (max (a : Int) (c : Int)).toNat xs.size) >>= _) _ _ s
  rw [hmax, Int.toNat_natCast]
  refine wpAny_bind (wpAny_updateSeq (hz := Nat.le_trans (Nat.le_add_right _ _) hsz) (_hz' := hz') e rfl ?_)
  refine wpAny_bind (wpAny_letGo ?_)
  first
    | exact wpAny_bind (wpAny_pure (wpAny_pure ⟨.none, rfl, wpAny_pure h⟩))
    | exact wpAny_pure ⟨.none, rfl, wpAny_pure h⟩
end

section
variable {X : Cx}
/-- xs[a:c] = ys of another list, at the value level: sl is the slice object that was just made -/
theorem set_slice {pins : List (Addr × Obj)} {s : Shared} {σ : St} {H : Hp} {l b sl : Addr} {xs ys : List V} {a c : Int} {vl vu : Value} {Q : Unit → Shared → Prop} (I : Inv X pins σ H s)
    (hH : H l = some (.lst xs)) (hB : H b = some (.lst ys)) (hne : l ≠ b) (hs : s.heap.IsSliceOf sl vl vu .none) (ra : RelV (.int a) vl) (rc : RelV (.int c) vu) (h0 : 0 ≤ a) (hac : a ≤ c) (hc : c ≤ xs.length)
    (hz : xs.length + ys.length ≤ sizeLine) (h : ∀ s', Inv X pins σ (upd H l (.lst (xs.take a.toNat ++ ys ++ xs.drop c.toNat))) s' → Q () s') :
    wpAny (model X.prog X.w) X.A (setItem (.ref l) (.ref sl) (.ref b)) Q X.xe s := by
  obtain ⟨ta, rfl⟩ := ra
  obtain ⟨tc, rfl⟩ := rc
  obtain ⟨z, its, n, r, hl, e⟩ := I.lstM hH
  obtain ⟨z2, its2, n2, r2, hl2, e2⟩ := I.lstM hB
  obtain ⟨a', rfl⟩ := Int.eq_ofNat_of_zero_le h0
  obtain ⟨c', rfl⟩ := Int.eq_ofNat_of_zero_le (Int.le_trans h0 hac)
  simp only [Int.toNat_natCast] at h
  refine setItem_slice (a := a') (c := c') e e2 hne hs (.int _ _) (.int _ _) (by omega) (by rw [List.size_toArray]; omega) (by rw [List.size_toArray, List.size_toArray]; omega) (h _ ?_)
  refine I.lset (its' := its.take a' ++ its2 ++ its.drop c') (t' := s.toks) hH e ?_ (Vals.append (Vals.append (r.take _) r2) (r.drop _)) ?_
  · exact splice_eq its its2 a' c'
  · rw [List.length_append, List.length_append, List.length_take, List.length_drop]
    omega
end
end L2

namespace Att
open PySem PySem.W PySem.Calls PyProof.Rows

/-! ### the script -/
theorem ints_of_wellAll {P : Params} {h : Heap} : ∀ (ns : List Int) (vs : List Value), WellAll P h vs (ns.map WData.int) → IntsAre vs ns := by
  intro ns
  induction ns with
  | nil =>
    intro vs w
    rw [List.map_nil] at w
    cases w
    exact .nil
  | cons n ns ih =>
    intro vs w
    rw [List.map_cons] at w
    cases w with
    | cons a b =>
      cases a
      exact .cons _ _ (ih _ b)

theorem script_of {l : OpenLaw} {n : Nat} (hn : l.most = some n) {P : Params} {h : Heap} {args : List WData} {vals : List Value}
    (hpre : l.row.toRowW.claim.pre args = true) (hwl : WellAll P h vals args) :
    ∃ a vs ns, vals = [Value.ref a] ∧ args = [WData.list (ns.map WData.int)] ∧ h.get? a = some { cls := .type "list", data := .seq vs.toArray } ∧ IntsAre vs ns ∧ ns.length ≤ n := by
  have hsh : WShape.hasAll [] args [.list .int] = true := (pre_splitW hpre).1
  have hc : l.pre.holds [] { args := args } = true := (pre_splitW hpre).2
  obtain ⟨d, r, rfl, h1, h2⟩ := hasAllW_cons hsh
  obtain rfl := hasAllW_nil h2
  obtain ⟨xs, rfl, h3⟩ := hasW_list h1
  obtain ⟨ns, rfl⟩ := items_int h3
  have hlen : ns.length ≤ n := by
    unfold OpenLaw.pre at hc
    have h4 : (WTm.not (.lt (.lit (.int (n : Int))) (.len (.arg 0)))).holds [] { args := [.list (ns.map .int)] } = true := by
      have h4 := (holds_andW hc).1
      rw [hn] at h4
      exact h4
    have h5 := condW_of h4 (w_not (w_lt w_lit (w_len_list (w_arg rfl))))
    rw [List.length_map] at h5
    refine Nat.le_of_not_lt fun q => ?_
    have q' : (n : Int) < ((ns.length : Nat) : Int) := by omega
    first
      | (rw [decide_eq_true q'] at h5; exact absurd h5 (by decide))
      | (simp at h5; omega)
  cases hwl with
  | cons w1 w2 =>
    cases w2
    cases w1 with
    | list ho hall => exact ⟨_, _, ns, rfl, rfl, ho, ints_of_wellAll ns _ hall, hlen⟩

theorem post_true (l : OpenLaw) (args : List WData) : l.row.toRowW.claim.post args (.bool true) args = true :=
  postW_of (r := l.row.toRowW) (X := (true == true))
    (show WShape.has [] (.bool true) .bool = true by first | rfl | decide | simp [WShape.has, WShape.arms, WShape.armsAll])
    (show (WTm.eq .res (.lit (.bool true))).value [] { args := args, res := some (.bool true), after := args } = some (.bool (true == true)) from w_eq_bool (w_res rfl) w_lit) rfl

/-! ### the attachment: holds_open's last premise (the goal 'hc' behind k_head) from a wpAny of the law's body -/
theorem attach {l : OpenLaw} {n : Nat} {q : Program} {loose : List Str} {XP : (Str → Option Value) → Heap → Prop} {YP : World → Heap → Prop} {d : DefRec} {x : Str}
    (hn : l.most = some n) (hdf : d.params.defaults = [])
    (hbind : ∀ pm cd doc v : Value, bindArgs (docDef d.name d.params d.body d.scope pm cd doc) ⟨[v], []⟩ = pure [(x, v)])
    (hx : d.scope.names.lookup x = some .local ∨ d.scope.names.lookup x = some .cell)
    (hk : d.scope.kind = .function) (hco : d.scope.isCoroutine = false) (hgen : d.scope.isGenerator = false)
    (body : ∀ (w : World) (s₀ s₁ s : Shared) (mg mb : Str → Option Value) (fa : Addr) (o : Obj) (pm cd doc : Value) (a : Addr) (vs : List Value) (ns : List Int),
      Ground q loose [] XP w s₀ mg mb s₁.heap → YP w s₁.heap →
      s₁.heap.get? fa = some o → o.data = .func (docDef d.name d.params d.body d.scope pm cd doc) → s₁.heap.CodeRec cd d.name → mg d.name = some (.ref fa) →
      s₁.heap.get? a = some { cls := .type "list", data := .seq vs.toArray } → IntsAre vs ns → ns.length ≤ n →
      s.gens = #[] → s.os = s₁.os →
      Fr s₁.heap s₁.heap.objs.size s.heap (bindL (envOfC d.name d.scope s₁.heap.objs.size fa cd).kindOf [(x, .ref a)] fun _ => none) →
      Cl s₁.heap.objs.size (cellsFrom (s₁.heap.objs.size + 1) d.scope.names []) s.heap (bindC (envOfC d.name d.scope s₁.heap.objs.size fa cd).kindOf [(x, .ref a)] fun _ => none) →
      wpAny (model l.prog w) (callerA.deeper (envOfC d.name d.scope s₁.heap.objs.size fa cd)) (execs d.body (envOfC d.name d.scope s₁.heap.objs.size fa cd))
        (fun f s' => f = .ret (.bool true) ∧ OldK s₁.heap s'.heap ∧ s'.os = s₁.os ∧ AllBare s'.gens) (fun _ _ => False) s) :
    WalkO q loose XP YP l.row.toRowW d [] (fun f vs => PySem.call f vs) := by
  intro w s₀ s₁ mg mb G Y fa o pm cd doc dV kV ho hd hcd hD hmg hg args vals as hpre hlay hrd hwl hlo
  obtain rfl : dV = .none := Dflts.none hD hdf
  obtain rfl : kV = .none := Dflts.noKw hD
  obtain ⟨a, vs, ns, rfl, rfl, hobj, hints, hlen⟩ := script_of hn hpre hwl
  refine enter_call ?_
  refine call_cells_ret (o := o) (by rw [depth_caller]; decide) ho (fd_plain hd) G.T.nolimit hcd (hbind pm cd doc (.ref a)) (fun y hy => ?_) (fun h₁ tk F X => ?_) hco hgen hk
  · obtain rfl : y = (x, Value.ref a) := List.mem_singleton.mp hy
    rcases hx with e | e
    · exact .inl e
    · exact .inr ⟨e, cellsFrom_some _ _ _ (.inl e)⟩
  · refine wpAny_mono (body w s₀ s₁ { s₁ with heap := h₁, toks := tk } mg mb fa o pm cd doc a vs ns G Y ho (fd_plain hd) hcd hmg hobj hints hlen hg rfl F X) (fun f s' hq => ?_) (fun _ _ hq => hq)
    obtain ⟨rfl, h2, h3, h4⟩ := hq
    exact ⟨.inl ⟨.bool true, .bool true, [], rfl, fun _ => rfl, .bool true, post_true l _, fun _ => ⟨List.Pairwise.nil, fun _ hm => (nomatch hm)⟩⟩, h2, h3, h4⟩

/-- the same from a codeAny of the CALL (for a layer whose function contracts speak of calls) -/
theorem attach_call {l : OpenLaw} {n : Nat} {q : Program} {loose : List Str} {XP : (Str → Option Value) → Heap → Prop} {YP : World → Heap → Prop} {d : DefRec}
    (hn : l.most = some n) (hdf : d.params.defaults = [])
    (call : ∀ (w : World) (s₀ s₁ : Shared) (mg mb : Str → Option Value) (fa : Addr) (o : Obj) (pm cd doc : Value) (a : Addr) (vs : List Value) (ns : List Int),
      Ground q loose [] XP w s₀ mg mb s₁.heap → YP w s₁.heap →
      s₁.heap.get? fa = some o → o.data = .func (docDef d.name d.params d.body d.scope pm cd doc) → s₁.heap.CodeRec cd d.name → mg d.name = some (.ref fa) →
      s₁.heap.get? a = some { cls := .type "list", data := .seq vs.toArray } → IntsAre vs ns → ns.length ≤ n → s₁.gens = #[] →
      codeAny (model l.prog w) callerA (.call (.ref fa) ⟨[.ref a], []⟩) (fun r s' => r = .ok (.ret (.bool true)) ∧ OldK s₁.heap s'.heap ∧ s'.os = s₁.os ∧ AllBare s'.gens) s₁) :
    WalkO q loose XP YP l.row.toRowW d [] (fun f vs => PySem.call f vs) := by
  intro w s₀ s₁ mg mb G Y fa o pm cd doc dV kV ho hd hcd hD hmg hg args vals as hpre hlay hrd hwl hlo
  obtain rfl : dV = .none := Dflts.none hD hdf
  obtain rfl : kV = .none := Dflts.noKw hD
  obtain ⟨a, vs, ns, rfl, rfl, hobj, hints, hlen⟩ := script_of hn hpre hwl
  refine enter_call (codeAny_mono (call w s₀ s₁ mg mb fa o pm cd doc a vs ns G Y ho (fd_plain hd) hcd hmg hobj hints hlen hg) fun r s' hq => ?_)
  obtain ⟨rfl, h2, h3, h4⟩ := hq
  exact ⟨.inl ⟨.bool true, .bool true, [], rfl, fun _ => rfl, .bool true, post_true l _, fun _ => ⟨List.Pairwise.nil, fun _ hm => (nomatch hm)⟩⟩, h2, h3, h4⟩

/-- the same where the top left finished generators (o_head chose holds_openN): nothing may have changed at all and no generator may be left -/
theorem attachN {l : OpenLaw} {n : Nat} {q : Program} {loose : List Str} {XP : (Str → Option Value) → Heap → Prop} {YP : World → Heap → Prop} {d : DefRec} {x : Str}
    (hn : l.most = some n) (hdf : d.params.defaults = [])
    (hbind : ∀ pm cd doc v : Value, bindArgs (docDef d.name d.params d.body d.scope pm cd doc) ⟨[v], []⟩ = pure [(x, v)])
    (hx : d.scope.names.lookup x = some .local ∨ d.scope.names.lookup x = some .cell)
    (hk : d.scope.kind = .function) (hco : d.scope.isCoroutine = false) (hgen : d.scope.isGenerator = false)
    (body : ∀ (w : World) (s₀ s₁ s : Shared) (mg mb : Str → Option Value) (fa : Addr) (o : Obj) (pm cd doc : Value) (a : Addr) (vs : List Value) (ns : List Int),
      Ground q loose [] XP w s₀ mg mb s₁.heap → YP w s₁.heap →
      s₁.heap.get? fa = some o → o.data = .func (docDef d.name d.params d.body d.scope pm cd doc) → s₁.heap.CodeRec cd d.name → mg d.name = some (.ref fa) →
      s₁.heap.get? a = some { cls := .type "list", data := .seq vs.toArray } → IntsAre vs ns → ns.length ≤ n →
      s.gens = #[] → s.os = s₁.os →
      Fr s₁.heap s₁.heap.objs.size s.heap (bindL (envOfC d.name d.scope s₁.heap.objs.size fa cd).kindOf [(x, .ref a)] fun _ => none) →
      Cl s₁.heap.objs.size (cellsFrom (s₁.heap.objs.size + 1) d.scope.names []) s.heap (bindC (envOfC d.name d.scope s₁.heap.objs.size fa cd).kindOf [(x, .ref a)] fun _ => none) →
      wpAny (model l.prog w) (callerA.deeper (envOfC d.name d.scope s₁.heap.objs.size fa cd)) (execs d.body (envOfC d.name d.scope s₁.heap.objs.size fa cd))
        (fun f s' => f = .ret (.bool true) ∧ (∀ b o, s₁.heap.get? b = some o → s'.heap.get? b = some o) ∧ s'.os = s₁.os ∧ s'.gens = #[]) (fun _ _ => False) s) :
    WalkN q loose XP YP l.row.toRowW d [] (fun f vs => PySem.call f vs) := by
  intro w s₀ s₁ mg mb G Y fa o pm cd doc dV kV ho hd hcd hD hmg hg args vals as hpre hlay hrd hwl hlo
  obtain rfl : dV = .none := Dflts.none hD hdf
  obtain rfl : kV = .none := Dflts.noKw hD
  obtain ⟨a, vs, ns, rfl, rfl, hobj, hints, hlen⟩ := script_of hn hpre hwl
  refine enter_callW ?_
  refine call_cells_ret (o := o) (by rw [depth_caller]; decide) ho (fd_plain hd) G.T.nolimit hcd (hbind pm cd doc (.ref a)) (fun y hy => ?_) (fun h₁ tk F X => ?_) hco hgen hk
  · obtain rfl : y = (x, Value.ref a) := List.mem_singleton.mp hy
    rcases hx with e | e
    · exact .inl e
    · exact .inr ⟨e, cellsFrom_some _ _ _ (.inl e)⟩
  · refine wpAny_mono (body w s₀ s₁ { s₁ with heap := h₁, toks := tk } mg mb fa o pm cd doc a vs ns G Y ho (fd_plain hd) hcd hmg hobj hints hlen hg rfl F X) (fun f s' hq => ?_) (fun _ _ hq => hq)
    obtain ⟨rfl, h2, h3, h4⟩ := hq
    exact ⟨.inl ⟨.bool true, .bool true, [], rfl, fun _ => rfl, .bool true, post_true l _, fun _ => ⟨List.Pairwise.nil, fun _ hm => (nomatch hm)⟩⟩, h2, h3, h4⟩

/-! ### rules over ANY heap (no ledger) from facts about the written part K: the library's own take a ledger (News) for what they write -/
section
variable {prog : Program} {w : World} {A : Around} {E : Value → Shared → Prop} {s : Shared} {K : Frag}

/-- a def of the module, or a method (qual 'C.m'), entered: the frame is the next address; cells behind it -/
theorem call_fn {R : Result → Shared → Prop} {name qual : Str} {params : Arguments} {body : List Stmt} {scope : Scope} {dV kV doc pm cdv ct oc : Value} {an od : Option Addr} {osl : Array (Option Value)} {f : Addr} {args : Args} {binds : List (Str × Value)}
    (X : K.In s.heap) (hlim : s.heap.NoLimit) (ho : K.lookup f = some ⟨oc, od, .func (fnOf name qual params body scope dV kV doc pm an cdv ct), osl⟩) (hcd : codeIn K cdv qual = true) (hroom : A.depth < recursionLimit)
    (hbind : BindsTo s (fnOf name qual params body scope dV kV doc pm an cdv ct) args binds)
    (hkind : (binds.all fun y => scope.names.lookup y.1 == some .local || scope.names.lookup y.1 == some .cell) = true)
    (h : ∀ s₁, InCallC s s.heap.objs.size (bindL (envOfC qual scope s.heap.objs.size f cdv).kindOf binds fun _ => none) (cellsFrom (s.heap.objs.size + 1) scope.names [])
        (bindC (envOfC qual scope s.heap.objs.size f cdv).kindOf binds fun _ => none) s₁ →
      wpAny (model prog w) (A.deeper (envOfC qual scope s.heap.objs.size f cdv)) (execs body (envOfC qual scope s.heap.objs.size f cdv))
        (fun fl s' => R (.ok (.ret (match fl with | .ret v => v | _ => .none))) s')
        (fun e s' => wpAny (model prog w) (A.deeper (envOfC qual scope s.heap.objs.size f cdv)) (leaving (envOfC qual scope s.heap.objs.size f cdv) e) (fun _ s'' => R (.error e) s'') (fun e' s'' => R (.error e') s'') s') s₁)
    (hco : scope.isCoroutine = false) (hgen : scope.isGenerator = false) (hk : scope.kind = .function) : codeAny (model prog w) A (.call (.ref f) args) R s := by
  refine codeAny_call_function hroom (X _ _ ho) rfl hco hgen rfl (codeRec_of X hcd) (hbind _ _ _ _ ?_)
  refine wpAny_newFunctionEnv_cells hk (kindsX hkind _) fun env he s₁ x => ?_
  subst he
  exact ⟨hlim.keeps x.toInCall.keep, codeAny_func (h s₁ x)⟩

/-- C(..): dict at size, instance at size + 1, then __init__ -/
theorem make_obj {R : Result → Shared → Prop} {C fI : Addr} {rest : List Value} {kw : List (Str × Value)}
    (X : K.In s.heap) (hm : makesIn K C = true) (hi : findIn K (.ref C) "__init__" = some (some (.ref fI))) (hf : isFn K (.ref fI) = true)
    (h : codeAny (model prog w) (A.under (.builtin "type.__call__" ⟨.ref C :: rest, kw⟩)) (.call (.ref fI) ⟨.ref (s.heap.objs.size + 1) :: rest, kw⟩) (InitBack (s.heap.objs.size + 1) R)
      { s with heap := (s.heap.push emptyDict).push (instObj C s.heap.objs.size) }) : codeAny (model prog w) A (.call (.ref C) ⟨rest, kw⟩) R s := by
  obtain ⟨hh, g, d, t, os⟩ := s
  exact make_core (makes_of X hm) (looks_findIn X hi) (fun self => bind_fn X self (beq_iff_eq.mp hf)) (.inl rfl) h

/-- x.name where the instance's dict holds the name and the class does not -/
theorem get_field {x C : Addr} {ox : Obj} {es : List DictEntry} {n : Nat} {name : Str} {expr : Bool} {v : Value} {Q : Value → Shared → Prop}
    (X : K.In s.heap) (I : PySem.W.InstAt s.heap x ox C (some (dictOf es n))) (hg : plainGet K C name = true) (hh : hasDictIn K C = true) (ha : findIn K (.ref C) name = some none)
    (hl : getL name es = some (some v)) (hv : handedIn v = true) (h : Q v { s with toks := s.toks + 1 }) : wpAny (model prog w) A (getAttr (.ref x) name expr) Q E s :=
  get_value X I (plainGet_of hg).1 (findObj_own hh ha rfl hl) hv h

/-- x.m(..): the method found in the class -/
theorem get_method {x C f : Addr} {ox : Obj} {es : List DictEntry} {n : Nat} {name : Str} {pl : Sem Bool} {Q : Value × List Value → Shared → Prop}
    (X : K.In s.heap) (I : PySem.W.InstAt s.heap x ox C (some (dictOf es n))) (hg : plainGet K C name = true) (hf : findIn K (.ref C) name = some (some (.ref f))) (ht : isFn K (.ref f) = true)
    (hl : getL name es = some none) (h : Q (.ref f, [.ref x]) s) : wpAny (model prog w) A (getMethod (.ref x) name pl) Q E s :=
  method_fn X I (plainGet_of hg).1 (plainGet_of hg).2 hf (beq_iff_eq.mp ht) (by show (lookIn name (dictOf es n)).map _ = _; rw [lookIn_dict, hl]; rfl) h

/-! the whole heap as the ledger: makes every rule that writes through a ledger a rule over any heap -/
def noObjs (h : Heap) : Heap := { h with objs := #[] }
theorem noObjs_get (h : Heap) (b : Addr) : (noObjs h).get? b = none := by
  cases e : (noObjs h).get? b with
  | none => rfl
  | some o => exact absurd (Heap.lt_size e) (Nat.not_lt_zero _)
def ledger (h : Heap) (L d : Addr) : List (Addr × Obj) := (List.range h.objs.size).filterMap fun a => if a = L ∨ a = d then none else (h.get? a).map fun o => (a, o)
theorem mem_ledger {h : Heap} {L d a : Addr} {o : Obj} : (a, o) ∈ ledger h L d ↔ a ≠ L ∧ a ≠ d ∧ h.get? a = some o := by
  unfold ledger
  rw [List.mem_filterMap]
  constructor
  · rintro ⟨b, _, e⟩
    split at e
    · cases e
    · rename_i hb
      obtain ⟨o', ho, e'⟩ := Option.map_eq_some_iff.mp e
      cases e'
      exact ⟨fun q => hb (.inl q), fun q => hb (.inr q), ho⟩
  · rintro ⟨n1, n2, ho⟩
    refine ⟨a, List.mem_range.mpr (Heap.lt_size ho), ?_⟩
    rw [if_neg (show ¬ (a = L ∨ a = d) from fun q => q.elim n1 n2), ho] <;> rfl
theorem news_ledger {h : Heap} {L d : Addr} {od : Obj} (hne : d ≠ L) (ho : h.get? d = some od) : News (noObjs h) L h ([] ++ (d, od) :: ledger h L d) := by
  rintro ⟨a, o⟩ hp
  rcases List.mem_cons.mp hp with e | hp
  · cases e
    exact ⟨ho, hne, noObjs_get _ _⟩
  · obtain ⟨n1, n2, e⟩ := mem_ledger.mp hp
    exact ⟨e, n1, noObjs_get _ _⟩
theorem fr_all {h : Heap} {L : Addr} {m : Str → Option Value} (n : h.Ns L m) : Fr (noObjs h) L h m :=
  ⟨n, fun b o e => (by rw [noObjs_get] at e; cases e), Nat.zero_le _⟩
/-- Upd of the head entry (for append_K, setItem_K ..) -/
theorem upd_ledger {h : Heap} {L d : Addr} {o o' : Obj} : Upd d o o' ((d, o) :: ledger h L d) ((d, o') :: ledger h L d) :=
  .head fun ⟨_, _⟩ hp => (mem_ledger.mp hp).2.1

/-- x.name = v over any heap: L is any namespace of the heap (the frame's, say): its map stays, its object is not told; all else but the dict stays -/
theorem set_field {x C dx L : Addr} {ox : Obj} {m : Str → Option Value} {es es' : List DictEntry} {n n' : Nat} {name : Str} {v : Value} {Q : Unit → Shared → Prop}
    (X : K.In s.heap) (I : PySem.W.InstAt s.heap x ox C (some (dictOf es n))) (hd : ox.dict = some dx) (hL : s.heap.Ns L m) (hne : dx ≠ L)
    (hs : findIn K (.ref C) "__setattr__" = some (some (.builtin "object.__setattr__"))) (hp : plainOver K C = true) (ht : takerIn K C name = some none) (hh : hasDictIn K C = true) (hl : (getL name es).isSome = true)
    (e : (putL name (PyData.keyHash w.params name) (.str name (s.toks + 1)) v es, putN name es n) = (es', n')) (hz : es'.length ≤ 1000)
    (h : ∀ h' : Heap, h'.Ns L m → h'.get? dx = some (dictOf es' n') → (∀ b o, b ≠ dx → b ≠ L → s.heap.get? b = some o → h'.get? b = some o) → Q () { s with heap := h', toks := s.toks + 2 }) :
    wpAny (model prog w) A (setAttr (.ref x) name v) Q E s := by
  obtain ⟨e1, e2⟩ := Prod.mk.inj e
  have hdx : s.heap.get? dx = some (dictOf es n) := by
    have := I.dict
    rw [hd] at this
    exact this
  refine set_plain X I hs (osa_dict (s := { s with toks := s.toks + 1 }) (h₀ := noObjs s.heap) (L := L) (m := m) (od := dictOf es n) (od' := dictOf es' n') (es := es') (n := n') (pre := []) (post := ledger s.heap L dx)
    (fr_all hL) (news_ledger hne hdx) X I hd hp ht hh hl (fun _ q => nomatch q) (fun ⟨_, _⟩ q => (mem_ledger.mp q).2.1) (by rw [putName_dict, e1, e2]) rfl hz fun h' F' N' => ?_)
  exact h h' F'.ns (N'.get (List.Mem.head _)) fun b o n1 n2 ho => N'.get (List.Mem.tail _ (mem_ledger.mpr ⟨n2, n1, ho⟩))
end
end Att

namespace L2
open PySem PySem.Spec PyProof.Rows

theorem vals_ints : ∀ {vs : List Value} {ns : List Int}, IntsAre vs ns → Vals (ns.map V.int) vs
  | _, _, .nil => .nil
  | _, _, .cons n t h => .cons ⟨t, rfl⟩ (vals_ints h)

/-- nothing is tracked but the script, known to the object (or it is an object of the module) -/
def Only (H : Hp) : Prop := ∀ b, H b = none ∨ ∃ o xs, H b = some (.frz o (.lst xs))

/-- THE HEAD: the law's promise, at the heap behind the top. F, the promise of the law's def, may use that base is part of the heap (so K.In base, base.Ns mainGlobals mg stand in Mod) -/
theorem law_call {P : Program} {w : World} {K : PySem.W.Frag} {mg mb : Str → Option Value} {CX : CXT} {k : Nat} {fa a : Addr} {fd : FuncData} {x : Str} {sp : Sp} {s₁ : Shared} {vs : List Value} {ns : List Int}
    (KX : K.In s₁.heap) (hns : s₁.heap.Ns mainGlobals mg) (hb : s₁.heap.Ns builtinsNs mb) (hbb : ∀ x : Str, x ≠ "__name__" → mb x = bootBuiltins x) (hlim : s₁.heap.NoLimit) (hg : s₁.gens = #[])
    (ha : s₁.heap.get? a = some { cls := .type "list", data := .seq vs.toArray }) (hi : IntsAre vs ns) (hl : ns.length ≤ sizeLine) (hr : Room k callerA)
    (F : ∀ base : Heap, K.In base → base.Ns mainGlobals mg → FnOk P w K mg base CX k fa fd [x] sp) (hbind : ∀ (s : Shared) (u : Value), BindsTo s fd ⟨[u], []⟩ [(x, u)])
    (hsp : ∀ H : Hp, Only H → SqL K H a (ns.map V.int) → sp [.ref a] H (fun v _ => v = .bl true) fun _ _ _ => False)
    (hCX : ∀ H e s', CX [] H s₁ (fun _ _ _ => False) e s' → False) :
    codeAny (model P w) callerA (.call (.ref fa) ⟨[.ref a], []⟩) (fun r s' => r = .ok (.ret (.bool true)) ∧ OldK s₁.heap s'.heap ∧ s'.os = s₁.os ∧ AllBare s'.gens) s₁ := by
  have rv := vals_ints hi
  have lenV := hi.length
  -- from an abstract heap in which nothing but the script may be tracked
  have core : ∀ H : Hp, Only H → SqL K H a (ns.map V.int) → HOk P w H s₁.heap → (∀ b, H b ≠ none → b = a) → (H a ≠ none → K.lookup a = none) →
      codeAny (model P w) callerA (.call (.ref fa) ⟨[.ref a], []⟩) (fun r s' => r = .ok (.ret (.bool true)) ∧ OldK s₁.heap s'.heap ∧ s'.os = s₁.os ∧ AllBare s'.gens) s₁ := by
    intro H hO hS hok hA hK
    have base_of : ∀ {b : Addr} {o : Obj}, s₁.heap.get? b = some o → H b = none → (hidT s₁.heap H).get? b = some o := fun e n => hidT_get e n
    have noA : ∀ {b : Addr} {o : Obj} {es : Array DictEntry} {ep : Nat}, s₁.heap.get? b = some o → o.data = .dict es ep → H b = none := fun {b o es ep} e d => by
      cases q : H b with
      | none => rfl
      | some u =>
        have e' : b = a := hA b (by rw [q]; simp)
        subst e'
        rw [ha] at e; cases e
        have d' : Data.seq vs.toArray _ = Data.dict es ep := d
        cases d'
    have nsK : ∀ {b : Addr} {m : Str → Option Value}, s₁.heap.Ns b m → (hidT s₁.heap H).Ns b m := fun {b m} ⟨o, es, ep, e, d, r⟩ => ⟨o, es, ep, base_of e (noA e d), d, r⟩
    have hKb : K.In (hidT s₁.heap H) := fun b o e => base_of (KX b o e) (by
      cases q : H b with
      | none => rfl
      | some u =>
        have e' : b = a := hA b (by rw [q]; simp)
        subst e'
        rw [hK (by rw [q]; simp)] at e; cases e)
    have hM : Mod K mg (hidT s₁.heap H) := ⟨hKb, nsK hns, ⟨mb, nsK hb, hbb⟩, let ⟨mc, h1, h2⟩ := hlim; ⟨mc, nsK h1, h2⟩⟩
    have e0 : Env0 P w K mg (hidT s₁.heap H) callerA [] s₁ H := ⟨rfl, hM, fun b o e => of_hidT e, Nat.le_of_eq (hidT_size _ _), trivial, fun b hb => absurd (show b ∈ ([] : List Addr) from hb) (by simp), hok, .of_eq hg⟩
    refine codeAny_mono ((F _ hKb (nsK hns)).run callerA [] s₁ H ⟨[.ref a], []⟩ [.ref a] [.ref a] _ _ hr e0 (hbind s₁ (.ref a)) (.cons rfl .nil) (hsp H hO hS)) fun r s' h => ?_
    cases r with
    | error e => exact (hCX H e s' h).elim
    | ok fl =>
      cases fl with
      | next => exact False.elim h
      | brk => exact False.elim h
      | cont => exact False.elim h
      | ret u =>
        obtain ⟨v, H', os, bare, un, hok', r', q⟩ := h
        have q' : v = .bl true := q
        subst q'
        obtain rfl : u = Value.bool true := r'
        refine ⟨rfl, OldK.of_keep fun b o e => ?_, os, bare⟩
        cases q : H b with
        | none => exact un.keep b o e q (by intro z; exact absurd (show b ∈ ([] : List Addr) from z) (by simp)) (by simp)
        | some u =>
          rcases hO b with z | ⟨ob, xs, z⟩
          · rw [q] at z; cases z
          · have z2 := un.frzs b ob _ z
            obtain ⟨e1, _⟩ := hok b _ z
            obtain ⟨e2, _⟩ := hok' b _ z2
            rw [e] at e1; cases e1
            exact e2
  cases hk : K.lookup a with
  | some o =>
    -- the script is one of the module's own objects
    have e := KX a o hk
    rw [ha] at e
    cases e
    refine core (fun _ => none) (fun _ => .inl rfl) (.inr ⟨_, vs.toArray, _, hk, rfl, rfl, rfl, by rw [List.size_toArray, lenV]; exact hl, by simpa using rv⟩) (fun b u z => by have z' : (none : Option HO) = some u := z; cases z') (fun b z => absurd rfl z) fun z => absurd rfl z
  | none =>
    refine core (fun b => if b = a then some (.frz { cls := .type "list", data := .seq vs.toArray } (.lst (ns.map V.int))) else none) (fun b => ?_) (.inl (.inr ⟨{ cls := .type "list", data := .seq vs.toArray }, if_pos rfl⟩)) (fun b u z => ?_) (fun b z => ?_) fun _ => hk
    · by_cases hb : b = a
      · exact .inr ⟨_, _, if_pos hb⟩
      · exact .inl (if_neg hb)
    · by_cases hb : b = a
      · have z' := (if_pos hb).symm.trans z
        cases z'
        subst hb
        exact ⟨ha, by rw [List.length_map]; exact hl, vs, _, rv, ha⟩
      · have z' := (if_neg hb).symm.trans z
        cases z'
    · by_cases hb : b = a
      · exact hb
      · exact absurd (if_neg hb) z
end L2

namespace L2
open PySem PySem.Spec PyProof.Rows

abbrev KOf {K : PySem.W.Frag} {h : Heap} (_ : K.In h) : PySem.W.Frag := K

/-- the goal that k_head leaves (case hc), from the law's promise. F gives the function object fd (K's own) once, then the promise over every base -/
theorem walk_of {l : PySem.W.OpenLaw} {n k : Nat} {q : Program} {loose : List Str} {XP : (Str → Option Value) → Heap → Prop} {YP : World → Heap → Prop} {d : DefRec} {K : Params → PySem.W.Frag} {CX : World → CXT} {sp : World → Sp} {x : Str}
    (hn : l.most = some n) (hn2 : n ≤ sizeLine) (hdf : d.params.defaults = []) (hr : Room k callerA)
    (hY : ∀ (w : World) (h : Heap), YP w h → (K w.params).In h)
    (F : ∀ (w : World) (mg : Str → Option Value) (fa : Addr) (h : Heap), (K w.params).In h → h.Ns mainGlobals mg → mg d.name = some (.ref fa) →
      ∃ fd : FuncData, (∀ (s : Shared) (u : Value), BindsTo s fd ⟨[u], []⟩ [(x, u)]) ∧
        ∀ base : Heap, (K w.params).In base → base.Ns mainGlobals mg → FnOk l.prog w (K w.params) mg base (CX w) k fa fd [x] (sp w))
    (hsp : ∀ (w : World) (H : Hp) (a : Addr) (ns : List Int), ns.length ≤ n → Only H → SqL (K w.params) H a (ns.map V.int) → sp w [.ref a] H (fun v _ => v = .bl true) fun _ _ _ => False)
    (hCX : ∀ (w : World) (H : Hp) (s : Shared) (e : Value) (s' : Shared), CX w [] H s (fun _ _ _ => False) e s' → False) :
    PySem.W.WalkO q loose XP YP l.row.toRowW d [] (fun f vs => PySem.call f vs) := by
  refine Att.attach_call hn hdf fun w s₀ s₁ mg mb fa o pm cd doc a vs ns G Y ho hd hcd hmg hobj hints hlen hg => ?_
  have KX := hY w _ Y
  obtain ⟨fd, hb, hF⟩ := F w mg fa _ KX G.T.g hmg
  exact law_call KX G.T.g G.T.b G.T.builtins G.T.nolimit hg hobj hints (Nat.le_trans hlen hn2) hr hF hb (fun H hO hS => hsp w H a ns hlen hO hS) fun H e s' => hCX w H s₁ e s'
/-- the same where the promise hangs on the written part alone: (sp := My.sp_law), no hole under a binder -/
theorem walk_ofK {l : PySem.W.OpenLaw} {n k : Nat} {q : Program} {loose : List Str} {XP : (Str → Option Value) → Heap → Prop} {YP : World → Heap → Prop} {d : DefRec} {K : Params → PySem.W.Frag} {CX : CXT} {sp : PySem.W.Frag → Sp} {x : Str}
    (hn : l.most = some n) (hn2 : n ≤ sizeLine) (hdf : d.params.defaults = []) (hr : Room k callerA)
    (hY : ∀ (w : World) (h : Heap), YP w h → (K w.params).In h)
    (F : ∀ (w : World) (mg : Str → Option Value) (fa : Addr) (h : Heap), (K w.params).In h → h.Ns mainGlobals mg → mg d.name = some (.ref fa) →
      ∃ fd : FuncData, (∀ (s : Shared) (u : Value), BindsTo s fd ⟨[u], []⟩ [(x, u)]) ∧
        ∀ base : Heap, (K w.params).In base → base.Ns mainGlobals mg → FnOk l.prog w (K w.params) mg base CX k fa fd [x] (sp (K w.params)))
    (hsp : ∀ (K : PySem.W.Frag) (H : Hp) (a : Addr) (ns : List Int), ns.length ≤ n → Only H → SqL K H a (ns.map V.int) → sp K [.ref a] H (fun v _ => v = .bl true) fun _ _ _ => False)
    (hCX : ∀ (H : Hp) (s : Shared) (e : Value) (s' : Shared), CX [] H s (fun _ _ _ => False) e s' → False) :
    PySem.W.WalkO q loose XP YP l.row.toRowW d [] (fun f vs => PySem.call f vs) :=
  walk_of (K := K) (CX := fun _ => CX) (sp := fun w => sp (K w.params)) hn hn2 hdf hr hY F (fun w H a ns h1 h2 h3 => hsp (K w.params) H a ns h1 h2 h3) fun _ H s e s' => hCX H s e s'
end L2

/- THE LAST THEOREM (shape; LID, My.* are yours):
   My.Adr: a structure of the addresses that your layer names (classes, functions); My.Txt K t: a structure (Prop) of the equations over K;
   My.txt_mk : {K} {implicit addresses ..} (e1 : nsIn K mainGlobals "law" = some (some (.ref f))) (e2 : K.lookup f = some ⟨oc, od, .func (fnOf "law" "law" params body scope dV kV doc pm an cdv ct), sl⟩) (e3 : codeIn K cdv "law" = true) .. : ∃ t, My.Txt K t

set_option maxRecDepth 100000 in
set_option maxHeartbeats 0 in
theorem PySem.Challenge.cw_LID_holds : PySem.Challenge.rw_LID.Holds := by
  w_on; o_law; k_head; (case hw => w_witness2)
  k_fill
  refine L2.walk_of (l := PySem.Challenge.rw_LID) (n := 63) (k := 40) (x := "script") (CX := fun w => ..) (sp := fun _ => My.sp_law) rfl (by decide) rfl ⟨rfl, by decide, by decide⟩ (fun w h Y => PySem.W.kIn_of Y) ?F ?S ?C
  case F =>
    intro w mg fa h KX G hmg
    have T : ∃ t, My.Txt (L2.KOf KX) t := by
      dsimp only [L2.KOf]                          -- K must stand as «<heap const> w.params» for k_is
      refine' My.txt_mk ?e1 ?e2 ?e3 ..
      (case e1 => PySem.W.k_is)                    -- in the order: a name -> its address -> its object -> its parts
      (case e2 => PySem.W.k_is)
      ..
    obtain ⟨t, T⟩ := T
    have e0 := hmg.symm.trans (PySem.W.mg_of KX G T.law)
    cases e0                                       -- fa is the law's own address
    exact ⟨_, fun s u => .of_eq rfl, fun base kb nb => My.law_fn T kb nb⟩     -- if «.of_eq rfl» comes too early: refine' ⟨_, ?b, fun base kb nb => My.law_fn T kb nb⟩; exact fun s u => .of_eq rfl
  case S => exact fun w H a ns hl hO hS => ..
  case C => exact ..
(the tactic k_is has no namespace: write k_is) -/

/-! SHORT WORDS over the layer: a def of the text, its body, what a loop and a test want. -/
namespace L2
open PySem PySem.Spec PyProof.Rows

/-! ### the text by places -/
/-- the j-th statement of a class's body -/
def inClass (s : Stmt) (j : Nat) : Stmt := match s with
  | .ClassDef _ _ _ body _ _ _ _ _ _ _ => body.getD j (.Pass ⟨0, 0, 0, 0⟩)
  | _ => .Pass ⟨0, 0, 0, 0⟩
def defArgs (s : Stmt) : Arguments := match s with
  | .FunctionDef _ a _ _ _ _ _ _ _ _ => a
  | _ => { posonlyargs := [], args := [], vararg := none, kwonlyargs := [], kw_defaults := [], kwarg := none, defaults := [] }
def defBody (s : Stmt) : List Stmt := match s with
  | .FunctionDef _ _ b _ _ _ _ _ _ _ => b
  | _ => []
def defScope (s : Stmt) : Scope := match s with
  | .FunctionDef _ _ _ _ _ _ sc _ _ _ => sc
  | _ => { kind := .function, names := [], isGenerator := false, isCoroutine := false }

/-! ### no exception leaves a def -/
abbrev CX0 : CXT := fun _ _ _ _ _ _ => False
abbrev E0 : XK := fun _ _ _ => False
theorem pass0 {X : Cx} : Passes CX0 X E0 := fun _ _ _ _ _ _ _ h => h.elim

/-! ### a def (or method) of the text as it stands behind the top -/
structure Fun (K : PySem.W.Frag) (x qual : Str) (st : Stmt) (f : Addr) (fd : FuncData) : Prop where
  ex : ∃ (oc : Value) (od : Option Addr) (kV doc pm : Value) (an : Option Addr) (cdv ct : Value) (osl : Array (Option Value)),
    fd = PySem.W.fnOf x qual (defArgs st) (defBody st) (defScope st) .none kV doc pm an cdv ct ∧ K.lookup f = some ⟨oc, od, .func fd, osl⟩ ∧ PySem.W.codeIn K cdv qual = true
  kp : PySem.W.keepIn K (.ref f) = true
section
variable {P : Program} {w : World} {K : PySem.W.Frag} {mg : Str → Option Value} {base : Heap}
/-- THE RULE for a def: its body as a term of rules, and the reading of that term -/
theorem Fun.ok {x qual : Str} {st : Stmt} {f : Addr} {fd : FuncData} {N ps : List Str} {k : Nat} {sp : Sp} (F : Fun K x qual st f fd) (S : FnScope N ps (defScope st)) (len : ∀ vs H Q E, sp vs H Q E → vs.length = ps.length)
    (hbody : ∀ (cdv : Value) (A : Around) (outer : List Env) (s : Shared) (H : Hp) (vs : List V) (Q : VK) (E : XK), Room k (A.deeper (envOfC qual (defScope st) s.heap.objs.size f cdv)) → sp vs H Q E →
      ∃ t, PSs (cxOf CX0 P w K mg base N qual (defScope st) f cdv A outer s H E).nox (defBody st) t ∧ t { nx := fun _ H' => Q .non H', rt := Q } (start N vs) H) : FnOk P w K mg base CX0 (k + 1) f fd ps sp := by
  obtain ⟨oc, od, kV, doc, pm, an, cdv, ct, osl, rfl, lk, hcd⟩ := F.ex
  refine fn_of lk hcd S len fun A outer s H vs Q E hr hsp => ?_
  obtain ⟨t, h, q⟩ := hbody cdv A outer s H vs Q E hr hsp
  exact ⟨t, h.nox, q⟩
/-- how its arguments bind (no defaults): h is «fun _ _ _ _ _ _ us hl => match us, hl with | [_, _], _ => rfl», one _ a parameter -/
theorem Fun.binds {x qual : Str} {st : Stmt} {f : Addr} {fd : FuncData} {ps : List Str} (F : Fun K x qual st f fd)
    (h : ∀ (kV doc pm : Value) (an : Option Addr) (cdv ct : Value) (us : List Value), us.length = ps.length → bindArgs (PySem.W.fnOf x qual (defArgs st) (defBody st) (defScope st) .none kV doc pm an cdv ct) ⟨us, []⟩ = pure (ps.zip us)) : Binds K fd ps [] := by
  obtain ⟨oc, od, kV, doc, pm, an, cdv, ct, osl, rfl, lk, hcd⟩ := F.ex
  exact .all (h kV doc pm an cdv ct)
theorem fun_mk {x qual : Str} {st : Stmt} {f : Addr} {oc : Value} {od an : Option Addr} {osl : Array (Option Value)} {kV doc pm cdv ct : Value} (l : K.lookup f = some ⟨oc, od, .func (PySem.W.fnOf x qual (defArgs st) (defBody st) (defScope st) .none kV doc pm an cdv ct), osl⟩)
    (c : PySem.W.codeIn K cdv qual = true) (k : PySem.W.keepIn K (.ref f) = true) : Fun K x qual st f (PySem.W.fnOf x qual (defArgs st) (defBody st) (defScope st) .none kV doc pm an cdv ct) := ⟨⟨oc, od, kV, doc, pm, an, cdv, ct, osl, rfl, l, c⟩, k⟩
end
theorem hu_of {A : Around} {k : Nat} (hr : Room k A) : A.units + 1 < cLine := Nat.lt_of_le_of_lt (Nat.add_le_add_left (by decide : 1 ≤ 64) _) hr.units
theorem small1000 {n : Nat} (h : n ≤ 1000) : n < sizeLine := Nat.lt_of_le_of_lt h (by decide)

/-! ### expressions in short: the name that stands in the i-th slot -/
section
variable {X : Cx}
theorem pv (i : Nat) {x : Str} {pos : Pos} (hN : X.N[i]? = some x := by rfl) (hv : Vis X.env.scope x := by first | exact Or.inl rfl | exact Or.inr (Or.inl rfl) | exact Or.inr (Or.inr rfl)) (hd : (x == ("__debug__" : Str)) = false := by decide)
    (hcd : (x == ("__classdict__" : Str)) = false := by decide) : PE X (.Name x pos) (tVar i) := pe_var hN hv hd hcd
end

/-! ### tests -/
theorem iteF {A B : Prop} (h : B) : if false = true then A else B := by
  rw [if_neg Bool.false_ne_true]
  exact h
theorem iteT {A B : Prop} (h : A) : if true = true then A else B := by
  rw [if_pos rfl]
  exact h
theorem ite2 {c A B : Prop} [Decidable c] (h1 : c → A) (h2 : ¬ c → B) : if c then A else B := by
  by_cases h : c
  · rw [if_pos h]
    exact h1 h
  · rw [if_neg h]
    exact h2 h
theorem iteNS {c A B : Prop} [Decidable c] (hc : c) (h : B) : if (!decide c) = true then A else B := by
  rw [decide_eq_true hc]
  exact iteF h

/-! ### heaps -/
/-- all that was tracked is as it was -/
def Same (H H' : Hp) : Prop := ∀ b o, H b = some o → H' b = some o
theorem Same.refl (H : Hp) : Same H H := fun _ _ h => h
theorem Same.trans {H H1 H2 : Hp} (a : Same H H1) (b : Same H1 H2) : Same H H2 := fun c o h => b c o (a c o h)
theorem Same.free {H H' : Hp} (e : Same H H') {l : Addr} (h : H' l = Option.none) : H l = Option.none := by
  cases q : H l with
  | none => rfl
  | some o =>
    rw [e l o q] at h
    cases h
theorem Same.seq {K : PySem.W.Frag} {H H' : Hp} {a : Addr} {xs : List V} (e : Same H H') (h : SqL K H a xs) : SqL K H' a xs := by
  rcases h with (h | ⟨o, h⟩) | h
  · exact .inl (.inl (e _ _ h))
  · exact .inl (.inr ⟨o, e _ _ h⟩)
  · exact .inr h

end L2

set_option Elab.async false
set_option linter.all false
set_option maxRecDepth 100000
set_option maxHeartbeats 1000000
/-! A comprehension over the hand layer: its block's context, its rule. -/
namespace L2
open PySem PySem.Spec PyProof.Rows

/-- the cells that a comprehension's block takes over -/
def clOf (cells : List (Str × Addr)) (names : List (Str × NameKind)) (acc : List (Str × Addr)) : List (Str × Addr) :=
  match names with
  | [] => acc
  | (n, k) :: r => clOf cells r (if k == .free then (n, (cells.lookup n).getD 0) :: acc else acc)

theorem clOf_sub {cells : List (Str × Addr)} : ∀ {names : List (Str × NameKind)} {acc : List (Str × Addr)}, (∀ y ∈ names, y.2 = .free → ∃ c, cells.lookup y.1 = some c) → (∀ x c, acc.lookup x = some c → cells.lookup x = some c) →
    ∀ x c, (clOf cells names acc).lookup x = some c → cells.lookup x = some c
  | [], acc, _, h, x, c, e => h x c e
  | (n, k) :: r, acc, hf, h, x, c, e => by
    unfold clOf at e
    refine clOf_sub (fun y hy => hf y (List.mem_cons_of_mem _ hy)) ?_ x c e
    intro x' c' e'
    by_cases hk : k = .free
    · subst hk
      obtain ⟨d, hd⟩ := hf (n, .free) List.mem_cons_self rfl
      have hd' : cells.lookup n = some d := hd
      simp only [beq_self_eq_true, if_true, List.lookup_cons] at e'
      cases hx : x' == n with
      | true =>
        rw [hx] at e'
        have e2 : x' = n := by simpa using hx
        subst e2
        simp only [hd', Option.getD_some] at e'
        rw [hd']; exact e'
      | false =>
        rw [hx] at e'
        exact h x' c' e'
    · have hb : (k == NameKind.free) = false := by simpa using hk
      simp only [hb, Bool.false_eq_true, if_false] at e'
      exact h x' c' e'

theorem clOf_has {cells : List (Str × Addr)} : ∀ {names : List (Str × NameKind)} {acc : List (Str × Addr)} {x : Str}, ((∃ c, acc.lookup x = some c) ∨ (x, NameKind.free) ∈ names) → ∃ c, (clOf cells names acc).lookup x = some c
  | [], acc, x, h => by
    rcases h with h | h
    · exact h
    · cases h
  | (n, k) :: r, acc, x, h => by
    unfold clOf
    refine clOf_has ?_
    by_cases hk : k = .free
    · subst hk
      simp only [beq_self_eq_true, if_true, List.lookup_cons]
      cases hx : x == n with
      | true => exact .inl ⟨_, rfl⟩
      | false =>
        rcases h with h | h
        · exact .inl h
        · rcases List.mem_cons.mp h with h | h
          · cases h
            simp at hx
          · exact .inr h
    · have hb : (k == NameKind.free) = false := by simpa using hk
      simp only [hb, Bool.false_eq_true, if_false]
      rcases h with h | h
      · exact .inl h
      · rcases List.mem_cons.mp h with h | h
        · cases h
          exact absurd rfl hk
        · exact .inr h

theorem closure_forIn {env : Env} : ∀ {names : List (Str × NameKind)} {acc : List (Str × Addr)}, (∀ y ∈ names, y.2 = .free → ∃ c, env.cells.lookup y.1 = some c) →
    (forIn names acc fun (x : Str × NameKind) (r : List (Str × Addr)) => (if x.2 == .free then (do let a ← cellOf env x.1; pure (ForInStep.yield ((x.1, a) :: r))) else pure (ForInStep.yield r) : Sem (ForInStep (List (Str × Addr))))) = (pure (clOf env.cells names acc) : Sem (List (Str × Addr)))
  | [], acc, _ => rfl
  | (n, k) :: r, acc, hf => by
    rw [List.forIn_cons]
    have ih := fun acc' => closure_forIn (env := env) (names := r) (acc := acc') fun y hy => hf y (List.mem_cons_of_mem _ hy)
    by_cases hk : k = .free
    · subst hk
      obtain ⟨c, hc⟩ := hf (n, .free) List.mem_cons_self rfl
      have hc' : env.cells.lookup n = some c := hc
      simp only [beq_self_eq_true, if_true, cellOf, hc', pure_bind, clOf, Option.getD_some]
      exact ih _
    · have hb : (k == NameKind.free) = false := by simpa using hk
      simp only [hb, Bool.false_eq_true, if_false, pure_bind, clOf]
      exact ih _

theorem closure_of {scope : Scope} {env : Env} (h : ∀ y ∈ scope.names, y.2 = .free → ∃ c, env.cells.lookup y.1 = some c) : closureFor scope env = pure (clOf env.cells scope.names []) := by
  have q := closure_forIn (env := env) (acc := []) h
  unfold closureFor
  exact (congrArg (fun m : Sem (List (Str × Addr)) => m >>= fun cs => pure cs) q).trans (by simp)
end L2

set_option Elab.async false
set_option linter.all false
set_option maxRecDepth 100000
set_option maxHeartbeats 4000000
namespace L2
open PySem PySem.Spec PyProof.Rows

/-- the context of a comprehension's block: entered at s₀, H₀ behind the list's making; fp: the iterator's records -/
def cxComp (X : Cx) (N' : List Str) (scope : Scope) (fp : List Addr) (s₀ : Shared) (H₀ : Hp) : Cx :=
  { X with N := N', s₀ := s₀, H₀ := H₀, env := compEnvC scope (clOf X.env.cells scope.names []) s₀.heap.objs.size X.env, outer := X.stack, ex := fp, fn := fun _ => false, pn := [], xe := fun _ _ => False }

/-- the written facts of a comprehension's scope -/
structure CompScope (X : Cx) (N' : List Str) (scope : Scope) : Prop where
  kind : scope.kind = .function
  nd : N'.Nodup
  nocell : ∀ y ∈ scope.names, y.2 ≠ .cell
  loc : ∀ y ∈ scope.names, y.2 = .local → scope.names.lookup y.1 = some .local
  fre : ∀ y ∈ scope.names, y.2 = .free → X.env.kindOf y.1 = some .cell
  own : ∀ x, (x, NameKind.free) ∈ scope.names → (relabel scope X.env).names.lookup x ≠ some .local

theorem relabel_back {scope : Scope} {env : Env} {x : Str} (hc : ∀ y ∈ scope.names, y.2 ≠ .cell) (h : (relabel scope env).names.lookup x = some .cell ∨ (relabel scope env).names.lookup x = some .free) : (x, NameKind.free) ∈ scope.names := by
  have key : ∀ (l : List (Str × NameKind)), (∀ y ∈ l, y.2 ≠ .cell) → ∀ k, (k = .cell ∨ k = .free) →
      (l.map fun (n, k) => if (k == NameKind.free && env.scope.kind == .function && env.kindOf n == some .cell) then (n, NameKind.cell) else (n, k)).lookup x = some k → (x, NameKind.free) ∈ l := by
    intro l
    induction l with
    | nil => intro _ k _ e; cases e
    | cons y r ih =>
      obtain ⟨n, kk⟩ := y
      intro hc k hk e
      have hr : ∀ y ∈ r, y.2 ≠ .cell := fun y hy => hc y (List.mem_cons_of_mem _ hy)
      have hkk : kk ≠ .cell := hc (n, kk) List.mem_cons_self
      rw [List.map_cons] at e
      by_cases hq : (kk == NameKind.free && env.scope.kind == .function && env.kindOf n == some .cell) = true
      · simp only [hq, if_true, List.lookup_cons] at e
        have hf : kk = .free := by
          have := (Bool.and_eq_true _ _ ▸ (Bool.and_eq_true _ _ ▸ hq).1).1
          simpa using this
        cases hx : x == n with
        | true =>
          have : x = n := by simpa using hx
          subst this; subst hf
          exact List.mem_cons_self
        | false =>
          rw [hx] at e
          exact List.mem_cons_of_mem _ (ih hr k hk e)
      · have hq' : (kk == NameKind.free && env.scope.kind == .function && env.kindOf n == some .cell) = false := by simpa using hq
        simp only [hq', Bool.false_eq_true, if_false] at e
        rw [List.lookup_cons] at e
        cases hx : x == n with
        | true =>
          have hx' : x = n := by simpa using hx
          subst hx'
          rw [hx] at e
          have e' : kk = k := by simpa using e
          rcases hk with hk | hk
          · exact absurd (e'.trans hk) hkk
          · rw [e', hk]; exact List.mem_cons_self
        | false =>
          have e2 : (r.map fun (n, k) => if (k == NameKind.free && env.scope.kind == .function && env.kindOf n == some .cell) then (n, NameKind.cell) else (n, k)).lookup x = some k := by
            rw [hx] at e
            exact e
          exact List.mem_cons_of_mem _ (ih hr k hk e2)
  rcases h with h | h
  · exact key _ hc _ (.inl rfl) h
  · exact key _ hc _ (.inr rfl) h

section
variable {X : Cx} {pins : List (Addr × Obj)} {σ : St} {H : Hp} {s : Shared} {N' : List Str} {scope : Scope} {fp : List Addr}

/-- what is to hold of the slots at the entry: each one that has a value is a captured name of the def around, with its value there -/
def Caught (X : Cx) (N' : List Str) (scope : Scope) (σ σ' : St) : Prop :=
  σ'.length = N'.length ∧ ∀ (i : Nat) (x : Str) (v : V), N'[i]? = some x → σ'[i]? = some (some v) → (x, NameKind.free) ∈ scope.names ∧ ∃ (j : Nat), X.N[j]? = some x ∧ σ[j]? = some (some v)

theorem comp_ok (S : CompScope X N' scope) (I : Inv X pins σ H s) (hf : ∀ b ∈ fp, FpOk X pins H b) (hlt : ∀ b ∈ fp, b < s.heap.objs.size) : (cxComp X N' scope fp s H).Ok := by
  have hfree : ∀ y ∈ scope.names, y.2 = .free → ∃ c, X.env.cells.lookup y.1 = some c := fun y hy hk => I.ok.has y.1 (.inl (S.fre y hy hk))
  have sub := clOf_sub (cells := X.env.cells) (names := scope.names) (acc := []) hfree (fun x c e => by cases e)
  refine ⟨I.ok.mod, S.kind, I.ok.glob, I.ok.blt, Nat.le_refl _, fun x y c e1 e2 => I.ok.inj x y c (sub x c e1) (sub y c e2), fun x hx => ?_, fun x c hz => ?_, I.ok.hd, I.ok.frames, .inl rfl, fun b hb => ?_, I.bs, Nat.le_trans I.ok.bsz I.sz, fun b o e hb => ?_, fun b hb hs => ?_, I.stack, I.stkFree⟩
  · exact clOf_has (.inr (relabel_back S.nocell hx))
  · exact absurd (show false = true from hz) Bool.false_ne_true
  · obtain ⟨_, hL, _, _, hc, _⟩ := hf b hb
    refine ⟨fun e => ?_, fun x c e => hc x c (sub x c e)⟩
    have e' : b = s.heap.objs.size := e
    exact absurd (hlt b hb) (by rw [e']; exact Nat.lt_irrefl _)
  · obtain ⟨_, _, _, h2, _⟩ := hf b hb
    rcases h2 with h2 | h2
    · exact I.ok.noex b o e h2
    · exact absurd (Nat.lt_of_lt_of_le (Heap.lt_size e) (Nat.le_trans I.ok.bsz h2)) (Nat.lt_irrefl _)
  · obtain ⟨_, hL, hfs, _⟩ := hf b hb
    rcases List.mem_cons.mp (I.stkSub b hs) with z | z
    · exact hL z
    · exact hfs z
/-- the block is entered: its names are new, the captured ones stand in their cells -/
theorem comp_inv (S : CompScope X N' scope) (I : Inv X pins σ H s) (hf : ∀ b ∈ fp, FpOk X pins H b) (hlt : ∀ b ∈ fp, b < s.heap.objs.size) {σ' : St} (hc : Caught X N' scope σ σ') {h1 : Heap} {tk : Nat}
    (hn : h1.Ns s.heap.objs.size (fun _ => none)) (hk : ∀ b o, s.heap.get? b = some o → h1.get? b = some o) : Inv (cxComp X N' scope fp s H) [] σ' H { s with heap := h1, toks := tk } := by
  have hfree : ∀ y ∈ scope.names, y.2 = .free → ∃ c, X.env.cells.lookup y.1 = some c := fun y hy hk => I.ok.has y.1 (.inl (S.fre y hy hk))
  have sub := clOf_sub (cells := X.env.cells) (names := scope.names) (acc := []) hfree (fun x c e => by cases e)
  refine ⟨comp_ok S I hf hlt, rfl, I.bare, Un.kept hk, ⟨_, hn, fun i x v e1 e2 e3 => ?_⟩, fun x c e => ?_, I.fresh, fun x c e => I.freeC x c (sub x c e), fun p hp => absurd (show p ∈ ([] : List (Addr × Obj)) from hp) (by simp), I.hok.kept hk, hc.1⟩
  · obtain ⟨hx, j, j1, j2⟩ := hc.2 i x v e1 e2
    obtain ⟨m, _, hl⟩ := I.loc
    have hkc : X.env.kindOf x = some .cell := S.fre (x, .free) hx rfl
    obtain ⟨u, r, l⟩ := hl j x v j1 j2 (.inr (.inl hkc))
    refine ⟨u, r, .inr ?_⟩
    rcases l with ⟨k, _⟩ | ⟨_, c, ec, z⟩
    · rw [hkc] at k; cases k
    · obtain ⟨c', ec'⟩ := clOf_has (cells := X.env.cells) (names := scope.names) (acc := []) (x := x) (.inr hx)
      have ec2 := sub x c' ec'
      rw [ec] at ec2
      cases ec2
      refine ⟨?_, c, ec', z.keeps hk⟩
      have e3' : Vis (relabel scope X.env) x := e3
      rcases e3' with q | q | q
      · exfalso
        exact S.own x hx q
      · exact .inl q
      · exact .inr q
  · obtain ⟨v, z⟩ := I.cell x c (sub x c e)
    exact ⟨v, z.keeps hk⟩
end
end L2

set_option Elab.async false
set_option linter.all false
set_option maxRecDepth 100000
set_option maxHeartbeats 4000000
namespace L2
open PySem PySem.Spec PyProof.Rows

/-- the tests of a comprehension -/
def PIfs (X : Cx) (ifs : List Expr) (t : TT) : Prop :=
  ∀ (pins : List (Addr × Obj)) (s : Shared) (σ : St) (H : Hp) (Q : Bool → Hp → Prop), Inv X pins σ H s → t σ H Q →
    wpAny (model X.prog X.w) X.A (forIn ifs true fun c r => if r = true then (do let ok ← isTrue c X.env (eval c X.env); pure (ForInStep.yield ok)) else pure (ForInStep.yield r)) (TP X pins σ Q) X.xe s
theorem pifs_nil {X : Cx} : PIfs X [] (fun _ H Q => Q true H) := by
  intro pins s σ H Q I h
  rw [List.forIn_nil]
  exact wpAny_pure ⟨H, I, h⟩
theorem pifs_one {X : Cx} {c : Expr} {t : TT} (h : PT X c t) : PIfs X [c] t := by
  intro pins s σ H Q I hq
  rw [List.forIn_cons]
  refine wpAny_bind ?_
  rw [if_pos rfl]
  refine wpAny_bind (thn (h pins s σ H Q I hq) fun b s1 q => wpAny_pure ?_)
  dsimp only
  rw [List.forIn_nil]
  exact wpAny_pure q

/-- a comprehension: W is what holds between two turns (the turn's number, a measure, the block's names, the list so far, the heap) -/
def tComp (wi : TI) (g : TG) (tc : TT) (te : TE) (σc : St → St) : TE := fun σ H Q => wi σ H fun J H1 => ∀ acc, H1 acc = none →
  ∃ W : Nat → Nat → St → List V → Hp → Prop, (∃ m, W 0 m (σc σ) [] (upd H1 acc (.lst []))) ∧ ∀ i m σ2 ys H2, W i m σ2 ys H2 → H2 acc = some (.lst ys) ∧
    ((J.stop i H2 ∧ Q (.ref acc) H2) ∨ (J.go i H2 ∧ ys.length < sizeLine ∧ ∀ x H3, J.yld i H2 x H3 → g x σ2 H3 fun σ4 H4 => tc σ4 H4 fun b H5 =>
      if b = true then te σ4 H5 fun y H6 => H6 acc = some (.lst ys) ∧ ∃ m', m' < m ∧ W (i + 1) m' σ4 (ys ++ [y]) (upd H6 acc (.lst (ys ++ [y]))) else ∃ m', m' < m ∧ W (i + 1) m' σ4 ys H5))

theorem turn_of_list {prog : Program} {w : World} {A : Around} {R : Result → Shared → Prop} {s : Shared} {elt target iter : Expr} {ifs : List Expr} {scope : Scope} {pos : Pos} {it acc : Value} {env : Env} (I : Nat → Shared → Prop)
    (turn : ∀ n s, I n s → wpAny (model prog w) A (pyNext it) (fun r s₁ => (r = none ∧ R (.ok .next) s₁) ∨ ∃ v, r = some v ∧
        wpAny (model prog w) A (letOwnedTupleGo target it v) (fun _ s₂ => wpAny (model prog w) A (assign target env v) (fun _ s₃ =>
          wpAny (model prog w) A (forIn ifs true fun c r => if r = true then (do let ok ← isTrue c env (eval c env); pure (ForInStep.yield ok)) else pure (ForInStep.yield r)) (fun ok s₄ =>
            if ok = true then wpAny (model prog w) A (eval elt env) (fun x s₅ => wpAny (model prog w) A (call (.builtin "list.append") [acc, x]) (fun _ s₆ => ∃ m, m < n ∧ I m s₆) (fun _ _ => False) s₅) (fun _ _ => False) s₄
            else ∃ m, m < n ∧ I m s₄) (fun _ _ => False) s₃) (fun _ _ => False) s₂) (fun _ _ => False) s₁) (fun _ _ => False) s)
    (n : Nat) (h : I n s) : codeAny (model prog w) A (.compLoop (.ListComp elt [⟨target, iter, ifs, 0⟩] scope pos) 0 it acc env) R s := by
  have no : ∀ {α : Type} {t : Sem α} {Q : α → Shared → Prop} {E : Value → Shared → Prop} {s : Shared}, wpAny (model prog w) A t Q (fun _ _ => False) s → wpAny (model prog w) A t Q E s := fun h => wpAny_mono h (fun _ _ q => q) fun _ _ f => f.elim
  refine codeAny_loop rfl I (fun n s hI => ?_) n h
  show wpAny _ A ((compTurn (.ListComp elt [⟨target, iter, ifs, 0⟩] scope pos) 0 it acc env).onRaise (fun x => do noteFrame x env; theTreesLotGoes x)) _ _ s
  refine wpAny_noted ?_
  rw [compTurn_list]
  refine wpAny_bind (wpAny_standAt (wpAny_bind (no (thn (turn n s hI) fun r s₁ h₁ => ?_))))
  rcases h₁ with ⟨rfl, h₁⟩ | ⟨v, rfl, h₁⟩
  · exact wpAny_pure h₁
  · refine wpAny_bind (no (thn h₁ fun _ s₂ h₂ => wpAny_bind (no (thn h₂ fun _ s₃ h₃ => wpAny_bind (no (thn h₃ fun ok s₄ h₄ => ?_))))))
    cases ok with
    | false => exact wpAny_pure ⟨rfl, h₄⟩
    | true => exact wpAny_bind (wpAny_bind (no (thn h₄ fun x s₅ h₅ => wpAny_bind (no (thn h₅ fun _ s₆ h₆ => wpAny_pure (wpAny_pure ⟨rfl, h₆⟩))))))

theorem hok_but {P : Program} {w : World} {H : Hp} {h h' : Heap} {C : Addr} (ok : HOk P w H h) (hC : H C = none) (hs : Heap.SameBut C h h') : HOk P w H h' := fun b o e =>
  (ok b o e).stay (fun c u hc q => (hs.2 c (by
    rintro rfl
    rcases hc with rfl | hc
    · rw [hC] at e; cases e
    · rw [hC] at hc; cases hc)).trans q) (fun _ q => q) fun _ _ q => q

theorem pe_comp {X : Cx} {tg iter elt : Expr} {ifs : List Expr} {scope : Scope} {pos : Pos} {N' : List Str} {wi : TI} {g : TG} {tc : TT} {te : TE} {σc : St → St}
    (S : CompScope X N' scope) (hcalm : X.calm = true) (hσ : ∀ σ : St, σ.length = X.N.length → Caught X N' scope σ (σc σ)) (hi : PI X tg iter wi)
    (hg : ∀ fp s₀ H₀, PG (cxComp X N' scope fp s₀ H₀) tg g) (hc : ∀ fp s₀ H₀, PIfs (cxComp X N' scope fp s₀ H₀) ifs tc) (he : ∀ fp s₀ H₀, PE (cxComp X N' scope fp s₀ H₀) elt te)
    (hs : ∀ x, foldedSetIterable iter X.env x = pure x := by intro _; rfl) : PE X (.ListComp elt [⟨tg, iter, ifs, 0⟩] scope pos) (tComp wi g tc te σc) := by
  intro pins s σ H Q I h
  have hfree : ∀ y ∈ scope.names, y.2 = .free → ∃ c, X.env.cells.lookup y.1 = some c := fun y hy hk => I.ok.has y.1 (.inl (S.fre y hy hk))
  have sub := clOf_sub (cells := X.env.cells) (names := scope.names) (acc := []) hfree (fun x c e => by cases e)
  rw [eval_ListComp]
  refine wpAny_comprehension_free (use := none) rfl hs (closure_of hfree) S.kind S.loc (thn (hi pins s σ H _ I h) fun v s1 h1 => thn h1 fun itv s2 h2 => ?_)
  obtain ⟨it, fp, tn, J, H2, rfl, I2, T, st2, f2, h2⟩ := h2
  obtain ⟨W, ⟨m0, w0⟩, turn⟩ := h2 s2.heap.objs.size I2.fresh
  have lt2 : ∀ b ∈ fp, b < s2.heap.objs.size := fun b hb => by
    obtain ⟨o, ho, _⟩ := T.obj _ _ st2 b hb
    exact Heap.lt_size ho
  refine wpAny_newObj_type (wpAny_newFunctionEnv S.nocell (by intro y hy; simp at hy) (fun h₁ hns₁ hsb₁ => ?_) S.kind)
  dsimp only at hns₁ hsb₁ ⊢
  -- the state behind the list's making: the block's entry
  have I3 : Inv X pins σ (upd H2 s2.heap.objs.size (.lst [])) { s2 with heap := s2.heap.push { cls := .type "list", data := .seq ([] : List Value).toArray } } := I2.lnew (t' := s2.toks) (ys := []) .nil (Nat.zero_le _)
  generalize hs3 : ({ s2 with heap := s2.heap.push { cls := .type "list", data := .seq ([] : List Value).toArray } } : Shared) = s3 at I3
  have e3 : s2.heap.push { cls := .type "list", data := .seq ([] : List Value).toArray } = s3.heap := by rw [← hs3]
  have sz3 : s3.heap.objs.size = s2.heap.objs.size + 1 := by rw [← e3, Heap.size_push]
  have up23 : ∀ b o, s2.heap.get? b = some o → s3.heap.get? b = some o := fun b o e => by rw [← e3]; exact Heap.get?_push_of_some _ e
  have f3 : ∀ b ∈ fp, FpOk X pins (upd H2 s2.heap.objs.size (.lst [])) b := fun b hb => by
    obtain ⟨q1, q2⟩ := f2 b hb
    exact ⟨by rw [upd_ne (Nat.ne_of_lt (lt2 b hb))]; exact q1, q2⟩
  have lt3 : ∀ b ∈ fp, b < s3.heap.objs.size := fun b hb => by rw [sz3]; exact Nat.lt_succ_of_lt (lt2 b hb)
  rw [e3] at hns₁ hsb₁ ⊢
  have up1 : ∀ b o, s3.heap.get? b = some o → h₁.get? b = some o := fun b o e => hsb₁.extBut b o (Nat.ne_of_lt (Heap.lt_size e)) (Heap.get?_push_of_some _ e)
  have hns0 : h₁.Ns s3.heap.objs.size (fun _ => none) := by
    have q := hns₁
    simpa using q
  have I4 : Inv (cxComp X N' scope fp s3 (upd H2 s2.heap.objs.size (.lst []))) [] (σc σ) (upd H2 s2.heap.objs.size (.lst [])) { s3 with heap := h₁, toks := s2.toks } := comp_inv S I3 f3 lt3 (hσ σ I.len) hns0 up1
  have st4 : tn 0 h₁ := T.keep _ _ _ st2 fun b hb o e => up1 b o (up23 b o e)
  generalize hX : cxComp X N' scope fp s3 (upd H2 s2.heap.objs.size (.lst [])) = X' at I4
  have xP : X'.prog = X.prog := by rw [← hX]; rfl
  have xw : X'.w = X.w := by rw [← hX]; rfl
  have xK : X'.K = X.K := by rw [← hX]; rfl
  have xA : X'.A = X.A := by rw [← hX]; rfl
  have xc : X'.calm = true := by rw [← hX]; exact hcalm
  have xx : X'.xe = fun _ _ => False := by rw [← hX]; rfl
  have xe : X'.env = compEnvC scope (clOf X.env.cells scope.names []) s3.heap.objs.size X.env := by rw [← hX]; rfl
  have hg' : PG X' tg g := by rw [← hX]; exact hg _ _ _
  have hc' : PIfs X' ifs tc := by rw [← hX]; exact hc _ _ _
  have he' : PE X' elt te := by rw [← hX]; exact he _ _ _
  have ex0 : X'.ex = fp := by rw [← hX]; rfl
  have fs0 : X'.fs = frs X.stack := by rw [← hX]; rfl
  have pn0 : X'.pn = [] := by rw [← hX]; rfl
  have s00 : X'.s₀ = s3 := by rw [← hX]; rfl
  have H00 : X'.H₀ = upd H2 s2.heap.objs.size (.lst []) := by rw [← hX]; rfl
  have ok4 := I4.ok
  have stat : ∀ {H' : Hp}, (∀ b ∈ fp, H' b = none) → ∀ b ∈ fp, FpOk X' [] H' b := fun {H'} hn b hb => by
    obtain ⟨_, q1, q2, q3, q4, q5⟩ := f3 b hb
    refine ⟨hn b hb, (ok4.exf b (by rw [ex0]; exact hb)).1, ok4.exfs b (by rw [ex0]; exact hb), .inl (by rw [ex0]; exact hb), (ok4.exf b (by rw [ex0]; exact hb)).2, fun p hp => ?_⟩
    rw [pn0] at hp
    exact absurd (show p ∈ ([] : List (Addr × Obj)) from hp) (by simp)
  -- behind the block
  have fin : ∀ (s' : Shared) (σ' : St) (H' : Hp), Inv X' [] σ' H' s' → Q (.ref s2.heap.objs.size) H' → compPost (model X.prog X.w) X.A X.xe none (EP X pins σ Q) (.ref s2.heap.objs.size) s3.heap.objs.size (.ok .next) s' := fun s' σ' H' I' q => by
    have hC : X'.env.locals = s3.heap.objs.size := by rw [xe]; rfl
    obtain ⟨m, hm, _⟩ := id I'.loc
    rw [hC] at hm
    refine ⟨m, hm, fun h' hs' => ⟨.ref s2.heap.objs.size, H', ?_, rfl, q⟩⟩
    have un := I'.base
    rw [fs0, ex0, s00, H00] at un
    have neC : ∀ b o, s3.heap.get? b = some o → b ≠ s3.heap.objs.size := fun b o e => Nat.ne_of_lt (Heap.lt_size e)
    have un' : Un (frs X.stack) fp (upd H2 s2.heap.objs.size (.lst [])) H' s3.heap h' :=
      ⟨fun b o e n hb hx => (hs'.2 b (neC b o e)).trans (un.keep b o e n hb hx), fun b o e n hb hx => let ⟨sl, z⟩ := un.slot b o e n hb hx; ⟨sl, (hs'.2 b (neC b o e)).trans z⟩, un.free,
        fun b o e hx => let ⟨o', z⟩ := un.there b o e hx; ⟨o', (hs'.2 b (neC b o e)).trans z⟩, un.tups, un.frzs, un.tbls⟩
    have hfr : H' s3.heap.objs.size = none := by rw [← hC]; exact I'.free
    have hok' : HOk X.prog X.w H' s'.heap := by rw [← xP, ← xw]; exact I'.hok
    refine I3.call' (s' := { s' with heap := h' }) (ch := fp) ?_ un' (hok_but hok' hfr hs') I'.bare fun b hb => ?_
    · have z := I'.os
      rw [s00] at z
      exact z
    · obtain ⟨_, q1, q2, q3, q4, q5⟩ := f3 b hb
      exact ⟨q3, q1, q4, q5⟩
  have loop : codeAny (model X.prog X.w) X.A (.compLoop (.ListComp elt [⟨tg, iter, ifs, 0⟩] scope pos) 0 (.ref it) (.ref s2.heap.objs.size) (compEnvC scope (clOf X.env.cells scope.names []) s3.heap.objs.size X.env))
      (compPost (model X.prog X.w) X.A X.xe none (EP X pins σ Q) (.ref s2.heap.objs.size) s3.heap.objs.size) { s3 with heap := h₁, toks := s2.toks } := by
    refine turn_of_list (fun n s' => ∃ i σ' ys H', Inv X' [] σ' H' s' ∧ tn i s'.heap ∧ (∀ b ∈ fp, H' b = none) ∧ W i n σ' ys H') ?_ m0 ⟨0, _, [], _, I4, st4, fun b hb => (f3 b hb).1, w0⟩
    rintro n s5 ⟨i, σ5, ys, H5, I5, st5, fr5, w5⟩
    obtain ⟨hacc, hh⟩ := turn i n σ5 ys H5 w5
    rcases hh with ⟨stop, q⟩ | ⟨go, hsz, step⟩
    · have d := T.done X' xP xw xK xc i [] s5 σ5 H5 (fun _ _ => False) I5 (stat fr5) st5 stop
      rw [xA] at d
      exact thn d fun r s6 ⟨hr, I6⟩ => .inl ⟨hr, fin s6 σ5 H5 I6 q⟩
    · have d := T.item X' xP xw xK xc i [] s5 σ5 H5 (fun _ _ => False) I5 (stat fr5) st5 go
      rw [xA] at d
      refine thn d fun r s6 ⟨u, hr, h6⟩ => .inr ⟨u, hr, thn h6 fun _ s7 ⟨x, H7, I7, r7, y7, st7, fr7⟩ => ?_⟩
      have I7' := I7.pinned (stat fr7) (T.obj _ _ st7)
      have a1 := hg' _ s7 σ5 H7 x u _ I7' r7 (step x H7 y7)
      rw [xP, xw, xA, xe, xx] at a1
      refine thn a1 fun _ s8 ⟨σ8, H8, I8, q8⟩ => ?_
      have a2 := hc' _ s8 σ8 H8 _ I8 q8
      rw [xP, xw, xA, xe, xx] at a2
      refine thn a2 fun ok s9 ⟨H9, I9, q9⟩ => ?_
      have back : ∀ {σz : St} {Hz : Hp} {sz : Shared}, Inv X' ([] ++ pinsAt fp s7.heap) σz Hz sz → tn (i + 1) sz.heap ∧ ∀ b ∈ fp, Hz b = none := fun {σz Hz sz} Iz => by
        refine ⟨T.keep _ _ _ st7 fun b hb o e => (Iz.pin (b, o) (List.mem_append_right _ (List.mem_append_right _ (mem_pinsAt hb e)))).1, fun b hb => ?_⟩
        obtain ⟨o, e, _⟩ := T.obj _ _ st7 b hb
        exact (Iz.pin (b, o) (List.mem_append_right _ (List.mem_append_right _ (mem_pinsAt hb e)))).2.1
      cases ok with
      | false =>
        obtain ⟨m', hm, w'⟩ := q9
        rw [if_neg Bool.false_ne_true]
        exact ⟨m', hm, i + 1, σ8, ys, H9, I9.unpinned, (back I9).1, (back I9).2, w'⟩
      | true =>
        rw [if_pos rfl] at q9 ⊢
        have a3 := he' _ s9 σ8 H9 _ I9 q9
        rw [xP, xw, xA, xe, xx] at a3
        refine thn a3 fun y sa ⟨yv, Ha, Ia, ra, hacc', m', hm, w'⟩ => ?_
        have a4 := mt_append (X := X') _ sa σ8 Ha (.ref s2.heap.objs.size) [yv] (.ref s2.heap.objs.size) [y] (fun v H' => H' = upd Ha s2.heap.objs.size (.lst (ys ++ [yv]))) Ia rfl (.cons ra .nil) ⟨_, ys, yv, rfl, rfl, hacc', hsz, rfl⟩
        rw [xP, xw, xA, xx] at a4
        refine thn a4 fun _ sb ⟨_, Hb, Ib, _, eb⟩ => ?_
        subst eb
        exact ⟨m', hm, i + 1, σ8, ys ++ [yv], _, Ib.unpinned, (back Ib).1, (back Ib).2, w'⟩
  have es : ({ s2 with heap := h₁, toks := s2.toks + ([] : List (Str × Value)).length } : Shared) = { s3 with heap := h₁, toks := s2.toks } := by rw [← hs3]; rfl
  refine codeAny_compStart_list ?_ ?_
  · exact es ▸ loop
  · exact T.self _ 0 _ _ _ st4 (es ▸ loop)
end L2

set_option Elab.async false
set_option linter.all false
set_option maxRecDepth 100000
set_option maxHeartbeats 4000000
/-! zip of two tuples over the hand layer. -/
namespace L2
open PySem PySem.Spec PyProof.Rows

section
variable {P : Program} {w : World} {A : Around} {E : Value → Shared → Prop} {s : Shared}

/-- one draw from a tuple's iterator -/
theorem draw_tup {d t : Addr} {k : Nat} {its : Array Value} {u : Value} {Q : Value → Shared → Prop} (hd : s.heap.IsTupleIter d t k) (ht : s.heap.IsTuple t its) (hu : its[k]? = some u)
    (hQ : ∀ hp, hp.IsTupleIter d t (k + 1) → Heap.SameBut d s.heap hp → Q u { s with heap := hp }) : wpAny (model P w) A (Builtin.SmallTypes.nextOf (.ref d)) Q E s := by
  obtain ⟨od, hod, hoc, hof⟩ := id hd
  obtain ⟨ot, hot, _, nt, hots⟩ := ht
  unfold Builtin.SmallTypes.nextOf
  refine wpAny_bind (wpAny_callSpecial?_slot (name := Str.ofString "__next__") hd.typeIs F.slot_tuple_iterator_next (wpAny_call_entry F.slot_tuple_iterator_next hd.typeIs F.entry_tuple_iterator_next ?_ (F.args_tuple_iterator_next_1 _)))
  show wpAny _ _ (field (.ref d) 0 >>= _) _ _ s
  refine wpAny_bind (wpAny_field hod hof (x := .ref t) rfl ?_)
  show wpAny _ _ (if (Value.ref t == Value.none) = true then _ else _) _ _ s
  rw [if_neg (by intro z; exact Bool.false_ne_true z)]
  show wpAny _ _ (field (.ref d) 1 >>= _) _ _ s
  refine wpAny_bind (wpAny_field hod hof (x := .int k 0) rfl ?_)
  show wpAny _ _ (seqItems? (.ref t) >>= _) _ _ s
  refine wpAny_bind (wpAny_seqItems hot hots ?_)
  simp only [Int.toNat_natCast, hu]
  refine wpAny_bind (wpAny_setField hod hof (by simp) (wpAny_pure ⟨u, rfl, wpAny_pure (hQ _ ⟨_, Heap.get?_update_self _ hod (Obj.isFreed_of_fields (Obj.data_mapFields hof _)), (Obj.cls_mapFields ..).trans hoc, ?_⟩ (Heap.SameBut.update ..))⟩))
  rw [Obj.data_mapFields hof]
  simp [rawInt]

theorem draw_tup_end {d t : Addr} {k : Nat} {its : Array Value} {Q : Value → Shared → Prop} (hh : A.handled = none) (hd : s.heap.IsTupleIter d t k) (ht : s.heap.IsTuple t its) (hu : its[k]? = none)
    (hE : ∀ hp e, Heap.ExtBut d s.heap hp → (∃ o, hp.get? e = some o ∧ o.cls = .type "StopIteration") → E (.ref e) { s with heap := hp }) : wpAny (model P w) A (Builtin.SmallTypes.nextOf (.ref d)) Q E s := by
  obtain ⟨od, hod, hoc, hof⟩ := id hd
  obtain ⟨ot, hot, _, nt, hots⟩ := ht
  unfold Builtin.SmallTypes.nextOf
  refine wpAny_bind (wpAny_callSpecial?_slot (name := Str.ofString "__next__") hd.typeIs F.slot_tuple_iterator_next (wpAny_call_entry F.slot_tuple_iterator_next hd.typeIs F.entry_tuple_iterator_next ?_ (F.args_tuple_iterator_next_1 _)))
  show wpAny _ _ (field (.ref d) 0 >>= _) _ _ s
  refine wpAny_bind (wpAny_field hod hof (x := .ref t) rfl ?_)
  show wpAny _ _ (if (Value.ref t == Value.none) = true then _ else _) _ _ s
  rw [if_neg (by intro z; exact Bool.false_ne_true z)]
  show wpAny _ _ (field (.ref d) 1 >>= _) _ _ s
  refine wpAny_bind (wpAny_field hod hof (x := .int k 0) rfl ?_)
  show wpAny _ _ (seqItems? (.ref t) >>= _) _ _ s
  refine wpAny_bind (wpAny_seqItems hot hots ?_)
  simp only [Int.toNat_natCast, hu]
  refine wpAny_bind (wpAny_rule (wpAny_bind (wpAny_setField hod hof (by simp) ?_)))
  show wpAny _ _ (newExc (.type "StopIteration") [] >>= _) _ _ _
  refine wpAny_bind ?_
  simp only [newExc, newTuple]
  refine wpAny_bind (wpAny_newObj_type ?_ (by size_fits))
  refine wpAny_bind (m := firstArgMember _ _) (wpAny_of_eq (a := Value.none) (by first | rfl | (simp only [firstArgMember]; rfl)) ?_)
  refine wpAny_newObj_type ?_ (by size_fits)
  simp only [raiseNew]
  refine wpAny_bind (wpAny_handled ?_)
  first | rw [show A.in1.handled = none from hh] | rw [hh]
  refine wpAny_bind (wpAny_pure (wpAny_throw ?_))
  exact hE _ _ (((Heap.SameBut.update ..).extBut.push _).push _) ⟨_, Heap.get?_push_size _ rfl, rfl⟩

/-- the zip's own records -/
structure ZAp (z a b c d : Addr) : Prop where
  az : a ≠ z
  bz : b ≠ z
  cz : c ≠ z
  dz : d ≠ z
  ab : a ≠ b
  ac : a ≠ c
  ad : a ≠ d
  bc : b ≠ c
  bd : b ≠ d
  cd : c ≠ d

/-- z: the zip; a: its two iterators c, d (of the tuples t1, t2); b: the tuple that it keeps -/
structure ZAt (h : Heap) (z a b c d t1 t2 : Addr) (k : Nat) (f0 : Value) : Prop where
  zip : IsZip h z a b f0
  its : IsPair h a (.ref c) (.ref d)
  own : ∃ x y, IsPair h b x y
  i1 : h.IsTupleIter c t1 k
  i2 : h.IsTupleIter d t2 k

theorem zip_item {z a b c d t1 t2 : Addr} {k : Nat} {xs ys : Array Value} {x y : Value} {Q : Value → Shared → Prop} (D : ZAp z a b c d) (Z : ZAt s.heap z a b c d t1 t2 k .none)
    (o1 : t1 ≠ z ∧ t1 ≠ b ∧ t1 ≠ c ∧ t1 ≠ d) (o2 : t2 ≠ z ∧ t2 ≠ b ∧ t2 ≠ c ∧ t2 ≠ d) (ht1 : s.heap.IsTuple t1 xs) (ht2 : s.heap.IsTuple t2 ys) (hx : xs[k]? = some x) (hy : ys[k]? = some y)
    (hQ : ∀ hp, ZAt hp z a b c d t1 t2 (k + 1) (rawInt s.heap.objs.size) → IsPair hp s.heap.objs.size x y → (∀ e o, e ≠ z → e ≠ b → e ≠ c → e ≠ d → s.heap.get? e = some o → hp.get? e = some o) → Q (.ref s.heap.objs.size) { s with heap := hp }) :
    wpAny (model P w) A (Builtin.«zip.__next__» ⟨[.ref z], []⟩) (fun fin s' => ∃ v, fin = .done (.ret v) ∧ Q v s') E s := by
  obtain ⟨zz, zi, ⟨p, q, zo⟩, z1, z2⟩ := Z
  show wpAny _ _ (field (.ref z) 2 >>= _) _ _ _
  refine wpAny_bind (wpAny_field zz rfl (x := .bool false) rfl ?_)
  show wpAny _ _ (field (.ref z) 3 >>= _) _ _ _
  refine wpAny_bind (wpAny_field zz rfl (x := .ref a) rfl ?_)
  refine wpAny_bind (wpAny_seqItems zi rfl ?_)
  show wpAny _ _ (Builtin.SmallTypes.ownedTupleIsFree (.ref z) >>= _) _ _ _
  refine wpAny_bind ?_
  unfold Builtin.SmallTypes.ownedTupleIsFree
  refine wpAny_bind (wpAny_field zz rfl (x := .none) rfl (wpAny_pure ?_))
  simp only [if_true]
  refine wpAny_bind (wpAny_rule ?_)
  refine wpAny_bind (wpAny_field zz rfl (x := .ref b) rfl ?_)
  refine wpAny_bind (wpAny_setField_rec zz (by simp) fun k1 y1 s1 => ?_)
  replace y1 : IsZip k1 z a b .ellipsis := y1
  refine wpAny_bind ?_
  simp only [List.zipIdx_cons, List.zipIdx_nil, List.forIn_cons, List.forIn_nil]
  refine wpAny_bind (wpAny_bind (wpAny_onRaise ?_))
  show wpAny _ _ (Builtin.SmallTypes.nextOf (.ref c) >>= _) _ _ _
  refine wpAny_bind (draw_tup (z1.extBut s1.extBut D.cz) (ht1.extBut s1.extBut o1.1) hx fun k2 y2 s2 => wpAny_pure ?_)
  have w2 : IsPair k2 b p q := s2.extBut _ _ D.bc (s1.extBut _ _ D.bz zo)
  refine wpAny_bind (wpAny_seqItems w2 rfl ?_)
  refine wpAny_bind (wpAny_updateSeq_pair w2 fun k3 y3 s3 => ?_)
  replace y3 : IsPair k3 b x q := y3
  refine wpAny_bind (wpAny_letGo (wpAny_pure ?_))
  refine wpAny_bind (wpAny_bind (wpAny_onRaise ?_))
  show wpAny _ _ (Builtin.SmallTypes.nextOf (.ref d) >>= _) _ _ _
  refine wpAny_bind (draw_tup (((z2.extBut s1.extBut D.dz).extBut s2.extBut D.cd.symm).extBut s3.extBut D.bd.symm) (((ht2.extBut s1.extBut o2.1).extBut s2.extBut o2.2.2.1).extBut s3.extBut o2.2.1) hy fun k4 y4 s4 => wpAny_pure ?_)
  have w4 : IsPair k4 b x q := s4.extBut _ _ D.bd y3
  refine wpAny_bind (wpAny_seqItems w4 rfl ?_)
  refine wpAny_bind (wpAny_updateSeq_pair w4 fun k5 y5 s5 => ?_)
  replace y5 : IsPair k5 b x y := y5
  refine wpAny_bind (wpAny_letGo (wpAny_pure (wpAny_pure ?_)))
  refine wpAny_bind (wpAny_seqItems y5 rfl ?_)
  refine wpAny_bind (wpAny_newTuple ?_)
  have sz : k5.objs.size = s.heap.objs.size := by rw [s5.1, s4.1, s3.1, s2.1, s1.1]
  have zz5 : IsZip k5 z a b .ellipsis := s5.extBut _ _ D.bz.symm (s4.extBut _ _ D.dz.symm (s3.extBut _ _ D.bz.symm (s2.extBut _ _ D.cz.symm y1)))
  have up5 : ∀ e o, e ≠ z → e ≠ b → e ≠ c → e ≠ d → s.heap.get? e = some o → k5.get? e = some o := fun e o e1 e2 e3 e4 g => s5.extBut _ _ e2 (s4.extBut _ _ e4 (s3.extBut _ _ e2 (s2.extBut _ _ e3 (s1.extBut _ _ e1 g))))
  have c5 : k5.IsTupleIter c t1 (k + 1) := ((y2.extBut s3.extBut D.bc.symm).extBut s4.extBut D.cd).extBut s5.extBut D.bc.symm
  have d5 : k5.IsTupleIter d t2 (k + 1) := y4.extBut s5.extBut D.bd.symm
  have zlt : z < k5.objs.size := Heap.lt_size zz5
  show wpAny _ _ (Builtin.SmallTypes.ownedTupleHandOut (.ref z) (.ref k5.objs.size) >>= _) _ _ _
  refine wpAny_bind ?_
  unfold Builtin.SmallTypes.ownedTupleHandOut
  have zz6 : IsZip (k5.push { cls := .type "tuple", data := .seq #[x, y] }) z a b .ellipsis := Heap.get?_push_of_some _ zz5
  refine wpAny_bind (wpAny_setField_rec zz6 (by simp) fun k7 y7 s7 => ?_)
  replace y7 : IsZip k7 z a b (rawInt k5.objs.size) := y7
  refine wpAny_setField_rec y7 (by simp) fun k8 y8 s8 => ?_
  replace y8 : IsZip k8 z a b (rawInt k5.objs.size) := y8
  have up : ∀ e o, e ≠ z → k5.get? e = some o → k8.get? e = some o := fun e o e1 g => s8.extBut _ _ e1 (s7.extBut _ _ e1 (Heap.get?_push_of_some _ g))
  have t8 : IsPair k8 k5.objs.size x y := s8.extBut _ _ (Nat.ne_of_gt zlt) (s7.extBut _ _ (Nat.ne_of_gt zlt) (Heap.get?_push_size _ rfl))
  rw [sz] at y8 t8
  refine wpAny_pure ⟨_, rfl, ?_⟩
  show Q (.ref k5.objs.size) _
  rw [sz]
  exact hQ k8 ⟨y8, up _ _ D.az (up5 _ _ D.az D.ab D.ac D.ad zi), ⟨x, y, up _ _ D.bz y5⟩, c5.at fun o g => up _ o D.cz g, d5.at fun o g => up _ o D.dz g⟩ t8 fun e o e1 e2 e3 e4 g => up e o e1 (up5 e o e1 e2 e3 e4 g)

theorem zip_fin {z a b c d t1 t2 : Addr} {k : Nat} {xs ys : Array Value} {Q : Fin → Shared → Prop} (hh : A.handled = none) (D : ZAp z a b c d) (Z : ZAt s.heap z a b c d t1 t2 k .none)
    (o1 : t1 ≠ z ∧ t1 ≠ b ∧ t1 ≠ c ∧ t1 ≠ d) (o2 : t2 ≠ z ∧ t2 ≠ b ∧ t2 ≠ c ∧ t2 ≠ d) (ht1 : s.heap.IsTuple t1 xs) (ht2 : s.heap.IsTuple t2 ys) (hend : xs[k]? = none ∨ ys[k]? = none)
    (hE : ∀ hp e, (∀ f o, f ≠ z → f ≠ b → f ≠ c → f ≠ d → s.heap.get? f = some o → hp.get? f = some o) → (∃ o, hp.get? e = some o ∧ o.cls = .type "StopIteration") → E (.ref e) { s with heap := hp }) :
    wpAny (model P w) A (Builtin.«zip.__next__» ⟨[.ref z], []⟩) Q E s := by
  obtain ⟨zz, zi, ⟨p, q, zo⟩, z1, z2⟩ := Z
  show wpAny _ _ (field (.ref z) 2 >>= _) _ _ _
  refine wpAny_bind (wpAny_field zz rfl (x := .bool false) rfl ?_)
  show wpAny _ _ (field (.ref z) 3 >>= _) _ _ _
  refine wpAny_bind (wpAny_field zz rfl (x := .ref a) rfl ?_)
  refine wpAny_bind (wpAny_seqItems zi rfl ?_)
  show wpAny _ _ (Builtin.SmallTypes.ownedTupleIsFree (.ref z) >>= _) _ _ _
  refine wpAny_bind ?_
  unfold Builtin.SmallTypes.ownedTupleIsFree
  refine wpAny_bind (wpAny_field zz rfl (x := .none) rfl (wpAny_pure ?_))
  simp only [if_true]
  refine wpAny_bind (wpAny_rule ?_)
  refine wpAny_bind (wpAny_field zz rfl (x := .ref b) rfl ?_)
  refine wpAny_bind (wpAny_setField_rec zz (by simp) fun k1 y1 s1 => ?_)
  replace y1 : IsZip k1 z a b .ellipsis := y1
  refine wpAny_bind ?_
  simp only [List.zipIdx_cons, List.zipIdx_nil, List.forIn_cons, List.forIn_nil]
  refine wpAny_bind (wpAny_bind (wpAny_onRaise ?_))
  show wpAny _ _ (Builtin.SmallTypes.nextOf (.ref c) >>= _) _ _ _
  cases hx : xs[k]? with
  | none =>
    refine wpAny_bind (draw_tup_end hh (z1.extBut s1.extBut D.cz) (ht1.extBut s1.extBut o1.1) hx fun k2 e s2 he => ?_)
    obtain ⟨oe, hoe, hce⟩ := he
    have zz2 : IsZip k2 z a b .ellipsis := s2 _ _ D.cz.symm y1
    have ez : e ≠ z := fun g => by subst g; rw [zz2] at hoe; cases hoe; simp at hce
    refine wpAny_setField_rec zz2 (by simp) fun k3 _ s3 => hE k3 e (fun f o f1 _ f3 _ g => s3.extBut _ _ f1 (s2 _ _ f3 (s1.extBut _ _ f1 g))) ⟨oe, s3.extBut _ _ ez hoe, hce⟩
  | some x =>
    have hy : ys[k]? = none := by
      rcases hend with h | h
      · rw [hx] at h; cases h
      · exact h
    refine wpAny_bind (draw_tup (z1.extBut s1.extBut D.cz) (ht1.extBut s1.extBut o1.1) hx fun k2 y2 s2 => wpAny_pure ?_)
    have w2 : IsPair k2 b p q := s2.extBut _ _ D.bc (s1.extBut _ _ D.bz zo)
    refine wpAny_bind (wpAny_seqItems w2 rfl ?_)
    refine wpAny_bind (wpAny_updateSeq_pair w2 fun k3 y3 s3 => ?_)
    refine wpAny_bind (wpAny_letGo (wpAny_pure ?_))
    refine wpAny_bind (wpAny_bind (wpAny_onRaise ?_))
    show wpAny _ _ (Builtin.SmallTypes.nextOf (.ref d) >>= _) _ _ _
    refine wpAny_bind (draw_tup_end hh (((z2.extBut s1.extBut D.dz).extBut s2.extBut D.cd.symm).extBut s3.extBut D.bd.symm) (((ht2.extBut s1.extBut o2.1).extBut s2.extBut o2.2.2.1).extBut s3.extBut o2.2.1) hy fun k4 e s4 he => ?_)
    obtain ⟨oe, hoe, hce⟩ := he
    have zz4 : IsZip k4 z a b .ellipsis := s4 _ _ D.dz.symm (s3.extBut _ _ D.bz.symm (s2.extBut _ _ D.cz.symm y1))
    have ez : e ≠ z := fun g => by subst g; rw [zz4] at hoe; cases hoe; simp at hce
    refine wpAny_setField_rec zz4 (by simp) fun k5 _ s5 => hE k5 e (fun f o f1 f2 f3 f4 g => s5.extBut _ _ f1 (s4 _ _ f4 (s3.extBut _ _ f2 (s2.extBut _ _ f3 (s1.extBut _ _ f1 g))))) ⟨oe, s5.extBut _ _ ez hoe, hce⟩

theorem zip_next {z a b c d t1 t2 : Addr} {k : Nat} {xs ys : Array Value} {x y : Value} {Q : Option Value → Shared → Prop} (D : ZAp z a b c d) (Z : ZAt s.heap z a b c d t1 t2 k .none)
    (o1 : t1 ≠ z ∧ t1 ≠ b ∧ t1 ≠ c ∧ t1 ≠ d) (o2 : t2 ≠ z ∧ t2 ≠ b ∧ t2 ≠ c ∧ t2 ≠ d) (ht1 : s.heap.IsTuple t1 xs) (ht2 : s.heap.IsTuple t2 ys) (hx : xs[k]? = some x) (hy : ys[k]? = some y)
    (hQ : ∀ hp, ZAt hp z a b c d t1 t2 (k + 1) (rawInt s.heap.objs.size) → IsPair hp s.heap.objs.size x y → (∀ e o, e ≠ z → e ≠ b → e ≠ c → e ≠ d → s.heap.get? e = some o → hp.get? e = some o) → Q (some (.ref s.heap.objs.size)) { s with heap := hp }) :
    wpAny (model P w) A (pyNext (.ref z)) Q E s := by
  have hT : s.TypeIs (.ref z) "zip" := ⟨_, Z.zip, rfl⟩
  unfold pyNext
  exact wpAny_bind (wpAny_attempt (wpAny_callSpecial?_slot (name := Str.ofString "__next__") hT F.slot_zip_next (wpAny_call_entry F.slot_zip_next hT F.entry_zip_next
    (zip_item D Z o1 o2 ht1 ht2 hx hy fun hp q1 q2 q3 => wpAny_pure (hQ hp q1 q2 q3)) (F.args_zip_next_1 _))))

theorem zip_stop {z a b c d t1 t2 : Addr} {k : Nat} {xs ys : Array Value} {Q : Option Value → Shared → Prop} (hh : A.handled = none) (D : ZAp z a b c d) (Z : ZAt s.heap z a b c d t1 t2 k .none)
    (o1 : t1 ≠ z ∧ t1 ≠ b ∧ t1 ≠ c ∧ t1 ≠ d) (o2 : t2 ≠ z ∧ t2 ≠ b ∧ t2 ≠ c ∧ t2 ≠ d) (ht1 : s.heap.IsTuple t1 xs) (ht2 : s.heap.IsTuple t2 ys) (hend : xs[k]? = none ∨ ys[k]? = none)
    (hQ : ∀ hp, (∀ f o, f ≠ z → f ≠ b → f ≠ c → f ≠ d → s.heap.get? f = some o → hp.get? f = some o) → Q none { s with heap := hp }) : wpAny (model P w) A (pyNext (.ref z)) Q E s := by
  have hT : s.TypeIs (.ref z) "zip" := ⟨_, Z.zip, rfl⟩
  unfold pyNext
  refine wpAny_bind (wpAny_attempt (wpAny_callSpecial?_slot (name := Str.ofString "__next__") hT F.slot_zip_next
    (wpAny_call_entry F.slot_zip_next hT F.entry_zip_next (zip_fin hh D Z o1 o2 ht1 ht2 hend fun hp e hk he => ?_) (F.args_zip_next_1 _))))
  obtain ⟨o, ho, hc⟩ := he
  refine wpAny_bind (wpAny_isInstance (T := "StopIteration") (b := true) ⟨o, ho, hc⟩ isSubtype_stop ?_)
  exact wpAny_pure (hQ _ hk)
end
end L2

set_option Elab.async false
set_option linter.all false
set_option maxRecDepth 100000
set_option maxHeartbeats 4000000
namespace L2
open PySem PySem.Spec PyProof.Rows

theorem zap_new (n : Nat) : ZAp (n + 4) (n + 2) (n + 3) n (n + 1) := by
  have h : ∀ i j : Nat, i ≠ j → n + i ≠ n + j := fun i j h e => h (Nat.add_left_cancel e)
  exact ⟨h 2 4 (by decide), h 3 4 (by decide), h 0 4 (by decide), h 1 4 (by decide), h 2 3 (by decide), h 2 0 (by decide), h 2 1 (by decide), h 3 0 (by decide), h 3 1 (by decide), h 0 1 (by decide)⟩
theorem zap_le (n : Nat) (e : Addr) (he : e ∈ [n + 4, n + 2, n + 3, n, n + 1]) : n ≤ e := by
  simp only [List.mem_cons, List.not_mem_nil, or_false] at he
  rcases he with rfl | rfl | rfl | rfl | rfl
  · exact Nat.le_add_right _ _
  · exact Nat.le_add_right _ _
  · exact Nat.le_add_right _ _
  · exact Nat.le_refl _
  · exact Nat.le_add_right _ _
/-- at turn i: a new pair of the i-th things -/
def Itz (K : PySem.W.Frag) (t1 t2 : Addr) : It :=
  ⟨fun i H => ∃ xs ys x y, SqT K H t1 xs ∧ SqT K H t2 ys ∧ xs[i]? = some x ∧ ys[i]? = some y,
   fun i H v H' => ∃ T, H T = none ∧ v = .ref T ∧ ∀ xs ys x y, SqT K H t1 xs → SqT K H t2 ys → xs[i]? = some x → ys[i]? = some y → H' = upd H T (.tup [x, y]),
   fun i H => ∃ xs ys, SqT K H t1 xs ∧ SqT K H t2 ys ∧ (xs.length ≤ i ∨ ys.length ≤ i)⟩

/-- a tuple that is read is none of the iterator's records -/
theorem sqt_apart {X : Cx} {pins : List (Addr × Obj)} {σ : St} {H : Hp} {s : Shared} {t b : Addr} {xs : List V} (I : Inv X pins σ H s) (h : SqT X.K H t xs) (f : FpOk X pins H b) : t ≠ b := by
  rintro rfl
  obtain ⟨f0, f1, f2, f3, f4, f5⟩ := f
  rcases h with (h | ⟨o, h⟩) | ⟨o, its, n, hk, _⟩
  · rw [f0] at h; cases h
  · rw [f0] at h; cases h
  · have e := I.ok.mod.kin t o hk
    rcases f3 with q | q
    · exact I.ok.noex t o e q
    · exact absurd (Nat.lt_of_lt_of_le (Heap.lt_size e) (Nat.le_trans I.ok.bsz q)) (Nat.lt_irrefl _)

theorem turn_zip {P : Program} {w : World} {K : PySem.W.Frag} {es : List Expr} {k : Nat} {pos : Pos} {z a b c d t1 t2 : Addr} (D : ZAp z a b c d) :
    Turn P w K (.Tuple es k pos) (Itz K t1 t2) [z, a, b, c, d] z (fun i h => ZAt h z a b c d t1 t2 i .none) where
  mem := by simp
  obj := fun i h st e he => by
    obtain ⟨zz, zi, ⟨p, q, zo⟩, ⟨o1, e1, c1, d1⟩, ⟨o2, e2, c2, d2⟩⟩ := st
    simp at he
    rcases he with rfl | rfl | rfl | rfl | rfl
    · exact ⟨_, zz, fun v g => by cases g⟩
    · exact ⟨_, zi, fun v g => by cases g⟩
    · exact ⟨_, zo, fun v g => by cases g⟩
    · exact ⟨_, e1, fun v g => by rw [d1] at g; cases g⟩
    · exact ⟨_, e2, fun v g => by rw [d2] at g; cases g⟩
  keep := fun i h h' st kp => by
    obtain ⟨zz, zi, ⟨p, q, zo⟩, z1, z2⟩ := st
    exact ⟨kp z (by simp) _ zz, kp a (by simp) _ zi, ⟨p, q, kp b (by simp) _ zo⟩, z1.at fun o e => kp c (by simp) o e, z2.at fun o e => kp d (by simp) o e⟩
  item := by
    intro X hP hw hK hc i pins s σ H E I hf st hg
    subst hP hw hK
    obtain ⟨xs, ys, x, y, h1, h2, hx, hy⟩ := hg
    obtain ⟨its1, r1, p1, l1⟩ := I.tuple h1
    obtain ⟨its2, r2, p2, l2⟩ := I.tuple h2
    obtain ⟨u1, hu1, ru1⟩ := r1.get hx
    obtain ⟨u2, hu2, ru2⟩ := r2.get hy
    have ap1 := fun (e : Addr) (he : e ∈ [z, a, b, c, d]) => sqt_apart I h1 (hf e he)
    have ap2 := fun (e : Addr) (he : e ∈ [z, a, b, c, d]) => sqt_apart I h2 (hf e he)
    refine zip_next D st ⟨ap1 z (by simp), ap1 b (by simp), ap1 c (by simp), ap1 d (by simp)⟩ ⟨ap2 z (by simp), ap2 b (by simp), ap2 c (by simp), ap2 d (by simp)⟩
      (show s.heap.IsTuple t1 its1.toArray from p1) (show s.heap.IsTuple t2 its2.toArray from p2) (x := u1) (y := u2) (by simpa using hu1) (by simpa using hu2) fun hp Z' pr kp => ?_
    refine ⟨_, rfl, wpAny_letOwnedTupleGo_zip Z'.zip fun hq zq sq => ?_⟩
    have nT : H s.heap.objs.size = none := I.fresh
    have keepAll : ∀ e o, e ∉ [z, b, c, d] → s.heap.get? e = some o → hq.get? e = some o := fun e o he g => by
      simp at he
      exact sq.extBut _ _ he.1 (kp e o he.1 he.2.1 he.2.2.1 he.2.2.2 g)
    have Tz : s.heap.objs.size ≠ z := Nat.ne_of_gt (Heap.lt_size st.zip)
    have prq : IsPair hq s.heap.objs.size u1 u2 := sq.extBut _ _ Tz pr
    have tracked : ∀ e u, H e = some u → e ∉ [z, b, c, d] := fun e u he hm => by
      have : H e = none := (hf e (by simp at hm ⊢; rcases hm with r | r | r | r <;> simp [r])).1
      rw [this] at he; cases he
    have hok' : HOk X.prog X.w (upd H s.heap.objs.size (.tup [x, y])) hq := fun e u he => by
      by_cases ee : e = s.heap.objs.size
      · subst ee
        rw [upd_same] at he
        cases he
        exact ⟨(by show 2 ≤ sizeLine; decide), [u1, u2], .cons ru1 (.cons ru2 .nil), ⟨_, prq, rfl, _, rfl⟩⟩
      · rw [upd_ne ee] at he
        refine (I.hok e u he).stay (fun f o hfo g => keepAll f o ?_ g) (fun f g => by rw [upd_ne (ne_of_none g nT)]; exact g) fun f zs g => by rw [upd_ne (ne_of_none g nT)]; exact g
        rcases hfo with rfl | hfo
        · exact tracked f u he
        · exact tracked f _ hfo
    have I1 : Inv X pins σ (upd H s.heap.objs.size (.tup [x, y])) { s with heap := hq } := by
      refine I.step (g' := s.gens) (d' := s.drawn) (t' := s.toks) (ch := [z, b, c, d]) (fun e he => ?_) (fun e o _ _ he g _ => keepAll e o he g) (fun e o _ _ he g _ => ⟨o.slots, keepAll e o he g⟩)
        (fun e o _ g n => by rw [upd_ne (Nat.ne_of_lt (Heap.lt_size g))]; exact n) (fun e o he g => ⟨o, keepAll e o he g⟩) (fun e zs g => by rw [upd_ne (ne_of_none g nT)]; exact g) (fun e o u g => by rw [upd_ne (ne_of_none g nT)]; exact g)
        (fun e ps g => ⟨#[], by rw [upd_ne (ne_of_none g nT), g]; simp⟩) (fun m hm => ?_) hok' I.bare
      · obtain ⟨f0, f1, f2, f3, f4, f5⟩ := hf e (by simp at he ⊢; rcases he with r | r | r | r <;> simp [r])
        exact ⟨f3, f1, f4, f5⟩
      · obtain ⟨o, es', ep, ho, r⟩ := hm
        refine ⟨o, es', ep, keepAll _ o (fun hmem => ?_) ho, r⟩
        exact (hf X.env.locals (by simp at hmem ⊢; rcases hmem with r | r | r | r <;> simp [r])).2.1 rfl
    refine ⟨.ref s.heap.objs.size, _, I1, rfl, ⟨_, nT, rfl, fun xs' ys' x' y' g1 g2 gx gy => ?_⟩, ?_, fun e he => ?_⟩
    · have e1 := I.tuple_inj g1 h1
      have e2 := I.tuple_inj g2 h2
      subst e1; subst e2
      rw [hx] at gx; rw [hy] at gy
      cases gx; cases gy
      rfl
    · obtain ⟨_, zi, ⟨p, q, zo⟩, z1, z2⟩ := Z'
      exact ⟨zq, sq.extBut _ _ D.az zi, ⟨p, q, sq.extBut _ _ D.bz zo⟩, z1.extBut sq.extBut D.cz, z2.extBut sq.extBut D.dz⟩
    · rw [upd_ne]
      · exact (hf e he).1
      · obtain ⟨o, ho, _⟩ : ∃ o, s.heap.get? e = some o ∧ True := by
          obtain ⟨zz, zi, ⟨p, q, zo⟩, ⟨o1, e1, c1, d1⟩, ⟨o2, e2, c2, d2⟩⟩ := st
          simp at he
          rcases he with rfl | rfl | rfl | rfl | rfl
          · exact ⟨_, zz, trivial⟩
          · exact ⟨_, zi, trivial⟩
          · exact ⟨_, zo, trivial⟩
          · exact ⟨_, e1, trivial⟩
          · exact ⟨_, e2, trivial⟩
        exact Nat.ne_of_lt (Heap.lt_size ho)
  done := by
    intro X hP hw hK hc i pins s σ H E I hf st hg
    subst hP hw hK
    obtain ⟨xs, ys, h1, h2, hx⟩ := hg
    obtain ⟨its1, r1, p1, l1⟩ := I.tuple h1
    obtain ⟨its2, r2, p2, l2⟩ := I.tuple h2
    have e1 := r1.length
    have e2 := r2.length
    have ap1 := fun (e : Addr) (he : e ∈ [z, a, b, c, d]) => sqt_apart I h1 (hf e he)
    have ap2 := fun (e : Addr) (he : e ∈ [z, a, b, c, d]) => sqt_apart I h2 (hf e he)
    refine zip_stop (I.ok.hd hc) D st ⟨ap1 z (by simp), ap1 b (by simp), ap1 c (by simp), ap1 d (by simp)⟩ ⟨ap2 z (by simp), ap2 b (by simp), ap2 c (by simp), ap2 d (by simp)⟩
      (show s.heap.IsTuple t1 its1.toArray from p1) (show s.heap.IsTuple t2 its2.toArray from p2) (by
        rcases hx with q | q
        · exact .inl (by simp; omega)
        · exact .inr (by simp; omega)) fun hq kp => ⟨rfl, ?_⟩
    have keepAll : ∀ e o, e ∉ [z, b, c, d] → s.heap.get? e = some o → hq.get? e = some o := fun e o he g => by
      simp at he
      exact kp e o he.1 he.2.1 he.2.2.1 he.2.2.2 g
    have tracked : ∀ e u, H e = some u → e ∉ [z, b, c, d] := fun e u he hm => by
      have : H e = none := (hf e (by simp at hm ⊢; rcases hm with r | r | r | r <;> simp [r])).1
      rw [this] at he; cases he
    refine I.step (g' := s.gens) (d' := s.drawn) (t' := s.toks) (ch := [z, b, c, d]) (fun e he => ?_) (fun e o _ _ he g _ => keepAll e o he g) (fun e o _ _ he g _ => ⟨o.slots, keepAll e o he g⟩)
      (fun e o _ g n => n) (fun e o he g => ⟨o, keepAll e o he g⟩) (fun e zs g => g) (fun e o u g => g) (fun e ps g => ⟨#[], by rw [g]; simp⟩) (fun m hm => ?_) (fun e u he => ?_) I.bare
    · obtain ⟨f0, f1, f2, f3, f4, f5⟩ := hf e (by simp at he ⊢; rcases he with r | r | r | r <;> simp [r])
      exact ⟨f3, f1, f4, f5⟩
    · obtain ⟨o, es', ep, ho, r⟩ := hm
      refine ⟨o, es', ep, keepAll _ o (fun hmem => ?_) ho, r⟩
      exact (hf X.env.locals (by simp at hmem ⊢; rcases hmem with r | r | r | r <;> simp [r])).2.1 rfl
    · refine (I.hok e u he).stay (fun f o hfo g => keepAll f o ?_ g) (fun f g => g) fun f zs g => g
      rcases hfo with rfl | hfo
      · exact tracked f u he
      · exact tracked f _ hfo
  self := fun _ _ _ _ _ st h => wpAny_pyIter_zip st.zip h

/-- the records of zip(t1, t2), made one by one -/
abbrev zh1 (h : Heap) (t1 : Addr) : Heap := h.push { cls := .type "tuple_iterator", data := .fields #[.ref t1, .int 0 0] }
abbrev zh2 (h : Heap) (t1 t2 : Addr) : Heap := (zh1 h t1).push { cls := .type "tuple_iterator", data := .fields #[.ref t2, .int 0 0] }
abbrev zh3 (h : Heap) (t1 t2 : Addr) : Heap := (zh2 h t1 t2).push { cls := .type "tuple", data := .seq #[.ref h.objs.size, .ref (zh1 h t1).objs.size] }
abbrev zh4 (h : Heap) (t1 t2 : Addr) : Heap := (zh3 h t1 t2).push { cls := .type "tuple", data := .seq #[.none, .none] }
abbrev zh5 (h : Heap) (t1 t2 : Addr) : Heap := (zh4 h t1 t2).push { cls := .type "zip", data := .fields #[.none, .bool false, .bool false, .ref (zh2 h t1 t2).objs.size, .ref (zh3 h t1 t2).objs.size] }

theorem zip_new_tup (t1 t2 : Addr) (xs ys : Array Value) :
    Meets (Builtin.«zip.__new__» ⟨[.type "zip", .ref t1, .ref t2], []⟩) (fun _ R s => s.heap.IsTuple t1 xs ∧ s.heap.IsTuple t2 ys ∧ R (.ok (.ret (.ref (zh4 s.heap t1 t2).objs.size))) { s with heap := zh5 s.heap t1 t2 }) :=
  .of_wp fun prog w A R s h => by
    obtain ⟨hp, g, d, tk, os⟩ := s; obtain ⟨ht1, ht2, h⟩ := h
    have hsub := sub_zip
    have hT1 : Heap.IsTuple (Shared.heap ⟨hp, g, d, tk, os⟩) t1 xs := ht1
    have hT2 : Heap.IsTuple (Shared.heap ⟨hp.push { cls := .type "tuple_iterator", data := .fields #[.ref t1, .int 0 0] }, g, d, tk, os⟩) t2 ys := Heap.IsTuple.push ht2 _
    wp_walk using wpAny_pyIter_tuple hT1, wpAny_pyIter_tuple hT2
    exact ⟨_, rfl, h⟩

def iZip (K : PySem.W.Frag) (ta : TA) : TI := fun σ H R => ta σ H fun vs H1 => ∃ t1 t2, vs = [.ref t1, .ref t2] ∧ (∃ xs, SqT K H1 t1 xs) ∧ (∃ ys, SqT K H1 t2 ys) ∧ R (Itz K t1 t2) H1

theorem pi_zip {X : Cx} {es : List Expr} {k : Nat} {tpos : Pos} {a b : Expr} {ta : TA} {p pos : Pos} (hg : Gl X "zip") (hm : X.mg "zip" = none) (ha : PA X [a, b] ta) (hs : starEach [a, b] X.env = [(false, eval a X.env), (false, eval b X.env)] := by rfl)
    (hs2 : starEach [b] X.env = [(false, eval b X.env)] := by rfl) : PI X (.Tuple es k tpos) (.Call (.Name "zip" p) [a, b] [] pos) (iZip X.K ta) := by
  intro pins s σ H R I h
  refine Call_ (ld_blt I hg hm (show bootBuiltins "zip" = some (.type "zip") from by decide +kernel) (PyProof.Rows.callWith_type1 (thn (ha pos pins s σ H _ I h) fun us s1 ⟨vs, H1, I1, r1, q1⟩ => ?_) (by rw [hs, hs2]) (by rw [hs2]; rfl)))
  obtain ⟨t1, t2, e, ⟨xs, g1⟩, ⟨ys, g2⟩, q⟩ := q1
  subst e
  obtain ⟨u1, u2, rfl, ru1, ru2⟩ := r1.two
  cases ru1
  cases ru2
  obtain ⟨its1, r1, p1, l1⟩ := I1.tuple g1
  obtain ⟨its2, r2, p2, l2⟩ := I1.tuple g2
  refine callType_new F.called_zip (by decide) (F.typeCall_zip_2 _ _) (F.newCall_zip_2 _ _) (fun obj => F.args_object_init_3 obj _ _) F.entry_zip_new
    (zip_new_tup t1 t2 its1.toArray its2.toArray) ⟨p1, p2, ?_⟩
  have z1 : (zh1 s1.heap t1).objs.size = s1.heap.objs.size + 1 := Heap.size_push ..
  have z2 : (zh2 s1.heap t1 t2).objs.size = s1.heap.objs.size + 2 := by rw [Heap.size_push, z1]
  have z3 : (zh3 s1.heap t1 t2).objs.size = s1.heap.objs.size + 3 := by rw [Heap.size_push, z2]
  have z4 : (zh4 s1.heap t1 t2).objs.size = s1.heap.objs.size + 4 := by rw [Heap.size_push, z3]
  have y5 : (zh5 s1.heap t1 t2).get? (zh4 s1.heap t1 t2).objs.size = some _ := Heap.get?_push_size _ rfl
  have y4 : (zh5 s1.heap t1 t2).get? (zh3 s1.heap t1 t2).objs.size = some _ := Heap.get?_push_of_some _ (Heap.get?_push_size _ rfl)
  have y3 : (zh5 s1.heap t1 t2).get? (zh2 s1.heap t1 t2).objs.size = some _ := Heap.get?_push_of_some _ (Heap.get?_push_of_some _ (Heap.get?_push_size _ rfl))
  have y2 : (zh5 s1.heap t1 t2).get? (zh1 s1.heap t1).objs.size = some _ := Heap.get?_push_of_some _ (Heap.get?_push_of_some _ (Heap.get?_push_of_some _ (Heap.get?_push_size _ rfl)))
  have y1 : (zh5 s1.heap t1 t2).get? s1.heap.objs.size = some _ := Heap.get?_push_of_some _ (Heap.get?_push_of_some _ (Heap.get?_push_of_some _ (Heap.get?_push_of_some _ (Heap.get?_push_size _ rfl))))
  have up : ∀ e o, s1.heap.get? e = some o → (zh5 s1.heap t1 t2).get? e = some o := fun e o g => Heap.get?_push_of_some _ (Heap.get?_push_of_some _ (Heap.get?_push_of_some _ (Heap.get?_push_of_some _ (Heap.get?_push_of_some _ g))))
  show _ ∧ _
  rw [z2, z3, z4] at y5
  rw [z1, z2] at y3
  rw [z3] at y4
  rw [z1] at y2
  rw [z4]
  refine ⟨⟨_, y5, rfl⟩, ?_⟩
  have I2 : Inv X pins σ H1 { s1 with heap := zh5 s1.heap t1 t2 } := I1.kept (t' := s1.toks) up
  have D : ZAp (s1.heap.objs.size + 4) (s1.heap.objs.size + 2) (s1.heap.objs.size + 3) s1.heap.objs.size (s1.heap.objs.size + 1) := zap_new s1.heap.objs.size
  have Z : ZAt (zh5 s1.heap t1 t2) (s1.heap.objs.size + 4) (s1.heap.objs.size + 2) (s1.heap.objs.size + 3) s1.heap.objs.size (s1.heap.objs.size + 1) t1 t2 0 .none := ⟨y5, y3, ⟨_, _, y4⟩, ⟨_, y1, rfl, rfl⟩, ⟨_, y2, rfl, rfl⟩⟩
  refine (turn_zip (P := X.prog) (w := X.w) (K := X.K) (es := es) (k := k) (pos := tpos) D).self X.A 0 _ _ _ Z ?_
  refine ⟨s1.heap.objs.size + 4, _, _, _, H1, rfl, I2, turn_zip D, Z, fun e he => ?_, q⟩
  have hle : s1.heap.objs.size ≤ e := zap_le s1.heap.objs.size e he
  exact I1.fpOk hle (I1.hok.fresh hle)
end L2

set_option Elab.async false
set_option linter.all false
set_option maxRecDepth 100000
set_option maxHeartbeats 4000000
/-! Rules of our own over the hand layer: texts' signs walked, isinstance, all, slices, sums of tuples, tables of the module. -/
namespace L2
open PySem PySem.Spec PyProof.Rows

/-! ### the signs of a text -/
def Its (x : Str) : It := ⟨fun i _ => i < x.cps.size, fun i H v H' => H' = H ∧ ∃ c, x.cps[i]? = some c ∧ v = .str ⟨#[c]⟩, fun i _ => i = x.cps.size⟩
theorem turn_signs {P : Program} {w : World} {K : PySem.W.Frag} {y : Str} {py : Pos} {it : Addr} {T : String} {x : Str} {t : Tok}
    (W : ∀ A' : Around, A'.handled = none → Walks P w A' it [it] [it] x.cps.size (SignAt x) (fun i h => h.IsStrIter it T x t i)) (hs : ∀ (A : Around) (i : Nat) (s : Shared) (Q : Value → Shared → Prop) (E : Value → Shared → Prop), s.heap.IsStrIter it T x t i → Q (.ref it) s → wpAny (model P w) A (pyIter (.ref it)) Q E s) :
    Turn P w K (.Name y py) (Its x) [it] it (fun i h => h.IsStrIter it T x t i) where
  mem := by simp
  obj := fun i h st b hb => by
    have e : b = it := by simpa using hb
    subst e
    obtain ⟨o, e, c, d⟩ := st
    exact ⟨o, e, fun v z => by rw [d] at z; cases z⟩
  keep := fun i h h' st k => by
    obtain ⟨o, e, r⟩ := st
    exact ⟨o, k it (by simp) o e, r⟩
  item := by
    intro X hP hw hK hc i pins s σ H E I hf st hg
    subst hP hw hK
    obtain ⟨f0, f1, f2, f3, f4, f5⟩ := hf it (by simp)
    refine (W X.A (I.ok.hd hc)).item i s _ E hg st fun v h' tk hv st' kp => ?_
    obtain ⟨c, u, hc', rfl⟩ := hv
    have I1 : Inv X pins σ H { s with heap := h', toks := tk } := I.turned (t' := tk) (fun b o hb e => kp b o (by simpa using hb) e) f0 f1 f3 f4 f5
    exact ⟨_, rfl, wpAny_pure ⟨.str ⟨#[c]⟩, H, I1, ⟨u, rfl⟩, ⟨rfl, c, hc', rfl⟩, st', fun b hb => (hf b hb).1⟩⟩
  done := by
    intro X hP hw hK hc i pins s σ H E I hf st hg
    subst hP hw hK
    obtain ⟨f0, f1, f2, f3, f4, f5⟩ := hf it (by simp)
    have e : i = x.cps.size := hg
    subst e
    exact (W X.A (I.ok.hd hc)).done s _ E st fun h' tk kp => ⟨rfl, I.turned (t' := tk) (fun b o hb e => kp b o (by simpa using hb) e) f0 f1 f3 f4 f5⟩
  self := hs
def iStr (tl : TE) : TI := fun σ H R => tl σ H fun x H1 => ∃ z, x = .str z ∧ R (Its z) H1
theorem pi_str {X : Cx} {y : Str} {py : Pos} {l : Expr} {tl : TE} (hl : PE X l tl) : PI X (.Name y py) l (iStr tl) := by
  intro pins s σ H R I h
  refine thn (hl pins s σ H _ I h) fun v s1 ⟨x, H1, I1, r1, q1⟩ => ?_
  obtain ⟨z, rfl, q⟩ := q1
  obtain ⟨t, rfl⟩ := r1
  have fp : ∀ b ∈ [s1.heap.objs.size], FpOk X pins H1 b := fun b hb => by
    have e : b = s1.heap.objs.size := by simpa using hb
    subst e
    exact I1.fpOk (Nat.le_refl _) I1.fresh
  cases ha : z.cps.all (· < 128)
  · refine wpAny_pyIter_wide ha ?_
    exact ⟨_, _, _, _, H1, rfl, I1.kept (t' := s1.toks) fun b o e => Heap.get?_push_of_some _ e, turn_signs (t := t) (fun A' hA => Walks.strWide hA _ z t) (fun A i s Q E st hq => wpAny_pyIter_striter_wide st hq), ⟨_, Heap.get?_push_size _ rfl, rfl, rfl⟩, fp, q⟩
  · refine wpAny_pyIter_ascii ha ?_
    exact ⟨_, _, _, _, H1, rfl, I1.kept (t' := s1.toks) fun b o e => Heap.get?_push_of_some _ e, turn_signs (t := t) (fun A' hA => Walks.strAscii hA _ z t) (fun A i s Q E st hq => wpAny_pyIter_striter_ascii st hq), ⟨_, Heap.get?_push_size _ rfl, rfl, rfl⟩, fp, q⟩

/-! ### isinstance -/
/-- the kind of a value, by its name -/
def tyN (H : Hp) : V → Option String
  | .non => some "NoneType"
  | .bl _ => some "bool"
  | .int _ => some "int"
  | .str _ => some "str"
  | .ref a => match H a with
    | some (.lst _) => some "list"
    | some (.tup _) => some "tuple"
    | some (.dK _) => some "dict"
    | _ => none
  | _ => none
def isiB (t c : String) : Bool := t == c || (t == "bool" && c == "int")
theorem tyOf_of {K : PySem.W.Frag} {H : Hp} {x : V} {t : String} (h : tyN H x = some t) : TyOf K H x (.type t) := by
  cases x with
  | non => cases h; exact .non
  | bl b => cases h; exact .bl b
  | int i => cases h; exact .int i
  | str z => cases h; exact .str z
  | ref a =>
    unfold tyN at h
    dsimp only at h
    split at h
    · rename_i e; cases h; exact .lst e
    · rename_i e; cases h; exact .tup e
    · rename_i e; cases h; exact .dK e
    · cases h
  | byt _ => cases h
  | flt _ => cases h
  | ty _ => cases h
theorem tyN_mem {H : Hp} {x : V} {t : String} (h : tyN H x = some t) : t ∈ ["NoneType", "bool", "int", "str", "list", "tuple", "dict"] := by
  cases x with
  | ref a =>
    unfold tyN at h
    dsimp only at h
    split at h <;> first | (cases h; simp) | cases h
  | _ => first | (cases h; simp) | cases h
theorem kit_of {K : PySem.W.Frag} {t c : String} (ht : t ∈ ["NoneType", "bool", "int", "str", "list", "tuple", "dict"]) (hc : c ∈ ["str", "int", "bool", "tuple", "list"]) : PySem.W.kitOne K (.type t) (.type c) = some (isiB t c) := by
  simp only [List.mem_cons, List.not_mem_nil, or_false] at ht hc
  rcases hc with rfl | rfl | rfl | rfl | rfl <;> rcases ht with rfl | rfl | rfl | rfl | rfl | rfl | rfl <;> rfl
theorem call_isi {X : Cx} : CallR X (.builtin "isinstance") (fun xs H Q => ∃ x c t, xs = [x, .ty c] ∧ tyN H x = some t ∧ c ∈ ["str", "int", "bool", "tuple", "list"] ∧ Q (.bl (isiB t c)) H) := by
  intro pins s σ H xs us Q I r h
  obtain ⟨x, c, t, rfl, ht, hc, q⟩ := h
  obtain ⟨u, v, rfl, ru, rv⟩ := r.two
  obtain rfl : v = Value.type c := rv
  exact isinst_ok I ru (tyOf_of ht) (kit_of (tyN_mem ht) hc) fun tk => ⟨.bl _, H, I.tok tk, rfl, q⟩
/-- isinstance(x, (tuple, list)) -/
theorem kit_any {K : PySem.W.Frag} {t : String} (ht : t ∈ ["NoneType", "bool", "int", "str", "list", "tuple", "dict"]) : PySem.W.kitAny K (.type t) [.type "tuple", .type "list"] = some (isiB t "tuple" || isiB t "list") := by
  simp only [List.mem_cons, List.not_mem_nil, or_false] at ht
  rcases ht with rfl | rfl | rfl | rfl | rfl | rfl | rfl <;> rfl
theorem call_isi2 {X : Cx} : CallR X (.builtin "isinstance") (fun xs H Q => ∃ x p t, xs = [x, .ref p] ∧ H p = some (.tup [.ty "tuple", .ty "list"]) ∧ tyN H x = some t ∧ Q (.bl (isiB t "tuple" || isiB t "list")) H) := by
  intro pins s σ H xs us Q I r h
  obtain ⟨x, p, t, rfl, hp, ht, q⟩ := h
  obtain ⟨u, v, rfl, ru, rv⟩ := r.two
  obtain rfl : v = Value.ref p := rv
  obtain ⟨_, its, rits, ⟨⟨oc, od, odt, osl⟩, ho, hoc, n, hod⟩⟩ := I.hok p _ hp
  obtain ⟨a, b, rfl, ra, rb⟩ := rits.two
  obtain rfl : a = Value.type "tuple" := ra
  obtain rfl : b = Value.type "list" := rb
  simp only at hoc hod
  subst hoc; subst hod
  have fin : ∀ tk, EP X pins σ Q (.bool (isiB t "tuple" || isiB t "list")) { s with toks := tk } := fun tk => ⟨.bl _, H, I.tok tk, rfl, q⟩
  have ka := kit_any (K := X.K) (tyN_mem ht)
  cases tyOf_of (K := X.K) ht with
  | non => cases (show u = Value.none from ru); exact PySem.W.kia_tup PySem.W.kitx_none I.kIn True.intro ho ka (fun z => nomatch z) fin
  | bl y => cases (show u = Value.bool y from ru); exact PySem.W.kia_tup PySem.W.kitx_bool I.kIn True.intro ho ka (fun z => nomatch z) fin
  | int i => obtain ⟨t, e⟩ := (show ∃ t, u = Value.int i t from ru); cases e; exact PySem.W.kia_tup PySem.W.kitx_int I.kIn True.intro ho ka (fun z => nomatch z) fin
  | str y => obtain ⟨t, e⟩ := (show ∃ t, u = Value.str y t from ru); cases e; exact PySem.W.kia_tup PySem.W.kitx_str I.kIn True.intro ho ka (fun z => nomatch z) fin
  | flt y => obtain ⟨t, e⟩ := (show ∃ t, u = Value.float y t from ru); cases e; exact PySem.W.kia_tup PySem.W.kitx_float I.kIn True.intro ho ka (fun z => nomatch z) fin
  | @lst a xs ea =>
    cases (show u = Value.ref a from ru)
    obtain ⟨_, _, n, _, h1⟩ := (show ObjOk X.prog X.w H s.heap a (.lst xs) from I.hok a _ ea)
    exact PySem.W.kia_tup PySem.W.kitx_list I.kIn ⟨_, h1, rfl⟩ ho ka (fun z => nomatch z) fin
  | @frz a ob xs ea =>
    cases (show u = Value.ref a from ru)
    obtain ⟨_, _, _, n, _, h1⟩ := (show ObjOk X.prog X.w H s.heap a (.frz ob (.lst xs)) from I.hok a _ ea)
    exact PySem.W.kia_tup PySem.W.kitx_list I.kIn ⟨_, h1, rfl⟩ ho ka (fun z => nomatch z) fin
  | @tup a xs ea =>
    cases (show u = Value.ref a from ru)
    obtain ⟨_, _, _, o, h1, h2, _⟩ := (show ObjOk X.prog X.w H s.heap a (.tup xs) from I.hok a _ ea)
    exact PySem.W.kia_tup PySem.W.kitx_tuple I.kIn ⟨o, h1, h2⟩ ho ka (fun z => nomatch z) fin
  | @dK a kvs ea =>
    cases (show u = Value.ref a from ru)
    obtain ⟨_, _, vs, _, o, es, ep, h1, h2, _⟩ := (show ObjOk X.prog X.w H s.heap a (.dK kvs) from I.hok a _ ea)
    exact PySem.W.kia_tup PySem.W.kitx_dict I.kIn ⟨o, h1, h2.1⟩ ho ka (fun z => nomatch z) fin
  | @dT a kvs ea =>
    cases (show u = Value.ref a from ru)
    obtain ⟨_, _, xs, _, o, es, ep, h1, h2, _⟩ := (show ObjOk X.prog X.w H s.heap a (.dT kvs) from I.hok a _ ea)
    exact PySem.W.kia_tup PySem.W.kitx_dict I.kIn ⟨o, h1, h2.1⟩ ho ka (fun z => nomatch z) fin

/-! ### all(xs), xs a list of truths -/
theorem call_all_bl {X : Cx} (hc : X.calm = true) : CallR X (.builtin "all") (fun xs H Q => ∃ (l : Addr) (bs : List Bool), xs = [.ref l] ∧ SqL X.K H l (bs.map V.bl) ∧ Q (.bl (bs.all id)) H) := by
  intro pins s σ H xs us Q I r h
  obtain ⟨l, bs, rfl, hl, q⟩ := h
  obtain ⟨u, rfl, ru⟩ := r.one
  cases ru
  obtain ⟨its, rv, ⟨o, n, ho, hoc, hod, hos⟩, hz⟩ := I.list hl
  have hL : s.heap.IsList l its.toArray := ⟨o, ho, hoc, n, hos⟩
  have hlt : l < s.heap.objs.size := Heap.lt_size ho
  have len : bs.length = its.length := by have := rv.length; rw [List.length_map] at this; exact this
  refine call_all_walk (wpAny_pyIter_list hL ?_)
  refine ⟨s.heap.objs.size, [s.heap.objs.size, l], [s.heap.objs.size], its.toArray.size, _, _, fun i => (bs[i]?).getD true, rfl, Walks.list (A := X.A.in1) (I.ok.hd hc) _ l (Nat.ne_of_lt hlt) its.toArray,
    ⟨⟨_, Heap.get?_push_size _ rfl, rfl, rfl⟩, hL.push _⟩, fun i v s' Q' E' hP hQ => ?_, fun h' tk kp => ?_⟩
  · have hv : its[i]? = some v := by simpa using hP
    have hi : i < its.length := (List.getElem?_eq_some_iff.mp hv).1
    have hb : bs[i]? = some bs[i] := List.getElem?_eq_getElem (by omega)
    obtain ⟨u', hu', ru'⟩ := rv.get (i := i) (x := .bl bs[i]) (by rw [List.getElem?_map, hb]; rfl)
    rw [hv] at hu'
    cases hu'
    obtain rfl : v = Value.bool bs[i] := ru'
    dsimp only at hQ
    rw [hb] at hQ
    exact wpAny_truthy_bool hQ
  · have e : ((List.range its.toArray.size).all fun i => (bs[i]?).getD true) = bs.all id := by
      rw [List.size_toArray, ← len]
      rw [Bool.eq_iff_iff, List.all_eq_true, List.all_eq_true]
      constructor
      · intro g b hb
        obtain ⟨i, hi, e⟩ := List.mem_iff_getElem.mp hb
        have := g i (List.mem_range.mpr hi)
        rw [List.getElem?_eq_getElem hi, e] at this
        exact this
      · intro g i hi
        have hi' := List.mem_range.mp hi
        rw [List.getElem?_eq_getElem hi']
        exact g _ (List.getElem_mem hi')
    rw [e]
    refine ⟨.bl (bs.all id), H, I.kept (t' := tk) fun b o e => ?_, rfl, q⟩
    exact kp b o (fun z => by rw [List.mem_singleton.mp z] at e; exact Nat.lt_irrefl _ (Heap.lt_size e)) (Heap.get?_push_of_some _ e)

/-! ### texts -/
theorem op_le_str {X : Cx} : OpR X (compareOp .LtE) (fun x y H Q => ∃ i j, x = .str i ∧ y = .str j ∧ Q (.bl (!decide (j.cps.toList < i.cps.toList))) H) := by
  intro pins s σ H x y v u Q I rx ry h
  obtain ⟨i, j, rfl, rfl, q⟩ := h
  obtain ⟨t, rfl⟩ := rx
  obtain ⟨t', rfl⟩ := ry
  exact PySem.P.le_str ⟨.bl _, H, I, rfl, q⟩
theorem mt_upper {X : Cx} : MtR X "str.upper" (fun x xs H Q => ∃ z, x = .str z ∧ xs = [] ∧ 3 * z.length ≤ 1000 ∧ ∀ y : Str, y.length ≤ 3 * z.length → Q (.str y) H) := by
  intro pins s σ H x xs v us Q I rx rv h
  obtain ⟨z, rfl, rfl, hz, q⟩ := h
  obtain ⟨t, rfl⟩ := rx
  obtain rfl := rv.zero
  have h2 : (1000 : Nat) ≤ 5592405 := by decide
  exact SCL.upper (by omega) fun hl => ⟨.str _, H, I.tok _, ⟨_, rfl⟩, q _ hl⟩
theorem sl_str {X : Cx} : SlR X (fun x lo hi H Q => ∃ z : Str, x = .str z ∧ z.length ≤ sizeLine ∧ ∀ y : Str, y.length ≤ z.length → Q (.str y) H) := by
  intro pins s σ H x v vl vu lo hi sl Q I rx hs pl pu h
  obtain ⟨z, rfl, hz, q⟩ := h
  obtain ⟨t, rfl⟩ := rx
  refine ⟨"str", _, F.slot_str_getitem.lookup, typeIs_str _ _ _, ?_⟩
  have fin : ∀ (y : Str), y.length ≤ z.length → ∀ t' k, EP X pins σ Q (.str y t') { s with toks := k } := fun y hy t' k => ⟨.str y, H, I.tok k, ⟨t', rfl⟩, q y hy⟩
  cases pl with
  | none =>
    cases pu with
    | none => exact wpAny_getItem_str_slice (l := none) (u := none) (st := none) hs rfl (post_val_or_str ⟨Nat.le_trans (Txt.slice_le z none none) hz, fun t' k => fin _ (Txt.slice_le z none none) t' k⟩)
    | int j u => exact wpAny_getItem_str_slice (l := none) (u := some (j, u)) (st := none) hs rfl (post_val_or_str ⟨Nat.le_trans (Txt.slice_le z none (some j)) hz, fun t' k => fin _ (Txt.slice_le z none (some j)) t' k⟩)
  | int i t0 =>
    cases pu with
    | none => exact wpAny_getItem_str_slice (l := some (i, t0)) (u := none) (st := none) hs rfl (post_val_or_str ⟨Nat.le_trans (Txt.slice_le z (some i) none) hz, fun t' k => fin _ (Txt.slice_le z (some i) none) t' k⟩)
    | int j u => exact wpAny_getItem_str_slice (l := some (i, t0)) (u := some (j, u)) (st := none) hs rfl (post_val_or_str ⟨Nat.le_trans (Txt.slice_le z (some i) (some j)) hz, fun t' k => fin _ (Txt.slice_le z (some i) (some j)) t' k⟩)

/-! ### tuples -/
theorem same_of_new {H : Hp} {p : Addr} (h : H p = none) (o : HO) : Same H (upd H p o) := fun b u q => by rw [upd_ne (ne_of_none q h)]; exact q
theorem cutV_whole {xs : List V} {lo hi : Option Int} (h : HT.sIx xs.length 0 lo = 0 ∧ HT.sIx xs.length xs.length hi = xs.length) : cutV xs lo hi = xs := by
  unfold cutV
  rw [h.1, h.2, List.drop_zero, Nat.sub_zero, List.take_length]
/-- the whole of a tuple is the tuple itself -/
theorem getItem_tup_all {P : Program} {w : World} {A : Around} {E : Value → Shared → Prop} {s : Shared} {t sl : Addr} {items : Array Value} {vl vu : Value} {lo hi : Option Int} {Q : Value → Shared → Prop} (ht : IsTup s.heap t items) (hs : s.heap.IsSliceOf sl vl vu .none) (pl : IsPart vl lo) (pu : IsPart vu hi)
    (hw : HT.sIx items.size 0 lo = 0 ∧ HT.sIx items.size items.size hi = items.size) (h : Q (.ref t) s) : wpAny (model P w) A (getItem (.ref t) (.ref sl)) Q E s := by
  obtain ⟨os, hos, hcs, hds⟩ := id hs
  have hTs : s.TypeIs (.ref sl) "slice" := ⟨os, hos, hcs⟩
  unfold getItem
  try with_reducible refine wpAny_holding ?_
  first | refine wpAny_bind (wpAny_pure ?_) | skip
  refine wpAny_bind (wpAny_sequenceKey ht.typeIs (by decide) ?_)
  refine wpAny_bind (wpAny_callSpecial?_slot (name := Str.ofString "__getitem__") ht.typeIs PyProof.Rows.slot_tuple_getitem (wpAny_call_entry PyProof.Rows.slot_tuple_getitem ht.typeIs entry_tuple_getitem ?_ (args_tuple_getitem _ _)))
  show wpAny _ _ (Builtin.Tuple.tupleItemsOf (.ref t) >>= _) _ _ s
  refine wpAny_bind (tupleItemsOf_ ht ?_)
  refine wpAny_bind (wpAny_typeOf hTs ?_)
  rw [if_pos (by decide)]
  refine wpAny_bind (HT.sliceApplied_gen hs pl pu ?_)
  show wpAny _ _ (if (((HT.sIx items.size 0 lo : Nat) : Int) == 0 && (1 : Int) == 1 && (HT.sIx items.size items.size hi - HT.sIx items.size 0 lo) == items.size) = true then _ else _) _ _ s
  rw [if_pos (by rw [hw.1, hw.2]; simp)]
  refine wpAny_bind (m := Builtin.Tuple.tupleIsExact (.ref t)) ?_
  unfold Builtin.Tuple.tupleIsExact
  refine wpAny_bind (wpAny_typeOf ht.typeIs (wpAny_pure ?_))
  rw [if_pos (by decide)]
  first
    | exact wpAny_bind (wpAny_rule (wpAny_pure ⟨_, rfl, wpAny_pure h⟩))
    | exact wpAny_bind (wpAny_bind (wpAny_rule (wpAny_pure (wpAny_pure ⟨_, rfl, wpAny_pure h⟩))))
    | exact wpAny_bind (wpAny_rule (wpAny_bind (wpAny_pure (wpAny_pure ⟨_, rfl, wpAny_pure h⟩))))
/-- t[lo:hi] of a tuple that is tracked -/
def rSlTw : V → Option Int → Option Int → Hp → VK → Prop := fun x lo hi H Q => ∃ a xs, x = .ref a ∧ H a = some (.tup xs) ∧ ∀ p H', Same H H' → H' p = some (.tup (cutV xs lo hi)) → Q (.ref p) H'
theorem sl_tupW {X : Cx} : SlR X rSlTw := by
  intro pins s σ H x v vl vu lo hi sl Q I rx hs pl pu h
  obtain ⟨a, xs, rfl, hx, q⟩ := h
  by_cases hw : HT.sIx xs.length 0 lo = 0 ∧ HT.sIx xs.length xs.length hi = xs.length
  · cases rx
    obtain ⟨its, r, ht, hz⟩ := I.tuple (SqT.of hx)
    have hlen : its.toArray.size = xs.length := by rw [List.size_toArray]; exact r.length.symm
    refine ⟨"tuple", _, PyProof.Rows.slot_tuple_getitem.lookup, ht.typeIs, ?_⟩
    exact getItem_tup_all ht hs pl pu (by rw [hlen]; exact hw) ⟨.ref a, H, I, rfl, q a H (Same.refl H) (by rw [cutV_whole hw]; exact hx)⟩
  · exact sl_tup pins s σ H (.ref a) v vl vu lo hi sl Q I rx hs pl pu ⟨a, xs, rfl, SqT.of hx, hw, fun p hp => q p _ (same_of_new hp _) upd_same⟩
/-- t + u, both tracked -/
def rCatTw : R2 := fun x y H Q => ∃ a b xs ys, x = .ref a ∧ y = .ref b ∧ H a = some (.tup xs) ∧ H b = some (.tup ys) ∧ xs.length + ys.length ≤ sizeLine ∧ ∀ p H', Same H H' → H' p = some (.tup (xs ++ ys)) → Q (.ref p) H'
theorem op_catTw {X : Cx} : OpR X (binaryOp .Add) rCatTw := by
  intro pins s σ H x y v u Q I rx ry h
  obtain ⟨a, b, xs, ys, rfl, rfl, ha, hb, hz, q⟩ := h
  by_cases hx : xs = []
  · cases rx
    cases ry
    subst hx
    obtain ⟨its, r1, p1, _⟩ := I.tuple (SqT.of ha)
    obtain ⟨its2, r2, p2, _⟩ := I.tuple (SqT.of hb)
    obtain ⟨⟨cls, dd, data, sl⟩, ho, hc, n, hd⟩ := id p1
    obtain ⟨⟨cls2, dd2, data2, sl2⟩, ho2, hc2, n2, hd2⟩ := id p2
    simp only at hc hd hc2 hd2
    subst hc hd hc2 hd2
    obtain rfl := r1.zero
    exact concat_meets ⟨_, ho, rfl⟩ ⟨_, ho2, rfl⟩ noFill_tuple_add seq_tuple_add PySem.F.slot_tuple_add PySem.F.entry_tuple_add (PySem.F.args_tuple_add_2 _ _)
      (tuple_addW0 a b #[] its2.toArray n n2 dd dd2 sl sl2 rfl) ⟨ho, ho2, ⟨.ref b, H, I.tok _, rfl, q b H (Same.refl H) hb⟩⟩
  · exact op_catT pins s σ H (.ref a) (.ref b) v u Q I rx ry ⟨a, b, xs, ys, rfl, rfl, SqT.of ha, SqT.of hb, hx, hz, fun e => q a H (Same.refl H) (by rw [e, List.append_nil]; exact ha), fun _ p hp => q p _ (same_of_new hp _) upd_same⟩
/-- == of two tuples, one of them empty; of two lists, one of them empty -/
theorem op_eqT0 {X : Cx} (hu : X.A.units < cLine) : OpR X (compareOp .Eq) (fun x y H Q => ∃ a b xs ys, x = .ref a ∧ y = .ref b ∧ SqT X.K H a xs ∧ SqT X.K H b ys ∧ (xs = [] ∨ ys = []) ∧ Q (.bl (xs.isEmpty && ys.isEmpty)) H) := by
  intro pins s σ H x y v u Q I rx ry h
  obtain ⟨a, b, xs, ys, rfl, rfl, ha, hb, he, q⟩ := h
  cases rx
  cases ry
  obtain ⟨its, r1, p1, _⟩ := I.tuple ha
  obtain ⟨its2, r2, p2, _⟩ := I.tuple hb
  have l1 := r1.length
  have l2 := r2.length
  refine SeqAt.eq_tupleAt (e := fun _ => true) (show s.heap.IsTuple a its.toArray from p1) (show s.heap.IsTuple b its2.toArray from p2) hu (fun j h1 h2 => ?_) ⟨.bl (xs.isEmpty && ys.isEmpty), H, I, ?_, q⟩
  · exfalso
    rw [List.size_toArray] at h1 h2
    rcases he with rfl | rfl
    · simp at l1; omega
    · simp at l2; omega
  · show Value.bool _ = Value.bool _
    congr 1
    rcases he with rfl | rfl
    · have : its = [] := by simpa using l1.symm
      subst this
      cases ys with
      | nil => have : its2 = [] := by simpa using l2.symm
               subst this; rfl
      | cons c d => cases its2 with
        | nil => simp at l2
        | cons => simp
    · have : its2 = [] := by simpa using l2.symm
      subst this
      cases xs with
      | nil => have : its = [] := by simpa using l1.symm
               subst this; rfl
      | cons c d => cases its with
        | nil => simp at l1
        | cons => simp
theorem op_eqL0 {X : Cx} (hu : X.A.units < cLine) : OpR X (compareOp .Eq) (fun x y H Q => ∃ a b xs, x = .ref a ∧ y = .ref b ∧ SqL X.K H a xs ∧ SqL X.K H b [] ∧ Q (.bl xs.isEmpty) H) := by
  intro pins s σ H x y v u Q I rx ry h
  obtain ⟨a, b, xs, rfl, rfl, ha, hb, q⟩ := h
  cases rx
  cases ry
  obtain ⟨its, r1, ⟨o1, n1, e1, c1, d1, k1⟩, _⟩ := I.list ha
  obtain ⟨its2, r2, ⟨o2, n2, e2, c2, d2, k2⟩, _⟩ := I.list hb
  obtain rfl := r2.zero
  have L1 : s.heap.IsList a its.toArray := ⟨o1, e1, c1, n1, k1⟩
  have L2' : s.heap.IsList b ([] : List Value).toArray := ⟨o2, e2, c2, n2, k2⟩
  cases xs with
  | nil =>
    obtain rfl := r1.zero
    exact SeqAt.eq_listAt (e := fun _ => true) L1 L2' rfl hu (fun j h1 h2 => absurd h1 (by simp)) ⟨.bl true, H, I, rfl, q⟩
  | cons x xr =>
    cases r1 with
    | cons r rr => exact SeqAt.eq_list_lengthsAt L1 L2' (by simp) hu ⟨.bl false, H, I, rfl, q⟩
end L2

set_option Elab.async false
set_option linter.all false
set_option maxRecDepth 100000
set_option maxHeartbeats 4000000
namespace L2
open PySem PySem.Spec PyProof.Rows

/-! ### t[::-1] -/
theorem fm_congr {α β : Type} {f g : α → Option β} : ∀ {l : List α}, (∀ x ∈ l, f x = g x) → l.filterMap f = l.filterMap g
  | [], _ => rfl
  | x :: r, h => by rw [List.filterMap_cons, List.filterMap_cons, h x List.mem_cons_self, fm_congr fun y hy => h y (List.mem_cons_of_mem _ hy)]
theorem rev_pick (xs : List Value) : ((List.range xs.length).filterMap fun (k : Nat) => xs.toArray[(((xs.length : Nat) : Int) - 1 + (k : Int) * (-1)).toNat]?).toArray = xs.reverse.toArray := by
  congr 1
  have e : ∀ k ∈ List.range xs.length, xs.toArray[(((xs.length : Nat) : Int) - 1 + (k : Int) * (-1)).toNat]? = xs.reverse[k]? := fun k hk => by
    have hk' := List.mem_range.mp hk
    have : (((xs.length : Nat) : Int) - 1 + (k : Int) * (-1)).toNat = xs.length - 1 - k := by omega
    rw [this, List.getElem?_toArray, List.getElem?_reverse hk']
  rw [fm_congr e]
  apply List.ext_getElem?
  intro i
  have key : ∀ (l : List Value), (List.range l.length).filterMap (fun k => l[k]?) = l := fun l => by
    have : (List.range l.length).filterMap (fun k => l[k]?) = (List.range l.length).map (fun k => l.getD k .none) := by
      rw [← List.filterMap_eq_map]
      refine fm_congr fun k hk => ?_
      have hk' := List.mem_range.mp hk
      rw [List.getElem?_eq_getElem hk', Function.comp, List.getD_eq_getElem?_getD, List.getElem?_eq_getElem hk']
      rfl
    rw [this]
    apply List.ext_getElem
    · simp
    · intro j h1 h2
      rw [List.getElem_map, List.getElem_range, List.getD_eq_getElem?_getD, List.getElem?_eq_getElem h2]
      rfl
  have k2 := key xs.reverse
  rw [List.length_reverse] at k2
  rw [k2]

theorem getItem_tup_rev {P : Program} {w : World} {A : Around} {E : Value → Shared → Prop} {s : Shared} {t sl : Addr} {its : List Value} {tk : Tok} {Q : Value → Shared → Prop} (ht : IsTup s.heap t its.toArray) (hs : s.heap.IsSliceOf sl .none .none (.int (-1) tk))
    (hsz : its.length ≤ sizeLine) (h : Q (.ref s.heap.objs.size) { s with heap := s.heap.push { cls := .type "tuple", data := .seq its.reverse.toArray } }) : wpAny (model P w) A (getItem (.ref t) (.ref sl)) Q E s := by
  obtain ⟨os, hos, hcs, hds⟩ := id hs
  have hTs : s.TypeIs (.ref sl) "slice" := ⟨os, hos, hcs⟩
  have hfit : sizeOk (.seq its.reverse.toArray) := by
    show its.reverse.toArray.size ≤ sizeLine
    rw [List.size_toArray, List.length_reverse]
    exact hsz
  unfold getItem
  try with_reducible refine wpAny_holding ?_
  first | refine wpAny_bind (wpAny_pure ?_) | skip
  refine wpAny_bind (wpAny_sequenceKey ht.typeIs (by decide) ?_)
  refine wpAny_bind (wpAny_callSpecial?_slot (name := Str.ofString "__getitem__") ht.typeIs PyProof.Rows.slot_tuple_getitem (wpAny_call_entry PyProof.Rows.slot_tuple_getitem ht.typeIs entry_tuple_getitem ?_ (args_tuple_getitem _ _)))
  show wpAny _ _ (Builtin.Tuple.tupleItemsOf (.ref t) >>= _) _ _ s
  refine wpAny_bind (tupleItemsOf_ ht ?_)
  refine wpAny_bind (wpAny_typeOf hTs ?_)
  rw [if_pos (by decide)]
  refine wpAny_bind ?_
  unfold Builtin.Slice.sliceApplied Builtin.Slice.sliceFields
  refine wpAny_bind (wpAny_bind (wpAny_field hos hds (x := .none) rfl (wpAny_bind (wpAny_field hos hds (x := .none) rfl (wpAny_bind (wpAny_field hos hds (x := .int (-1) tk) rfl (wpAny_pure ?_)))))))
  refine wpAny_bind (slicePart_int ?_)
  show wpAny _ _ (if ((-1 : Int) == 0) = true then _ else _) _ _ s
  rw [if_neg (by decide)]
  refine wpAny_bind (slicePart_none (wpAny_bind (slicePart_none (wpAny_bind (wpAny_pure ?_)))))
  have adj : Builtin.Slice.sliceAdjust none none (-1) ((its.toArray.size : Nat) : Int) = (((its.length : Nat) : Int) - 1, -1) := by
    unfold Builtin.Slice.sliceAdjust
    simp
  have plc : Builtin.Slice.slicePlaces (((its.length : Nat) : Int) - 1) (-1) (-1) = its.length := by
    unfold Builtin.Slice.slicePlaces
    have h1 : ¬ ((-1 : Int) > 0) := by omega
    have h2 : - (-1 : Int) = 1 := by decide
    simp only [h1, if_false, h2, Int.ediv_one]
    split <;> omega
  show wpAny _ _ (match Builtin.Slice.sliceAdjust none none (-1) ((its.toArray.size : Nat) : Int) with | (lo, hi) => pure (lo, (-1 : Int), Builtin.Slice.slicePlaces lo hi (-1))) _ _ s
  rw [adj]
  show wpAny _ _ (pure (((its.length : Nat) : Int) - 1, (-1 : Int), Builtin.Slice.slicePlaces (((its.length : Nat) : Int) - 1) (-1) (-1))) _ _ s
  rw [plc]
  refine wpAny_pure ?_
  show wpAny _ _ (if ((((its.length : Nat) : Int) - 1) == 0 && (-1 : Int) == 1 && its.length == its.toArray.size) = true then _ else _) _ _ s
  rw [if_neg (by intro z; rw [Bool.and_eq_true, Bool.and_eq_true] at z; exact absurd z.1.2 (by decide)), rev_pick]
  first
    | exact wpAny_bind (m := Builtin.Tuple.tupleExact _) (wpAny_newObj_type (wpAny_pure ⟨_, rfl, wpAny_pure h⟩) hfit)
    | exact wpAny_bind (wpAny_bind (m := Builtin.Tuple.tupleExact _) (wpAny_newObj_type (wpAny_pure (wpAny_pure ⟨_, rfl, wpAny_pure h⟩)) hfit))
    | exact wpAny_bind (wpAny_bind (m := Builtin.Tuple.tupleExact _) (wpAny_newObj_type (wpAny_pure ⟨_, rfl, wpAny_pure h⟩) hfit))

def tRev (te ts : TE) : TE := fun σ H Q => te σ H fun x H1 => ts σ H1 fun y H2 => y = .int (-1) ∧ ∃ a xs, x = .ref a ∧ H2 a = some (.tup xs) ∧ ∀ p, H2 p = none → Q (.ref p) (upd H2 p (.tup xs.reverse))
theorem pe_rev {X : Cx} {e st : Expr} {te ts : TE} {p2 pos : Pos} (he : PE X e te) (hst : PE X st ts) : PE X (.Subscript e (.Slice none none (some st) p2) pos) (tRev te ts) := by
  intro pins s σ H Q I h
  refine Subscript_ (thn (he pins s σ H _ I h) fun v s1 ⟨x, H1, I1, r1, q1⟩ => ?_)
  refine wpAny_Slice ?_
  rw [evalPart_none]
  refine wpAny_pure (wpAny_pure ?_)
  rw [evalPart_some]
  refine thn (hst pins s1 σ H1 _ I1 q1) fun vs s2 ⟨y, H2, I2, ry, ey, a, xs, ex, hx, q2⟩ => ?_
  subst ey
  subst ex
  obtain ⟨tk, rfl⟩ := ry
  cases r1
  have I4 : Inv X pins σ H2 { s2 with heap := s2.heap.push { cls := .type "slice", data := .fields #[.none, .none, .int (-1) tk] } } := I2.kept (t' := s2.toks) fun b ob g => Heap.get?_push_of_some _ g
  obtain ⟨its, r, ht, hz⟩ := I4.tuple (SqT.of hx)
  have hlen := r.length
  show wpAny (model X.prog X.w) X.A (subscriptTail e (.Slice none none (some st) p2) (.ref a) (.ref s2.heap.objs.size)) (EP X pins σ Q) X.xe { s2 with heap := s2.heap.push { cls := .type "slice", data := .fields #[.none, .none, .int (-1) tk] } }
  refine tail_any (ops := [.ref a, .ref s2.heap.objs.size]) ht.typeIs PyProof.Rows.slot_tuple_getitem.lookup (getItem_tup_rev ht (Heap.IsSliceOf.new ..) (by omega) ?_) (by with_unfolding_all rfl)
  refine ⟨.ref _, _, I4.laid (t' := s2.toks) (o := .tup xs.reverse) (fun b ob g => Heap.get?_push_of_some _ g) (Nat.le_refl _) ⟨by rw [List.length_reverse]; exact hz, _, r.reverse, IsTup.new _ _⟩, rfl, ?_⟩
  exact q2 _ I4.fresh

/-! ### {} -/
theorem Inv.wide {X : Cx} {pins : List (Addr × Obj)} {σ : St} {H : Hp} {s : Shared} (I : Inv X pins σ H s) : sysModules < s.heap.objs.size := by
  have h : mainGlobals < s.heap.objs.size := (I.mod.glob.keeps I.bk).lt
  exact Nat.lt_trans (by decide) h
theorem pe_dnew0 {X : Cx} {pos : Pos} : PE X (.Dict [] [] pos) (fun _ H Q => ∀ p, H p = none → Q (.ref p) (upd H p (.dK []))) := fun pins s σ H Q I h =>
  wpAny_Dict_empty ⟨.ref s.heap.objs.size, _, I.laid (a := s.heap.objs.size) (o := .dK []) (t' := s.toks) (fun _ _ g => Heap.get?_push_of_some _ g) (Nat.le_refl _)
    ⟨Nat.zero_le _, beq_eq_false_iff_ne.mpr (Ne.symm (Nat.ne_of_lt I.wide)), [], .nil, Heap.DictOf.new s.heap⟩, rfl, h _ I.fresh⟩
end L2

set_option Elab.async false
set_option linter.all false
set_option maxRecDepth 100000
set_option maxHeartbeats 4000000
namespace L2
open PySem PySem.Spec PyProof.Rows

/-! ### a table of the module: text keys, its things tuples of texts -/
/-- the dict at a: for each text what the table says -/
structure TabK (w : World) (K : PySem.W.Frag) (a : Addr) (tab : Str → Option (List Str)) : Prop where
  ex : ∃ (es : Array DictEntry) (n : Nat), K.lookup a = some ⟨.type "dict", none, .dict es n, #[]⟩ ∧ PySem.W.KeysLit w.params es.toList ∧
    ∀ x, match tab x with
      | some ks => ∃ b, findBy Value.isStrOf es x = some (.ref b) ∧ ∃ (o : Obj) (its : Array Value) (m : Nat), K.lookup b = some o ∧ o.cls = .type "tuple" ∧ o.data = .seq its m ∧ its.size ≤ sizeLine ∧ Vals (ks.map V.str) its.toList
      | none => findBy Value.isStrOf es x = none
  lo : (a == sysModules) = false

def tTab (K : PySem.W.Frag) (tab : Str → Option (List Str)) (te : TE) : TE := fun σ H Q => te σ H fun y H1 => ∃ x, y = .str x ∧ (match tab x with
  | some ks => ∀ b, SqT K H1 b (ks.map V.str) → Q (.ref b) H1
  | none => Q .non H1)
/-- TABLE.get(x) -/
theorem pe_tabget {X : Cx} {n : Str} {e : Expr} {a : Addr} {tab : Str → Option (List Str)} {te : TE} {p apos cpos : Pos} (T : TabK X.w X.K a tab) (hg : Gl X n) (hm : X.mg n = some (.ref a)) (he : PE X e te) (hd : (n == ("__debug__" : Str)) = false := by decide)
    (hbase : attributeBase (.Name n p) "get" X.env (eval (.Name n p) X.env) = eval (.Name n p) X.env := by rfl)
    (hfew : ((backTo cpos (starEach [e] X.env)).all (fun x => !x.1) && (backToKw cpos (keywordEach [] X.env)).all (fun x => x.1.isSome)
      && decide ([e].length + ([] : List Keyword).length + (if ([] : List Keyword).isEmpty then 0 else 1) < 30)) = true := by rfl)
    (hline : (apos.endLine == cpos.line) = true := by rfl) (hs : starEach [e] X.env = [(false, eval e X.env)] := by rfl) :
    PE X (.Call (.Attribute (.Name n p) "get" apos) [e] [] cpos) (tTab X.K tab te) := by
  intro pins s σ H Q I h
  obtain ⟨es, k, lk, keys, look⟩ := T.ex
  have hm0 := PySem.W.mapOf_K (prog := X.prog) (w := X.w) I.kIn lk keys
  refine wpAny_Call_method_late hbase hfew hline rfl (ld_glob I hg hm ?_ hd)
  refine ⟨"dict", "dict.get", PySem.F.plainAttrs_dict, PySem.F.slot_dict_get, PySem.F.type_dict_get, hm0.typeIs, hm0.noDict, ?_⟩
  have hPA : PA X [e] (tCons te tNil) := pa_cons he pa_nil (by rw [hs]; rfl)
  have hA := hPA cpos pins s σ H (fun vs H1 => match vs with
    | [y] => ∃ x, y = .str x ∧ (match tab x with
      | some ks => ∀ b, SqT X.K H1 b (ks.map V.str) → Q (.ref b) H1
      | none => Q .non H1)
    | _ => False) I h
  rw [hs] at hA ⊢
  refine Calls.callWith_builtin (by rfl) (Calls.evalArgs_plain ?_)
  refine thn hA fun us s2 ⟨vs, H2, I2, r2, q2⟩ => ?_
  have hm2 := PySem.W.mapOf_K (prog := X.prog) (w := X.w) I2.kIn lk keys
  match vs, r2, q2 with
  | [y], r2, ⟨x, ey, q⟩ =>
    subst ey
    obtain ⟨u, rfl, t, rfl⟩ := r2.one
    refine call_meetsIn PySem.F.slot_dict_get hm2.typeIs PySem.F.entry_dict_get (PySem.F.args_dict_get_2 _ _) (meets_dict_get (strKind X.prog X.w) a (strKind_is X.prog X.w x t) T.lo) ⟨_, hm2, ?_⟩
    have lx := look x
    cases ht : tab x with
    | some ks =>
      rw [ht] at lx q
      obtain ⟨b, fb, o, its, m, l1, l2, l3, l4, l5⟩ := lx
      rw [fb]
      exact ⟨.ref b, H2, I2.tok _, rfl, q b (.inr ⟨o, its, m, l1, l2, l3, l4, l5⟩)⟩
    | none =>
      rw [ht] at lx q
      rw [lx]
      exact ⟨.non, H2, I2.tok _, rfl, q⟩
end L2

set_option Elab.async false
set_option linter.all false
set_option maxRecDepth 100000
set_option maxHeartbeats 4000000
/-! Defs of a text in short: where they stand, what they promise; heaps that grow beside one list. -/
namespace L2
open PySem PySem.Spec PyProof.Rows

/-! ### a def of the text: as it stands, as it promises -/
structure Src (K : PySem.W.Frag) (mg : Str → Option Value) (x : Str) (st : Stmt) (ps : List Str) : Prop where
  ex : ∃ (f : Addr) (fd : FuncData), Fun K x x st f fd ∧ mg x = some (.ref f) ∧ Binds K fd ps []
structure Def (P : Program) (w : World) (K : PySem.W.Frag) (mg : Str → Option Value) (base : Heap) (k : Nat) (x : Str) (ps : List Str) (sp : Sp) : Prop where
  ex : ∃ (f : Addr) (fd : FuncData), FnOk P w K mg base CX0 k f fd ps sp ∧ mg x = some (.ref f) ∧ PySem.W.keepIn K (.ref f) = true ∧ Binds K fd ps []
section
variable {P : Program} {w : World} {K : PySem.W.Frag} {mg : Str → Option Value} {base : Heap} {x : Str} {st : Stmt} {ps N : List Str} {k j : Nat} {sp sp' : Sp}
theorem Src.ok (S : Src K mg x st ps) (F : FnScope N ps (defScope st)) (len : ∀ vs H Q E, sp vs H Q E → vs.length = ps.length)
    (hbody : ∀ (f : Addr) (cdv : Value) (A : Around) (outer : List Env) (s : Shared) (H : Hp) (vs : List V) (Q : VK) (E : XK), Room k (A.deeper (envOfC x (defScope st) s.heap.objs.size f cdv)) → sp vs H Q E →
      ∃ t, PSs (cxOf CX0 P w K mg base N x (defScope st) f cdv A outer s H E).nox (defBody st) t ∧ t { nx := fun _ H' => Q .non H', rt := Q } (start N vs) H) : Def P w K mg base (k + 1) x ps sp := by
  obtain ⟨f, fd, F0, hm, hb⟩ := S.ex
  exact ⟨f, fd, F0.ok F len (hbody f), hm, F0.kp, hb⟩
theorem Def.mono (D : Def P w K mg base j x ps sp) (h : j ≤ k) : Def P w K mg base k x ps sp := by
  obtain ⟨f, fd, F, r⟩ := D.ex
  exact ⟨f, fd, F.mono h, r⟩
theorem Def.imp (D : Def P w K mg base k x ps sp) (h : ∀ vs H Q E, sp' vs H Q E → sp vs H Q E) : Def P w K mg base k x ps sp' := by
  obtain ⟨f, fd, F, r⟩ := D.ex
  exact ⟨f, fd, F.imp h, r⟩
/-- a promise that nobody can ask for -/
theorem Src.no (S : Src K mg x st ps) (h : ∀ vs H Q E, ¬ sp vs H Q E) : Def P w K mg base k x ps sp := by
  obtain ⟨f, fd, F0, hm, hb⟩ := S.ex
  exact ⟨f, fd, ⟨fun vs H Q E q => absurd q (h vs H Q E), fun A outer s H args us vs Q E _ _ _ _ q => absurd q (h vs H Q E)⟩, hm, F0.kp, hb⟩
end
/-! ### arguments without a star, seen at a glance -/
def plainE : Expr → Bool
  | .Starred _ _ => false
  | _ => true
theorem star_cons {e : Expr} {es : List Expr} {env : Env} (h : plainE e = true) : starEach (e :: es) env = (false, eval e env) :: starEach es env := by
  cases e <;> first | rfl | cases h
theorem star_all {env : Env} {pos : Pos} : ∀ {es : List Expr}, es.all plainE = true → (backTo pos (starEach es env)).any (·.1) = false
  | [], _ => rfl
  | e :: es, h => by
    rw [List.all_cons, Bool.and_eq_true] at h
    rw [star_cons h.1]
    have ih := star_all (env := env) (pos := pos) h.2
    show (false || (backTo pos (starEach es env)).any (·.1)) = false
    rw [ih]; rfl
theorem pac {X : Cx} {e : Expr} {es : List Expr} {te : TE} {t : TA} (ha : PE X e te) (hr : PA X es t) (h : plainE e = true := by rfl) : PA X (e :: es) (tCons te t) := pa_cons ha hr (star_cons h)
/-- written constants -/
def constV : Expr → Option V
  | .Constant (.str x) _ _ => some (.str x)
  | .Constant (.int i) _ _ => some (.int i)
  | .Constant (.bool b) _ _ => some (.bl b)
  | .Constant .none _ _ => some .non
  | _ => none
theorem pe_const {X : Cx} {e : Expr} {v : V} (h : constV e = some v) : PE X e (tC v) ∧ plainE e = true := by
  unfold constV at h
  split at h
  · cases h; exact ⟨pe_str, rfl⟩
  · cases h; exact ⟨pe_int, rfl⟩
  · cases h; exact ⟨pe_bl, rfl⟩
  · cases h; exact ⟨pe_non, rfl⟩
  · cases h
theorem pa_const {X : Cx} : ∀ {es : List Expr} (vs : List V), es.map constV = vs.map some → PA X es (fun _ H Q => Q vs H)
  | [], [], _ => pa_nil
  | [], _ :: _, h => by cases h
  | _ :: _, [], h => by cases h
  | e :: es, v :: vs, h => by
    rw [List.map_cons, List.map_cons] at h
    injection h with h1 h2
    obtain ⟨a, b⟩ := pe_const (X := X) h1
    exact pac a (pa_const vs h2) b
/-- a cut: what holds between two statements -/
def tCut (t u : TS) : TS := fun D σ H => ∃ M : St → Hp → Prop, t { D with nx := M } σ H ∧ ∀ σ' H', M σ' H' → u D σ' H'
theorem pss_cut {X : Cx} {st : Stmt} {rest : List Stmt} {t u : TS} (h1 : PS X st t) (h2 : PSs X rest u) : PSs X (st :: rest) (tCut t u) := by
  intro pins s σ H D I h
  obtain ⟨M, a, b⟩ := h
  refine wpAny_execs_cons (thn (h1 pins s σ H { D with nx := M } I a) fun f s1 q => ?_)
  cases f with
  | next =>
    obtain ⟨σ', H', I', q⟩ := q
    exact h2 pins s1 σ' H' D I' (b σ' H' q)
  | ret v => exact q
  | brk => exact q
  | cont => exact q
/-- the same between an expression's value and its use -/
def tCutE (t : TE) : TE := fun σ H Q => ∃ M : V → Hp → Prop, t σ H M ∧ ∀ v H', M v H' → Q v H'
theorem pe_cut {X : Cx} {e : Expr} {t : TE} (h : PE X e t) : PE X e (tCutE t) := by
  intro pins s σ H Q I hq
  obtain ⟨M, a, b⟩ := hq
  exact thn (h pins s σ H M I a) fun u s1 ⟨v, H', I', r, q⟩ => ⟨v, H', I', r, b v H' q⟩
def tCutT (t : TT) : TT := fun σ H Q => ∃ M : Bool → Hp → Prop, t σ H M ∧ ∀ v H', M v H' → Q v H'
theorem pt_cut {X : Cx} {e : Expr} {t : TT} (h : PT X e t) : PT X e (tCutT t) := by
  intro pins s σ H Q I hq
  obtain ⟨M, a, b⟩ := hq
  exact thn (h pins s σ H M I a) fun u s1 ⟨H', I', q⟩ => ⟨H', I', b u H' q⟩

def tDef (sp : Sp) (t : TA) : TE := fun σ H Q => t σ H fun vs H1 => sp vs H1 Q E0
theorem pe_def {X : Cx} {k : Nat} {x : Str} {ps : List Str} {sp : Sp} {p pos : Pos} {e : Expr} {es : List Expr} {t : TA} (D : Def X.prog X.w X.K X.mg X.base k x ps sp) (hr : Room k X.A) (hg : Gl X x) (ha : PA X (e :: es) t)
    (hdb : (x == ("__debug__" : Str)) = false := by decide) (hpl : (e :: es).all plainE = true := by rfl) :
    PE X (.Call (.Name x p) (e :: es) [] pos) (tDef sp t) := by
  obtain ⟨f, fd, F, hm, hk, hb⟩ := D.ex
  intro pins s σ H Q I h
  have q := pe_call (p := p) (pos := pos) F hr hg hm hk hb .nil (pass0 (X := X)) ha hdb (star_cons (by rw [List.all_cons, Bool.and_eq_true] at hpl; exact hpl.1)) (star_all (by rw [List.all_cons, Bool.and_eq_true] at hpl; exact hpl.2)) pins s σ H Q I
  refine q ?_
  have e2 : tCall sp [] E0 t = tDef sp t := by
    funext σ H Q
    unfold tCall tDef
    simp only [List.append_nil]
  rw [e2]
  exact h

theorem pe_cB {X : Cx} {x : Str} {p pos : Pos} {e : Expr} {es : List Expr} {t : TA} {id : String} {r : List V → Hp → VK → Prop} (hc : CallR X (.builtin id) r) (hg : Gl X x) (hm : X.mg x = none) (hv : bootBuiltins x = some (.builtin id)) (ha : PA X (e :: es) t)
    (hn : x ≠ "__name__" := by decide) (hdb : (x == ("__debug__" : Str)) = false := by decide) (hpl : (e :: es).all plainE = true := by rfl) : PE X (.Call (.Name x p) (e :: es) [] pos) (tCB r t) :=
  pe_callB hc hg hm hv ha hn hdb (star_cons (by rw [List.all_cons, Bool.and_eq_true] at hpl; exact hpl.1)) (star_all (by rw [List.all_cons, Bool.and_eq_true] at hpl; exact hpl.2))
theorem pe_cT {X : Cx} {x : Str} {p pos : Pos} {e : Expr} {es : List Expr} {t : TA} {id : String} {r : List V → Hp → VK → Prop} (hc : CallR X (.type id) r) (hg : Gl X x) (hm : X.mg x = none) (hv : bootBuiltins x = some (.type id)) (ha : PA X (e :: es) t)
    (hn : x ≠ "__name__" := by decide) (hdb : (x == ("__debug__" : Str)) = false := by decide) (hpl : (e :: es).all plainE = true := by rfl) : PE X (.Call (.Name x p) (e :: es) [] pos) (tCB r t) :=
  pe_callTy hc hg hm hv ha hn hdb (star_cons (by rw [List.all_cons, Bool.and_eq_true] at hpl; exact hpl.1)) (star_all (by rw [List.all_cons, Bool.and_eq_true] at hpl; exact hpl.2))

/-! ### comprehensions in short -/
/-- k own names, then the captured ones, by their slots around -/
def captS (k : Nat) (js : List Nat) (σ : St) : St := List.replicate k none ++ js.map fun j => (σ[j]?).join
theorem capt {X : Cx} {N' : List Str} {scope : Scope} (k : Nat) (js : List Nat) (hl : k + js.length = N'.length) (hn : js.map (fun j => X.N[j]?) = (N'.drop k).map some) (hf : ∀ x ∈ N'.drop k, (x, NameKind.free) ∈ scope.names) :
    ∀ σ : St, σ.length = X.N.length → Caught X N' scope σ (captS k js σ) := by
  intro σ _
  refine ⟨by unfold captS; rw [List.length_append, List.length_replicate, List.length_map]; exact hl, fun i x v h1 h2 => ?_⟩
  unfold captS at h2
  by_cases hi : i < k
  · rw [List.getElem?_append_left (by simpa using hi), List.getElem?_replicate, if_pos hi] at h2
    cases h2
  · rw [List.getElem?_append_right (by simpa using hi), List.length_replicate, List.getElem?_map] at h2
    cases hj : js[i - k]? with
    | none => rw [hj] at h2; cases h2
    | some j =>
      rw [hj] at h2
      have h3 : (σ[j]?).join = some v := by simpa using h2
      have e1 : (N'.drop k)[i - k]? = some x := by rw [List.getElem?_drop]; rw [show k + (i - k) = i by omega]; exact h1
      have e2 := congrArg (fun l => l[i - k]?) hn
      simp only [List.getElem?_map, hj, e1, Option.map_some] at e2
      refine ⟨hf x (List.mem_of_getElem? e1), j, Option.some.inj e2, ?_⟩
      cases hs : σ[j]? with
      | none => rw [hs] at h3; cases h3
      | some o =>
        rw [hs] at h3
        have : o = some v := h3
        rw [this]
theorem comp_scope {X : Cx} {N' : List Str} {scope : Scope} (sc : Scope) (hsc : X.env.scope = sc) (a : scope.kind = .function) (b : N'.Nodup) (c : ∀ y ∈ scope.names, y.2 ≠ .cell) (d : ∀ y ∈ scope.names, y.2 = .local → scope.names.lookup y.1 = some .local)
    (e : ∀ y ∈ scope.names, y.2 = .free → sc.names.lookup y.1 = some .cell)
    (f : ∀ y ∈ scope.names, y.2 = .free → (scope.names.map fun (n, k) => if (k == .free && sc.kind == .function && sc.names.lookup n == some .cell) then (n, NameKind.cell) else (n, k)).lookup y.1 ≠ some .local) : CompScope X N' scope := by
  subst hsc
  exact ⟨a, b, c, d, e, fun x hx => f (x, .free) hx rfl⟩

/-! ### the built-in names -/
theorem bt_len : bootBuiltins "len" = some (.builtin "len") := PySem.boot_len
theorem bt_isinstance : bootBuiltins "isinstance" = some (.builtin "isinstance") := by decide +kernel
theorem bt_all : bootBuiltins "all" = some (.builtin "all") := by decide +kernel
theorem bt_list : bootBuiltins "list" = some (.type "list") := by decide +kernel
theorem bt_tuple : bootBuiltins "tuple" = some (.type "tuple") := by decide +kernel
theorem bt_str : bootBuiltins "str" = some (.type "str") := by decide +kernel
theorem bt_int : bootBuiltins "int" = some (.type "int") := by decide +kernel
theorem bt_bool : bootBuiltins "bool" = some (.type "bool") := by decide +kernel
theorem pe_ty {X : Cx} {x : Str} {n : String} {pos : Pos} (hm : X.mg x = none) (hv : bootBuiltins x = some (.type n)) (hg : Gl X x) (hn : x ≠ "__name__" := by decide) (hd : (x == ("__debug__" : Str)) = false := by decide) : PE X (.Name x pos) (tC (.ty n)) :=
  pe_bltn hg hm hv rfl hn hd

/-! ### a place of a list -/
theorem at_in {α : Type} {xs : List α} {k : Int} (h0 : 0 ≤ k) (h1 : k < (xs.length : Int)) : ∃ v, atI xs k = some v ∧ xs[k.toNat]? = some v := by
  have hk : k.toNat < xs.length := by omega
  have z : k = ((k.toNat : Nat) : Int) := by omega
  refine ⟨xs[k.toNat], ?_, List.getElem?_eq_getElem hk⟩
  have q := atI_nat (xs := xs) (j := k.toNat) (v := xs[k.toNat]) (List.getElem?_eq_getElem hk)
  rw [← z] at q
  exact q
theorem at_mem {α : Type} {xs : List α} {k : Int} (h0 : 0 ≤ k) (h1 : k < (xs.length : Int)) : ∃ v, atI xs k = some v ∧ v ∈ xs := by
  obtain ⟨v, a, b⟩ := at_in h0 h1
  exact ⟨v, a, List.mem_of_getElem? b⟩
/-- an item of a list of texts -/
theorem at_str {ns : List Str} {k : Int} (h0 : 0 ≤ k) (h1 : k < (ns.length : Int)) : ∃ x, atI (ns.map V.str) k = some (.str x) ∧ x ∈ ns := by
  obtain ⟨v, a, b⟩ := at_mem (xs := ns.map V.str) h0 (by rw [List.length_map]; exact h1)
  obtain ⟨x, hx, rfl⟩ := List.mem_map.mp b
  exact ⟨x, a, hx⟩

/-! ### heaps: all is kept but the list at p -/
def But (p : Addr) (H H' : Hp) : Prop := ∀ b o, b ≠ p → H b = some o → H' b = some o
/-- the list at p holds one number of the generator's -/
def Gen (p : Addr) (H : Hp) : Prop := ∃ n : Int, H p = some (.lst [.int n]) ∧ 0 ≤ n ∧ n < 2147483629
structure Ext (p : Addr) (H H' : Hp) : Prop where
  but : But p H H'
  gen : Gen p H'
theorem Ext.refl {p : Addr} {H : Hp} (g : Gen p H) : Ext p H H := ⟨fun _ _ _ h => h, g⟩
theorem Ext.trans {p : Addr} {H H1 H2 : Hp} (a : Ext p H H1) (b : Ext p H1 H2) : Ext p H H2 := ⟨fun c o hc h => b.but c o hc (a.but c o hc h), b.gen⟩
theorem Gen.same {p : Addr} {H H' : Hp} (g : Gen p H) (s : Same H H') : Gen p H' := let ⟨n, h, r⟩ := g; ⟨n, s _ _ h, r⟩
theorem Same.ext {p : Addr} {H H' : Hp} (g : Gen p H) (s : Same H H') : Ext p H H' := ⟨fun b o _ h => s b o h, g.same s⟩
theorem Ext.new {p q : Addr} {H : Hp} (g : Gen p H) (h : H q = none) (o : HO) : Ext p H (upd H q o) := Same.ext g (same_of_new h o)
theorem Gen.ne {p q : Addr} {H : Hp} (g : Gen p H) (h : H q = none) : q ≠ p := fun e => by
  obtain ⟨n, hp, _⟩ := g
  rw [← e, h] at hp; cases hp
theorem Ext.free {p q : Addr} {H H' : Hp} (e : Ext p H H') (h : H' q = none) : H q = none := by
  have hne := e.gen.ne h
  cases hq : H q with
  | none => rfl
  | some o => rw [e.but q o hne hq] at h; cases h
/-- a list of names is no generator's -/
theorem Gen.neS {p a : Addr} {H : Hp} {xs : List V} (g : Gen p H) (h : H a = some (.lst xs)) (hx : ∀ n : Int, xs ≠ [.int n]) : a ≠ p := by
  obtain ⟨n, hp, _⟩ := g
  exact ne_of h hp (by intro z; exact hx n (by injection z))
theorem strs_ne {ns : List Str} (n : Int) : ns.map V.str ≠ [.int n] := by
  cases ns with
  | nil => intro z; cases z
  | cons x r => intro z; simp at z
theorem Ext.lst {p a : Addr} {H H' : Hp} {ns : List Str} (g : Gen p H) (e : Ext p H H') (h : H a = some (.lst (ns.map V.str))) : H' a = some (.lst (ns.map V.str)) := e.but a _ (g.neS h strs_ne) h
theorem Ext.tup {p a : Addr} {H H' : Hp} {xs : List V} (g : Gen p H) (e : Ext p H H') (h : H a = some (.tup xs)) : H' a = some (.tup xs) := by
  obtain ⟨n, hp, _⟩ := g
  exact e.but a _ (ne_of h hp (by intro z; cases z)) h
end L2

set_option Elab.async false
set_option linter.all false
set_option maxRecDepth 100000
set_option maxHeartbeats 4000000
namespace K01
open PySem L2
seal L2.PE L2.PS L2.PSs L2.PT L2.PW L2.PA L2.PG L2.PGs L2.PI L2.PO L2.PIfs L2.PC L2.OpR L2.CallR L2.IxR L2.SlR L2.PSet L2.UnR

def top (i : Nat) : Stmt := PySem.Challenge.pw_retrace_k01_names_numbers_values.main.body.getD i (.Pass ⟨0, 0, 0, 0⟩)

/-- what the forms' table says -/
def forms (x : Str) : Option (List Str) :=
  if x = "number" then some ["number"] else if x = "box" then some ["box"] else if x = "plus" then some ["value", "value"] else if x = "minus" then some ["value", "value"] else if x = "times" then some ["value", "value"]
  else if x = "over" then some ["value", "value"] else if x = "rest" then some ["value", "value"] else if x = "less" then some ["value", "value"] else if x = "same" then some ["value", "value"] else if x = "not" then some ["value"]
  else if x = "item" then some ["list", "value"] else if x = "size" then some ["list"] else none

/-- the text's own names -/
structure Txt (w : World) (K : PySem.W.Frag) (mg : Str → Option Value) : Prop where
  z_len : mg "len" = none
  z_isinstance : mg "isinstance" = none
  z_all : mg "all" = none
  z_zip : mg "zip" = none
  z_range : mg "range" = none
  z_list : mg "list" = none
  z_tuple : mg "tuple" = none
  z_str : mg "str" = none
  z_int : mg "int" = none
  z_bool : mg "bool" = none
  most : ∃ t, mg "MOST_LETTERS" = some (.int 6 t)
  great : ∃ t, mg "GREATEST" = some (.int 999999 t)
  deep : ∃ t, mg "DEEPEST" = some (.int 4 t)
  tab : ∃ a, mg "VALUE_FORMS" = some (.ref a) ∧ TabK w K a forms

section
variable {P : Program} {w : World} {K : PySem.W.Frag} {mg : Str → Option Value} {base : Heap} (T : Txt w K mg)

/-! ### _law_next -/
theorem sc_next : FnScope ["_law_state_here", "_law_size", "_law_mixed"] ["_law_state_here", "_law_size"] (defScope (top 17)) := ⟨rfl, rfl, rfl, by decide +kernel, rfl, by decide +kernel, by decide +kernel⟩
def spNext : Sp := fun vs H Q _ => ∃ (p : Addr) (k : Int), vs = [.ref p, .int k] ∧ Gen p H ∧ 0 < k ∧ ∀ (r : Int) (H' : Hp), 0 ≤ r → r < k → Ext p H H' → Q (.int r) H'
theorem d_next (S : Src K mg "_law_next" (top 17) ["_law_state_here", "_law_size"]) : Def P w K mg base 1 "_law_next" ["_law_state_here", "_law_size"] spNext := by
  refine S.ok sc_next (fun vs H Q E h => ?_) (fun f cdv A outer s H vs Q E hr h => ?_)
  · obtain ⟨p, k, rfl, _⟩ := h; rfl
  obtain ⟨p, k, rfl, ⟨n, hp, h0, h1⟩, hk, q⟩ := h
  refine ⟨_, (pss_cons (ps_asg (pe_op op_mod (pe_op op_add (pe_op op_mul (pe_ix ix_list (pv 0) pe_int (fun _ _ => rfl)) pe_int) pe_int) pe_int) (pg_sub (pv 0) pe_int set_list)) (pss_cons (ps_set (i := 2) sc_next.nd rfl (Or.inl rfl) (pe_op op_mod (pe_op op_mul (pe_ix ix_list (pv 0) pe_int (fun _ _ => rfl)) (pe_ix ix_list (pv 0) pe_int (fun _ _ => rfl))) pe_int)) (pss_one (ps_ret (pe_op op_mod (pe_op op_fdiv (pv 2) pe_int) (pv 1)))))), ?_⟩
  have at0 : ∀ m : Int, atI [V.int m] 0 = some (.int m) := fun m => rfl
  refine ⟨_, rfl, p, _, 0, _, rfl, rfl, SqL.of hp, at0 n, n, 69621, rfl, rfl, .inr ⟨by decide, by decide⟩, _, _, rfl, rfl, _, _, rfl, rfl, (by show (0 : Int) < 2147483629; decide), ?_⟩
  refine ⟨_, rfl, p, _, 0, 0, rfl, rfl, hp, rfl, ?_⟩
  have hm := Int.emod_nonneg (n * 69621 + 11) (show (2147483629 : Int) ≠ 0 by decide)
  have hm2 := Int.emod_lt_of_pos (n * 69621 + 11) (show (0 : Int) < 2147483629 by decide)
  generalize hmm : (n * 69621 + 11) % 2147483629 = m at hm hm2
  refine ⟨_, rfl, p, _, 0, _, rfl, rfl, SqL.of upd_same, at0 _, ?_⟩
  refine ⟨_, rfl, p, _, 0, _, rfl, rfl, SqL.of upd_same, at0 _, m, m, by rw [← hmm], by rw [← hmm], .inl ⟨by omega, by omega⟩, _, _, rfl, rfl, (by show (0 : Int) < 2147483587; decide), ?_⟩
  have g : Ext p H (upd H p (.lst [.int m])) := ⟨fun b o hb h => by rw [upd_ne hb]; exact h, ⟨m, upd_same, hm, hm2⟩⟩
  refine ⟨_, rfl, _, 7, rfl, rfl, ⟨by decide, by decide⟩, _, rfl, _, _, rfl, rfl, hk, ?_⟩
  refine q _ _ (Int.emod_nonneg _ (by omega)) (Int.emod_lt_of_pos _ hk) ?_
  subst hmm
  exact g

/-! ### _law_cell_at, _law_state -/
theorem sc_cell_at : FnScope ["_law_script", "_law_k"] ["_law_script", "_law_k"] (defScope (top 15)) := ⟨rfl, rfl, rfl, by decide +kernel, rfl, by decide +kernel, by decide +kernel⟩
def spCell (K : PySem.W.Frag) : Sp := fun vs H Q _ => ∃ (a : Addr) (ns : List Int) (k : Int), vs = [.ref a, .int k] ∧ SqL K H a (ns.map V.int) ∧ 0 ≤ k ∧ ∀ i : Int, Q (.int i) H
theorem d_cell_at (T : Txt w K mg) (S : Src K mg "_law_cell_at" (top 15) ["_law_script", "_law_k"]) : Def P w K mg base 1 "_law_cell_at" ["_law_script", "_law_k"] (spCell K) := by
  refine S.ok sc_cell_at (fun vs H Q E h => ?_) (fun f cdv A outer s H vs Q E hr h => ?_)
  · obtain ⟨a, ns, k, rfl, _⟩ := h; rfl
  obtain ⟨a, ns, k, rfl, hS, hk, q⟩ := h
  refine ⟨_, (pss_cons (ps_if (pt_cmpR op_lt (pv 1) (pe_callB call_len_seq rfl T.z_len bt_len (pa_cons (pv 0) pa_nil)) (nomark _)) (pss_one (ps_ret (pe_ix ix_list (pv 0) (pv 1) (fun _ _ => rfl)))) pss_nil) (pss_one (ps_ret pe_int))), ?_⟩
  refine ⟨_, rfl, _, rfl, a, _, rfl, .inl hS, _, _, rfl, rfl, _, rfl, ?_⟩
  refine ite2 (fun c => ?_) (fun c => ?_)
  · have c' : k < (((ns.map V.int).length : Nat) : Int) := of_decide_eq_true c
    rw [List.length_map] at c'
    obtain ⟨v, e, hv⟩ := at_mem (xs := ns.map V.int) hk (by rw [List.length_map]; exact c')
    obtain ⟨i, _, rfl⟩ := List.mem_map.mp hv
    exact ⟨_, rfl, _, rfl, a, _, _, _, rfl, rfl, hS, e, q _⟩
  · exact q 0
theorem sc_state : FnScope ["_law_cell", "_law_k", "_law_drawn"] ["_law_cell", "_law_k"] (defScope (top 16)) := ⟨rfl, rfl, rfl, by decide +kernel, rfl, by decide +kernel, by decide +kernel⟩
def spState : Sp := fun vs H Q _ => ∃ (c k : Int), vs = [.int c, .int k] ∧ 0 ≤ k ∧ k < 100 ∧ ∀ (p : Addr) (n : Int), H p = none → 0 ≤ n → n < 2147483629 → Q (.ref p) (upd H p (.lst [.int n]))
theorem d_state (S : Src K mg "_law_state" (top 16) ["_law_cell", "_law_k"]) : Def P w K mg base 1 "_law_state" ["_law_cell", "_law_k"] spState := by
  refine S.ok sc_state (fun vs H Q E h => ?_) (fun f cdv A outer s H vs Q E hr h => ?_)
  · obtain ⟨c, k, rfl, _⟩ := h; rfl
  obtain ⟨c, k, rfl, h0, h1, q⟩ := h
  refine ⟨_, (pss_cons (ps_set (i := 2) sc_state.nd rfl (Or.inl rfl) (pe_op op_mod (pe_op op_mul (pe_op op_add (pe_op op_add (pv 0) (pe_op op_mul pe_int (pv 1))) pe_int) pe_int) pe_int)) (pss_one (ps_ret (pe_lst (pa_cons (pe_op op_mod (pe_op op_add (pe_op op_add (pe_op op_mul (pv 2) (pv 2)) (pe_op op_mul pe_int (pv 2))) (pv 1)) pe_int) pa_nil))))), ?_⟩
  refine ⟨_, rfl, _, rfl, 7919, k, rfl, rfl, .inl ⟨by decide, by decide⟩, _, _, rfl, rfl, _, _, rfl, rfl, _, 48271, rfl, rfl, .inr ⟨by decide, by decide⟩, _, _, rfl, rfl, (by show (0 : Int) < 2147483647; decide), ?_⟩
  have hm := Int.emod_nonneg ((c + 7919 * k + 1) * 48271) (show (2147483647 : Int) ≠ 0 by decide)
  have hm2 := Int.emod_lt_of_pos ((c + 7919 * k + 1) * 48271) (show (0 : Int) < 2147483647 by decide)
  generalize hmm : ((c + 7919 * k + 1) * 48271) % 2147483647 = m at hm hm2
  refine ⟨_, rfl, _, rfl, m, m, by rw [← hmm], by rw [← hmm], .inl ⟨by omega, by omega⟩, _, rfl, 7, m, rfl, by rw [← hmm], .inl ⟨by decide, by decide⟩, _, _, rfl, rfl, _, rfl, _, _, rfl, rfl, _, _, rfl, rfl, (by show (0 : Int) < 2147483629; decide), (by show 1 ≤ sizeLine; decide), fun p hp => ?_⟩
  exact q p _ hp (Int.emod_nonneg _ (by decide)) (Int.emod_lt_of_pos _ (by decide))
end
end K01

set_option Elab.async false
set_option linter.all false
set_option maxRecDepth 100000
set_option maxHeartbeats 4000000
/-! Texts of small letters: what the two sides ask of a name. -/
namespace L2
open PySem PySem.Spec PyProof.Rows

def small (c : Nat) : Bool := decide (97 ≤ c) && decide (c ≤ 122)
/-- all signs are small letters -/
def Lt (x : Str) : Prop := ∀ c ∈ x.cps.toList, small c = true
/-- a name: one to six small letters -/
def nmS (x : Str) : Bool := decide (1 ≤ x.length ∧ x.length ≤ 6) && x.cps.toList.all small
theorem Lt.one {c : Nat} (h : small c = true) : Lt ⟨#[c]⟩ := fun d hd => by
  have : d = c := by simpa using hd
  rw [this]; exact h
theorem cps_append (x y : Str) : (x ++ y).cps = x.cps ++ y.cps := rfl
theorem len_append (x y : Str) : (x ++ y).length = x.length + y.length := by
  show (x.cps ++ y.cps).size = x.cps.size + y.cps.size
  simp
theorem Lt.append {x y : Str} (a : Lt x) (b : Lt y) : Lt (x ++ y) := fun c hc => by
  rw [cps_append] at hc
  simp at hc
  rcases hc with h | h
  · exact a c (by simpa using h)
  · exact b c (by simpa using h)
theorem nm_of {x : Str} (h : Lt x) (h1 : 1 ≤ x.length) (h2 : x.length ≤ 6) : nmS x = true := by
  unfold nmS
  rw [decide_eq_true ⟨h1, h2⟩, Bool.true_and, List.all_eq_true]
  exact h
abbrev abc : Str := "abcdefghijklmnopqrstuvwxyz"
theorem abc_list : abc.cps.toList = [97, 98, 99, 100, 101, 102, 103, 104, 105, 106, 107, 108, 109, 110, 111, 112, 113, 114, 115, 116, 117, 118, 119, 120, 121, 122] := by decide +kernel
theorem abc_len : abc.length = 26 := by decide +kernel
theorem abc_at {k : Int} (h0 : 0 ≤ k) (h1 : k < 26) : ∃ c, atI abc.cps.toList k = some c ∧ small c = true := by
  obtain ⟨c, a, b⟩ := at_mem (xs := abc.cps.toList) h0 (by rw [abc_list]; exact h1)
  refine ⟨c, a, ?_⟩
  rw [abc_list] at b
  have : ∀ d ∈ [97, 98, 99, 100, 101, 102, 103, 104, 105, 106, 107, 108, 109, 110, 111, 112, 113, 114, 115, 116, 117, 118, 119, 120, 121, 122], small d = true := by decide
  exact this c b
/-- 'a' <= sign <= 'z' -/
theorem le_a (c : Nat) : (!decide ((⟨#[c]⟩ : Str).cps.toList < ("a" : Str).cps.toList)) = decide (97 ≤ c) := by
  have e : ("a" : Str).cps.toList = [97] := by decide +kernel
  rw [e]
  by_cases h : 97 ≤ c
  · rw [decide_eq_true h, decide_eq_false]
    · rfl
    · intro z
      have z' : [c] < [97] := z
      simp [List.cons_lt_cons_iff] at z'
      omega
  · rw [decide_eq_false h, decide_eq_true]
    · rfl
    · show [c] < [97]
      simp [List.cons_lt_cons_iff]
      omega
theorem le_z (c : Nat) : (!decide (("z" : Str).cps.toList < (⟨#[c]⟩ : Str).cps.toList)) = decide (c ≤ 122) := by
  have e : ("z" : Str).cps.toList = [122] := by decide +kernel
  rw [e]
  by_cases h : c ≤ 122
  · rw [decide_eq_true h, decide_eq_false]
    · rfl
    · intro z
      have z' : [122] < [c] := z
      simp [List.cons_lt_cons_iff] at z'
      omega
  · rw [decide_eq_false h, decide_eq_true]
    · rfl
    · show [122] < [c]
      simp [List.cons_lt_cons_iff]
      omega
/-- sign in 'abc..z' -/
theorem occ_abc (c : Nat) : (!(Builtin.Str.occurrences abc ⟨#[c]⟩ 0 abc.length 1).isEmpty) = small c := by
  rw [PySem.StrLaws.found_one, abc_list]
  unfold small
  by_cases h : 97 ≤ c ∧ c ≤ 122
  · rw [decide_eq_true h.1, decide_eq_true h.2, decide_eq_true]
    · rfl
    · have : ∀ d, d < 26 → (97 + d) ∈ [97, 98, 99, 100, 101, 102, 103, 104, 105, 106, 107, 108, 109, 110, 111, 112, 113, 114, 115, 116, 117, 118, 119, 120, 121, 122] := by decide
      have := this (c - 97) (by omega)
      rw [show 97 + (c - 97) = c by omega] at this
      exact this
  · rw [decide_eq_false]
    · by_cases h1 : 97 ≤ c
      · rw [decide_eq_true h1, decide_eq_false (by omega)]; rfl
      · rw [decide_eq_false h1]; rfl
    · intro z
      have : ∀ d ∈ [97, 98, 99, 100, 101, 102, 103, 104, 105, 106, 107, 108, 109, 110, 111, 112, 113, 114, 115, 116, 117, 118, 119, 120, 121, 122], 97 ≤ d ∧ d ≤ 122 := by decide
      exact h (this c z)
end L2

set_option Elab.async false
set_option linter.all false
set_option maxRecDepth 100000
set_option maxHeartbeats 4000000
namespace K01
open PySem L2
seal L2.PE L2.PS L2.PSs L2.PT L2.PW L2.PA L2.PG L2.PGs L2.PI L2.PO L2.PIfs L2.PC L2.OpR L2.CallR L2.IxR L2.SlR L2.PSet L2.UnR
section
variable {P : Program} {w : World} {K : PySem.W.Frag} {mg : Str → Option Value} {base : Heap}

/-! ### _law_names -/
theorem sc_names : FnScope ["_law_state_here", "_law_amount", "_law_letters", "_law_shift", "_law_found", "_law_k", "_law_name", "_law_turn", "_law_words"] ["_law_state_here", "_law_amount"] (defScope (top 18)) := ⟨rfl, rfl, rfl, by decide +kernel, rfl, by decide +kernel, by decide +kernel⟩
def spNames : Sp := fun vs H Q _ => ∃ (p : Addr) (m : Int), vs = [.ref p, .int m] ∧ Gen p H ∧ 0 ≤ m ∧ m ≤ 9 ∧ ∀ (a : Addr) (ns : List Str) (H' : Hp), Ext p H H' → H a = none → H' a = some (.lst (ns.map V.str)) → (ns.length : Int) = m → (∀ x ∈ ns, nmS x = true) → Q (.ref a) H'
def ws1 : List Str := ["box", "list", "def", "end", "else", "catch", "own", "set", "push", "while", "try"]
def ws2 : List Str := ["number", "size", "plus", "item", "not", "ask"]
theorem ws_nm : ∀ x ∈ ws1 ++ ws2, nmS x = true := by decide +kernel
/-- the five choices of how many signs more -/
theorem five {r : Int} (h0 : 0 ≤ r) (h1 : r < 6) {k : Int} (k0 : 0 ≤ k) (k1 : k < 5) : ∃ i : Int, atI [V.int 0, V.int 0, V.int 1, V.int 5, V.int r] k = some (.int i) ∧ 0 ≤ i ∧ i ≤ 5 := by
  obtain ⟨v, a, b⟩ := at_mem (xs := [V.int 0, V.int 0, V.int 1, V.int 5, V.int r]) k0 k1
  simp at b
  rcases b with rfl | rfl | rfl | rfl
  · exact ⟨_, a, by omega, by omega⟩
  · exact ⟨_, a, by omega, by omega⟩
  · exact ⟨_, a, by omega, by omega⟩
  · exact ⟨_, a, by omega, by omega⟩
/-- what stands between two statements of a turn: a name that is one, all else as at the turn's start -/
def NmAt (p a : Addr) (m sh : Int) (i : Nat) (H2 : Hp) (σ : St) (H' : Hp) : Prop :=
  ∃ (nm : Str) (x7 x8 : Option V), σ = [some (.ref p), some (.int m), some (.str abc), some (.int sh), some (.ref a), some (.int (0 + (i : Int))), some (.str nm), x7, x8] ∧ Ext p H2 H' ∧ nmS nm = true
theorem d_names (T : Txt w K mg) (D_next : Def P w K mg base 1 "_law_next" ["_law_state_here", "_law_size"] spNext) (S : Src K mg "_law_names" (top 18) ["_law_state_here", "_law_amount"]) : Def P w K mg base 2 "_law_names" ["_law_state_here", "_law_amount"] spNames := by
  refine S.ok sc_names (fun vs H Q E h => ?_) (fun f cdv A outer s H vs Q E hr h => ?_)
  · obtain ⟨p, m, rfl, _⟩ := h; rfl
  obtain ⟨p, m, rfl, g, m0, m9, q⟩ := h
  refine ⟨_, (pss_cons (ps_set (i := 2) sc_names.nd rfl (Or.inl rfl) pe_str)
      (pss_cons (ps_set (i := 3) sc_names.nd rfl (Or.inl rfl) (pe_def (D_next) hr rfl (pac (pv 0) (pac pe_int pa_nil))))
      (pss_cons (ps_set (i := 4) sc_names.nd rfl (Or.inl rfl) (pe_lst pa_nil))
      (pss_cons (ps_for PassesOwn.never rfl (pi_range1 rfl T.z_range (pac (pv 1) pa_nil)) (pg_name (i := 5) sc_names.nd rfl (Or.inl rfl))
      (pss_cons (ps_set (i := 6) sc_names.nd rfl (Or.inl rfl) (pe_ix ix_str (pv 2) (pe_op op_mod (pe_op op_add (pv 3) (pv 5)) pe_int) (fun _ _ => rfl)))
      (pss_cut (ps_for PassesOwn.never rfl (pi_range1 rfl T.z_range (pac (pe_ix ix_list (pe_lst (pac pe_int (pac pe_int (pac pe_int (pac pe_int (pac (pe_def (D_next) hr rfl (pac (pv 0) (pac pe_int pa_nil))) pa_nil)))))) (pe_def (D_next) hr rfl (pac (pv 0) (pac pe_int pa_nil))) (fun _ _ => rfl)) pa_nil)) (pg_name (i := 7) sc_names.nd rfl (Or.inl rfl))
      (pss_one (ps_set (i := 6) sc_names.nd rfl (Or.inl rfl) (pe_op op_add_str (pe_ix ix_str (pv 2) (pe_def (D_next) hr rfl (pac (pv 0) (pac pe_int pa_nil))) (fun _ _ => rfl)) (pv 6)))))
      (pss_cut (ps_if (pt_cmpR op_eq (pe_def (D_next) hr rfl (pac (pv 0) (pac pe_int pa_nil))) pe_int (nomark _))
      (pss_cons (ps_set (i := 8) sc_names.nd rfl (Or.inl rfl) (pe_lst (pa_const [.str "box", .str "list", .str "def", .str "end", .str "else", .str "catch", .str "own", .str "set", .str "push", .str "while", .str "try"] (by rfl))))
      (pss_one (ps_set (i := 6) sc_names.nd rfl (Or.inl rfl) (pe_ix ix_list (pe_op op_cat (pv 8) (pe_lst (pa_const [.str "number", .str "size", .str "plus", .str "item", .str "not", .str "ask"] (by rfl)))) (pe_def (D_next) hr rfl (pac (pv 0) (pac pe_int pa_nil))) (fun _ _ => rfl))))) pss_nil)
      (pss_cut (ps_if (pt_cmpR op_in_seq (pv 6) (pv 4) (by rfl))
      (pss_one (ps_set (i := 6) sc_names.nd rfl (Or.inl rfl) (pe_ix ix_str (pv 2) (pe_op op_mod (pe_op op_add (pv 3) (pv 5)) pe_int) (fun _ _ => rfl)))) pss_nil)
      (pss_one (ps_expr (pe_bm PySem.F.plainAttrs_list PySem.F.slot_list_append PySem.F.type_list_append mt_append (pv 4) (pac (pv 6) pa_nil)))))))))
      (pss_one (ps_ret (pv 4))))))), ?_⟩
  have zl : abc.length ≤ sizeLine := by rw [abc_len]; decide
  refine ⟨_, rfl, p, 26, rfl, g, by decide, fun sh H1 s0 s1 e1 => ?_⟩
  refine ⟨(by show 0 ≤ sizeLine; decide), fun a ha => ?_⟩
  have hane : a ≠ p := e1.gen.ne ha
  have g2 : Ext p H1 (upd H1 a (.lst [])) := Ext.new e1.gen ha _
  refine ⟨_, rfl, m, rfl, by omega, by omega, ?_⟩
  refine for_range (n := m.toNat) (fun i σ H' => ∃ (ns : List Str) (x5 x6 x7 x8 : Option V), σ = [some (.ref p), some (.int m), some (.str abc), some (.int sh), some (.ref a), x5, x6, x7, x8] ∧ Ext p H1 H' ∧ H' a = some (.lst (ns.map V.str)) ∧ ns.length = i ∧ ∀ x ∈ ns, nmS x = true) ?_ ?_ ?_
  · exact ⟨[], _, _, _, _, rfl, g2, upd_same, rfl, by simp⟩
  · rintro i σ H2 hi ⟨ns, x5, x6, x7, x8, rfl, e2, hl, hn, hnm⟩
    have hk0 := Int.emod_nonneg (sh + (0 + (i : Int))) (show (26 : Int) ≠ 0 by decide)
    have hk1 := Int.emod_lt_of_pos (sh + (0 + (i : Int))) (show (0 : Int) < 26 by decide)
    obtain ⟨c, hc, hcs⟩ := abc_at hk0 hk1
    refine ⟨_, rfl, _, rfl, _, rfl, _, _, rfl, rfl, _, _, rfl, rfl, (by show (0 : Int) < 26; decide), abc, _, c, rfl, rfl, zl, hc, ?_⟩
    refine ⟨NmAt p a m sh i H2, ?_, ?_⟩
    · refine ⟨_, rfl, p, 6, rfl, e2.gen, by decide, fun r H3 r0 r1 e3 => ?_⟩
      refine ⟨(by show 5 ≤ sizeLine; decide), fun b hb => ?_⟩
      have e4 : Ext p H3 (upd H3 b (.lst [.int 0, .int 0, .int 1, .int 5, .int r])) := Ext.new e3.gen hb _
      refine ⟨_, rfl, p, 5, rfl, e4.gen, by decide, fun r2 H5 k0 k1 e5 => ?_⟩
      obtain ⟨y, hy, y0, y5⟩ := five r0 r1 k0 k1
      have hbp : b ≠ p := e3.gen.ne hb
      refine ⟨b, _, r2, _, rfl, rfl, SqL.of (e5.but b _ hbp upd_same), hy, y, rfl, by omega, by omega, ?_⟩
      have e25 : Ext p H2 H5 := e3.trans (e4.trans e5)
      refine for_range (n := y.toNat) (fun j σ H' => ∃ (nm : Str) (x7 : Option V), σ = [some (.ref p), some (.int m), some (.str abc), some (.int sh), some (.ref a), some (.int (0 + (i : Int))), some (.str nm), x7, x8] ∧ Ext p H2 H' ∧ Lt nm ∧ nm.length = j + 1) ?_ ?_ ?_
      · exact ⟨_, _, rfl, e25, Lt.one hcs, rfl⟩
      · rintro j σ H6 hj ⟨nm, x7', rfl, e6, hlt, hlen⟩
        refine ⟨_, rfl, _, rfl, p, 26, rfl, e6.gen, by decide, fun r3 H7 t0 t1 e7 => ?_⟩
        obtain ⟨c2, hc2, hcs2⟩ := abc_at t0 t1
        have hln : (⟨#[c2]⟩ : Str).length + nm.length ≤ sizeLine := by
          have : (⟨#[c2]⟩ : Str).length = 1 := rfl
          have h3 : (100 : Nat) ≤ sizeLine := by decide
          omega
        refine ⟨abc, _, c2, rfl, rfl, zl, hc2, _, rfl, _, nm, rfl, rfl, hln, ?_⟩
        refine ⟨_, _, rfl, e6.trans e7, (Lt.one hcs2).append hlt, ?_⟩
        rw [len_append, hlen]
        show 1 + (j + 1) = j + 1 + 1
        omega
      · rintro σ H6 ⟨nm, x7', rfl, e6, hlt, hlen⟩
        exact ⟨nm, x7', x8, rfl, e6, nm_of hlt (by omega) (by omega)⟩
    · rintro σ H6 ⟨nm, x7, x8, rfl, e6, nm6⟩
      refine ⟨NmAt p a m sh i H2, ?_, ?_⟩
      · refine ⟨_, rfl, p, 6, rfl, e6.gen, by decide, fun r4 H7 u0 u1 e7 => ⟨rfl, _, rfl, ite2 (fun _ => ?_) (fun _ => ?_)⟩⟩
        · refine ⟨(by show 11 ≤ sizeLine; decide), fun b hb => ?_⟩
          have e8 : Ext p H7 (upd H7 b (.lst (ws1.map V.str))) := Ext.new e7.gen hb _
          refine ⟨_, rfl, (by show 6 ≤ sizeLine; decide), fun b2 hb2 => ?_⟩
          have e9 : Ext p _ (upd (upd H7 b (.lst (ws1.map V.str))) b2 (.lst (ws2.map V.str))) := Ext.new e8.gen hb2 _
          have hb12 : b ≠ b2 := ne_of_none (o := .lst (ws1.map V.str)) upd_same hb2
          refine ⟨b, b2, ws1.map V.str, ws2.map V.str, rfl, rfl, (by rw [upd_ne hb12]; exact upd_same), upd_same, (by show 17 ≤ sizeLine; decide), fun b3 hb3 => ?_⟩
          have e10 : Ext p _ (upd (upd (upd H7 b (.lst (ws1.map V.str))) b2 (.lst (ws2.map V.str))) b3 (.lst (ws1.map V.str ++ ws2.map V.str))) := Ext.new e9.gen hb3 _
          refine ⟨_, rfl, p, 17, rfl, e10.gen, by decide, fun r5 H8 v0 v1 e11 => ?_⟩
          obtain ⟨x, hx, hxm⟩ := at_str (ns := ws1 ++ ws2) v0 v1
          rw [List.map_append] at hx
          refine ⟨b3, _, r5, _, rfl, rfl, SqL.of (e11.but b3 _ (e9.gen.ne hb3) upd_same), hx, ?_⟩
          exact ⟨x, x7, _, rfl, e6.trans (e7.trans (e8.trans (e9.trans (e10.trans e11)))), ws_nm x hxm⟩
        · exact ⟨nm, x7, x8, rfl, e6.trans e7, nm6⟩
      · rintro σ H7 ⟨nm, x7, x8, rfl, e7, nm7⟩
        have hl7 : H7 a = some (.lst (ns.map V.str)) := e7.but a _ hane hl
        refine ⟨NmAt p a m sh i H2, ?_, ?_⟩
        · refine ⟨_, rfl, _, rfl, a, _, rfl, .inl (SqL.of hl7), rfl, ?_, ?_⟩
          · rw [List.all_eq_true]
            intro x hx
            obtain ⟨y', _, rfl⟩ := List.mem_map.mp hx
            rfl
          refine ⟨_, rfl, ite2 (fun _ => ?_) (fun _ => ?_)⟩
          · refine ⟨_, rfl, _, rfl, _, rfl, _, _, rfl, rfl, _, _, rfl, rfl, (by show (0 : Int) < 26; decide), abc, _, c, rfl, rfl, zl, hc, ?_⟩
            exact ⟨_, x7, x8, rfl, e7, nm_of (Lt.one hcs) (by show 1 ≤ 1; decide) (by show 1 ≤ 6; decide)⟩
          · exact ⟨nm, x7, x8, rfl, e7, nm7⟩
        · rintro σ H8 ⟨nm, x7, x8, rfl, e8, nm8⟩
          have hl8 : H8 a = some (.lst (ns.map V.str)) := e8.but a _ hane hl
          have z9 : (ns.map V.str).length < sizeLine := by
            rw [List.length_map]
            have h3 : (100 : Nat) < sizeLine := by decide
            omega
          refine ⟨_, rfl, .inl ⟨rfl, _, SqL.of hl8⟩, _, rfl, a, _, _, rfl, rfl, hl8, z9, ?_⟩
          refine ⟨ns ++ [nm], _, _, _, _, rfl, ⟨fun b' o hb' ho => ?_, ?_⟩, ?_, by rw [List.length_append, hn]; rfl, fun x hx => ?_⟩
          · have e12 := (e2.trans e8).but b' o hb' ho
            rw [upd_ne (ne_of_none ho ha)]; exact e12
          · obtain ⟨n', hp', r'⟩ := e8.gen
            exact ⟨n', by rw [upd_ne (Ne.symm hane)]; exact hp', r'⟩
          · rw [upd_same, List.map_append]; rfl
          · rcases List.mem_append.mp hx with h | h
            · exact hnm x h
            · rw [List.mem_singleton.mp h]; exact nm8
  · rintro σ H2 ⟨ns, x5, x6, x7, x8, rfl, e2, hl, hn, hnm⟩
    exact ⟨_, rfl, q a ns H2 (e1.trans e2) (e1.free ha) hl (by omega) hnm⟩
end
end K01

set_option Elab.async false
set_option linter.all false
set_option maxRecDepth 100000
set_option maxHeartbeats 4000000
namespace K01
open PySem L2
seal L2.PE L2.PS L2.PSs L2.PT L2.PW L2.PA L2.PG L2.PGs L2.PI L2.PO L2.PIfs L2.PC L2.OpR L2.CallR L2.IxR L2.SlR L2.PSet L2.UnR

/-! ### data -/
/-- a value as the law draws it, n deep at most: tuples, texts, numbers -/
def Pl (H : Hp) : Nat → V → Prop
  | 0, _ => False
  | n + 1, v => match v with
    | .int i => 0 ≤ i ∧ i < 1000000
    | .str x => x.length ≤ 10
    | .ref a => ∃ xs, H a = some (.tup xs) ∧ xs.length ≤ 3 ∧ ∀ x ∈ xs, Pl H n x
    | _ => False
/-- any thing that may be asked, n deep at most; its lists are not the one at p -/
def Dt (p : Addr) (H : Hp) : Nat → V → Prop
  | 0, _ => False
  | n + 1, v => match v with
    | .non => True
    | .bl _ => True
    | .int _ => True
    | .str x => x.length ≤ 100
    | .ref a => (∃ xs, H a = some (.tup xs) ∧ xs.length ≤ 10 ∧ ∀ x ∈ xs, Dt p H n x) ∨ (∃ xs, H a = some (.lst xs) ∧ a ≠ p ∧ xs.length ≤ 10 ∧ ∀ x ∈ xs, Dt p H n x) ∨ H a = some (.dK [])
    | _ => False
theorem Pl.ext {p : Addr} {H H' : Hp} (g : Gen p H) (e : Ext p H H') : ∀ {n : Nat} {v : V}, Pl H n v → Pl H' n v
  | 0, _, h => h
  | n + 1, v, h => by
    cases v with
    | ref a =>
      obtain ⟨xs, h1, h2, h3⟩ := h
      exact ⟨xs, e.tup g h1, h2, fun x hx => Pl.ext g e (h3 x hx)⟩
    | _ => exact h
theorem Pl.succ {H : Hp} : ∀ {n : Nat} {v : V}, Pl H n v → Pl H (n + 1) v
  | 0, _, h => h.elim
  | n + 1, v, h => by
    cases v with
    | ref a =>
      obtain ⟨xs, h1, h2, h3⟩ := h
      exact ⟨xs, h1, h2, fun x hx => Pl.succ (h3 x hx)⟩
    | _ => exact h
theorem Pl.up {H : Hp} {n m : Nat} {v : V} (h : Pl H n v) (l : n ≤ m) : Pl H m v := by
  induction l with
  | refl => exact h
  | step _ ih => exact ih.succ
theorem Dt.ext {p : Addr} {H H' : Hp} (g : Gen p H) (e : Ext p H H') : ∀ {n : Nat} {v : V}, Dt p H n v → Dt p H' n v
  | 0, _, h => h
  | n + 1, v, h => by
    cases v with
    | ref a =>
      rcases h with ⟨xs, h1, h2, h3⟩ | ⟨xs, h1, h0, h2, h3⟩ | h
      · exact .inl ⟨xs, e.tup g h1, h2, fun x hx => Dt.ext g e (h3 x hx)⟩
      · exact .inr (.inl ⟨xs, e.but a _ h0 h1, h0, h2, fun x hx => Dt.ext g e (h3 x hx)⟩)
      · obtain ⟨k, hp, _⟩ := id g
        exact .inr (.inr (e.but a _ (ne_of h hp (by intro z; cases z)) h))
    | _ => exact h
theorem Dt.succ {p : Addr} {H : Hp} : ∀ {n : Nat} {v : V}, Dt p H n v → Dt p H (n + 1) v
  | 0, _, h => h.elim
  | n + 1, v, h => by
    cases v with
    | ref a =>
      rcases h with ⟨xs, h1, h2, h3⟩ | ⟨xs, h1, h0, h2, h3⟩ | h
      · exact .inl ⟨xs, h1, h2, fun x hx => Dt.succ (h3 x hx)⟩
      · exact .inr (.inl ⟨xs, h1, h0, h2, fun x hx => Dt.succ (h3 x hx)⟩)
      · exact .inr (.inr h)
    | _ => exact h
theorem Dt.up {p : Addr} {H : Hp} {n m : Nat} {v : V} (h : Dt p H n v) (l : n ≤ m) : Dt p H m v := by
  induction l with
  | refl => exact h
  | step _ ih => exact ih.succ
theorem Pl.dt {p : Addr} {H : Hp} : ∀ {n : Nat} {v : V}, Pl H n v → Dt p H n v
  | 0, _, h => h
  | n + 1, v, h => by
    cases v with
    | ref a =>
      obtain ⟨xs, h1, h2, h3⟩ := h
      exact .inl ⟨xs, h1, by omega, fun x hx => Pl.dt (h3 x hx)⟩
    | int i => exact trivial
    | str x =>
      have h' : x.length ≤ 10 := h
      show x.length ≤ 100
      omega
    | non => exact h.elim
    | bl _ => exact h.elim
    | byt _ => exact h.elim
    | flt _ => exact h.elim
    | ty _ => exact h.elim
theorem Dt.move {p q : Addr} {H : Hp} (hq : H q = none) : ∀ {n : Nat} {v : V}, Dt p H n v → Dt q H n v
  | 0, _, h => h
  | n + 1, v, h => by
    cases v with
    | ref a =>
      rcases h with ⟨xs, h1, h2, h3⟩ | ⟨xs, h1, h0, h2, h3⟩ | h
      · exact .inl ⟨xs, h1, h2, fun x hx => Dt.move hq (h3 x hx)⟩
      · exact .inr (.inl ⟨xs, h1, ne_of_none h1 hq, h2, fun x hx => Dt.move hq (h3 x hx)⟩)
      · exact .inr (.inr h)
    | _ => exact h
/-- all that was tracked stays: so does every thing -/
theorem Dt.same {p : Addr} {H H' : Hp} (e : Same H H') : ∀ {n : Nat} {v : V}, Dt p H n v → Dt p H' n v
  | 0, _, h => h
  | n + 1, v, h => by
    cases v with
    | ref a =>
      rcases h with ⟨xs, h1, h2, h3⟩ | ⟨xs, h1, h0, h2, h3⟩ | h
      · exact .inl ⟨xs, e _ _ h1, h2, fun x hx => Dt.same e (h3 x hx)⟩
      · exact .inr (.inl ⟨xs, e _ _ h1, h0, h2, fun x hx => Dt.same e (h3 x hx)⟩)
      · exact .inr (.inr (e _ _ h))
    | _ => exact h

section
variable {P : Program} {w : World} {K : PySem.W.Frag} {mg : Str → Option Value} {base : Heap}
/-! ### _law_value -/
theorem sc_value : FnScope ["_law_state_here", "_law_deep", "_law_boxes", "_law_lists", "_law_kind", "_law_one", "_law_words", "_law_word"] ["_law_state_here", "_law_deep", "_law_boxes", "_law_lists"] (defScope (top 19)) := ⟨rfl, rfl, rfl, by decide +kernel, rfl, by decide +kernel, by decide +kernel⟩
def spValue (n : Nat) : Sp := fun vs H Q _ => ∃ (p : Addr) (d : Int) (b l : Addr) (bs ls : List Str), vs = [.ref p, .int d, .ref b, .ref l] ∧ Gen p H ∧ 1 ≤ d ∧ d ≤ (n : Int) ∧ H b = some (.lst (bs.map V.str)) ∧ H l = some (.lst (ls.map V.str)) ∧ (∀ x ∈ bs, x.length ≤ 10) ∧ (∀ x ∈ ls, x.length ≤ 10) ∧
  ∀ (r : V) (H' : Hp), Ext p H H' → Pl H' (n + 1) r → Q r H'
def sevens : List Str := ["plus", "minus", "less", "same", "times", "over", "rest"]
theorem five7 {r : Int} (h0 : 0 ≤ r) (h1 : r < 7) {k : Int} (k0 : 0 ≤ k) (k1 : k < 5) : ∃ i : Int, atI [V.int 0, V.int 1, V.int 2, V.int 3, V.int r] k = some (.int i) ∧ 0 ≤ i ∧ i < 7 := by
  obtain ⟨v, a, b⟩ := at_mem (xs := [V.int 0, V.int 1, V.int 2, V.int 3, V.int r]) k0 k1
  simp at b
  rcases b with rfl | rfl | rfl | rfl | rfl <;> exact ⟨_, a, by omega, by omega⟩
theorem Pl.pair {H : Hp} {n : Nat} {x y : V} {t : Addr} (ht : H t = some (.tup [x, y])) (hx : Pl H n x) (hy : Pl H n y) : Pl H (n + 1) (.ref t) :=
  ⟨_, ht, (by show 2 ≤ 3; decide), fun z hz => by
    simp at hz
    rcases hz with rfl | rfl
    · exact hx
    · exact hy⟩
theorem Pl.three {H : Hp} {n : Nat} {x y z : V} {t : Addr} (ht : H t = some (.tup [x, y, z])) (hx : Pl H n x) (hy : Pl H n y) (hz : Pl H n z) : Pl H (n + 1) (.ref t) :=
  ⟨_, ht, (by show 3 ≤ 3; decide), fun u hu => by
    simp at hu
    rcases hu with rfl | rfl | rfl
    · exact hx
    · exact hy
    · exact hz⟩
theorem Pl.text {H : Hp} {n : Nat} {x : Str} (h : x.length ≤ 10) : Pl H (n + 1) (.str x) := h
theorem lt_of_pos {k : Nat} (h : 0 < k) : (0 : Int) < (k : Int) := by omega

theorem d_value1 {n : Nat} (T : Txt w K mg) (D_next : Def P w K mg base 1 "_law_next" ["_law_state_here", "_law_size"] spNext) (S : Src K mg "_law_value" (top 19) ["_law_state_here", "_law_deep", "_law_boxes", "_law_lists"])
    (IH : Def P w K mg base (n + 1) "_law_value" ["_law_state_here", "_law_deep", "_law_boxes", "_law_lists"] (spValue n)) : Def P w K mg base (n + 2) "_law_value" ["_law_state_here", "_law_deep", "_law_boxes", "_law_lists"] (spValue (n + 1)) := by
  refine S.ok sc_value (fun vs H Q E h => ?_) (fun f cdv A outer s H vs Q E hr h => ?_)
  · obtain ⟨p, d, b, l, bs, ls, rfl, _⟩ := h; rfl
  obtain ⟨p, d, b, l, bs, ls, rfl, g, d1, dn, hb, hl, hbs, hls, q⟩ := h
  refine ⟨_, (pss_cons (ps_set (i := 4) sc_value.nd rfl (Or.inl rfl) (pe_def (D_next.mono (Nat.le_add_left 1 n)) hr rfl (pac (pv 0) (pac pe_int pa_nil))))
      (pss_cons (ps_if (pt_cut (PW.pt (pw_or (pt_cmpR op_lt (pv 1) pe_int (nomark _)) (pw_or1 (pt_cmpR op_lt (pv 4) pe_int (nomark _))))))
      (pss_cut (ps_if (pt_cut (PW.pt (pw_and (pt_cmpR op_gt (pe_cB call_len_seq rfl T.z_len bt_len (pac (pv 2) pa_nil)) pe_int (nomark _)) (pw_and1 (pt_cmpR op_gt (pe_def (D_next.mono (Nat.le_add_left 1 n)) hr rfl (pac (pv 0) (pac pe_int pa_nil))) pe_int (nomark _))))))
      (pss_one (ps_ret (pe_tup (pac pe_str (pac (pe_ix ix_list (pv 2) (pe_def (D_next.mono (Nat.le_add_left 1 n)) hr rfl (pac (pv 0) (pac (pe_cB call_len_seq rfl T.z_len bt_len (pac (pv 2) pa_nil)) pa_nil))) (fun _ _ => rfl)) pa_nil))))) pss_nil)
      (pss_cut (ps_if (pt_cut (PW.pt (pw_and (pt_cmpR op_gt (pe_cB call_len_seq rfl T.z_len bt_len (pac (pv 3) pa_nil)) pe_int (nomark _)) (pw_and1 (pt_cmpR op_eq (pe_def (D_next.mono (Nat.le_add_left 1 n)) hr rfl (pac (pv 0) (pac pe_int pa_nil))) pe_int (nomark _))))))
      (pss_one (ps_ret (pe_tup (pac pe_str (pac (pe_ix ix_list (pv 3) (pe_def (D_next.mono (Nat.le_add_left 1 n)) hr rfl (pac (pv 0) (pac (pe_cB call_len_seq rfl T.z_len bt_len (pac (pv 3) pa_nil)) pa_nil))) (fun _ _ => rfl)) pa_nil))))) pss_nil)
      (pss_one (ps_ret (pe_tup (pac pe_str (pac (pe_ix ix_list (pe_lst (pac (pe_def (D_next.mono (Nat.le_add_left 1 n)) hr rfl (pac (pv 0) (pac pe_int pa_nil))) (pac (pe_def (D_next.mono (Nat.le_add_left 1 n)) hr rfl (pac (pv 0) (pac pe_int pa_nil))) pa_nil))) (pe_op op_fdiv (pe_def (D_next.mono (Nat.le_add_left 1 n)) hr rfl (pac (pv 0) (pac pe_int pa_nil))) pe_int) (fun _ _ => rfl)) pa_nil))))))) pss_nil)
      (pss_cons (ps_set (i := 5) sc_value.nd rfl (Or.inl rfl) (pe_def (IH) hr rfl (pac (pv 0) (pac (pe_op op_sub (pv 1) pe_int) (pac (pv 2) (pac (pv 3) pa_nil))))))
      (pss_cons (ps_if (pt_cmpR op_eq (pv 4) pe_int (nomark _))
      (pss_one (ps_ret (pe_tup (pac pe_str (pac (pv 5) pa_nil))))) pss_nil)
      (pss_cons (ps_if (pt_cut (PW.pt (pw_and (pt_cmpR op_eq (pv 4) pe_int (nomark _)) (pw_and1 (pt_cmpR op_gt (pe_cB call_len_seq rfl T.z_len bt_len (pac (pv 3) pa_nil)) pe_int (nomark _))))))
      (pss_one (ps_ret (pe_tup (pac pe_str (pac (pe_ix ix_list (pv 3) (pe_def (D_next.mono (Nat.le_add_left 1 n)) hr rfl (pac (pv 0) (pac (pe_cB call_len_seq rfl T.z_len bt_len (pac (pv 3) pa_nil)) pa_nil))) (fun _ _ => rfl)) (pac (pv 5) pa_nil)))))) pss_nil)
      (pss_cons (ps_set (i := 6) sc_value.nd rfl (Or.inl rfl) (pe_lst (pa_const [.str "plus", .str "minus", .str "less", .str "same", .str "times", .str "over", .str "rest"] (by rfl))))
      (pss_cons (ps_set (i := 7) sc_value.nd rfl (Or.inl rfl) (pe_ix ix_list (pv 6) (pe_ix ix_list (pe_lst (pac pe_int (pac pe_int (pac pe_int (pac pe_int (pac (pe_def (D_next.mono (Nat.le_add_left 1 n)) hr rfl (pac (pv 0) (pac pe_int pa_nil))) pa_nil)))))) (pe_def (D_next.mono (Nat.le_add_left 1 n)) hr rfl (pac (pv 0) (pac pe_int pa_nil))) (fun _ _ => rfl)) (fun _ _ => rfl)))
      (pss_one (ps_ret (pe_tup (pac (pv 7) (pac (pv 5) (pac (pe_def (IH) hr rfl (pac (pv 0) (pac (pe_op op_sub (pv 1) pe_int) (pac (pv 2) (pac (pv 3) pa_nil))))) pa_nil))))))))))))), ?_⟩
  refine ⟨_, rfl, p, 10, rfl, g, by decide, fun kd H1 s0 s1 e1 => ?_⟩
  have hb1 := e1.lst g hb
  have hl1 := e1.lst g hl
  have g1 := e1.gen
  refine ⟨fun t H' => H1 = H' ∧ (t = false → 2 ≤ d), ?_, ?_⟩
  · refine ⟨_, rfl, _, _, rfl, rfl, _, rfl, ite2 (fun _ => ⟨rfl, fun z => by cases z⟩) (fun c => ?_)⟩
    have c' : ¬ d < 2 := fun z => c (decide_eq_true z)
    exact ⟨_, rfl, _, _, rfl, rfl, _, rfl, rfl, fun _ => by omega⟩
  rintro t H' ⟨rfl, h2⟩
  refine ite2 (fun _ => ?_) (fun ct => ?_)
  · -- a box, a size, a number
    refine ⟨fun σ' H' => σ' = [some (.ref p), some (.int d), some (.ref b), some (.ref l), some (.int kd), none, none, none] ∧ Ext p H1 H', ?_, ?_⟩
    · refine ⟨fun t H' => Ext p H1 H' ∧ (t = true → 0 < bs.length), ?_, ?_⟩
      · refine ⟨_, rfl, b, _, rfl, .inl (SqL.of hb1), _, _, rfl, rfl, _, rfl, ite2 (fun c => ?_) (fun _ => ⟨Ext.refl g1, fun z => by cases z⟩)⟩
        have c' : (0 : Int) < (((bs.map V.str).length : Nat) : Int) := of_decide_eq_true c
        rw [List.length_map] at c'
        exact ⟨_, rfl, p, 3, rfl, g1, by decide, fun r H2 r0 r1 e2 => ⟨_, _, rfl, rfl, _, rfl, e2, fun _ => by omega⟩⟩
      rintro t H2 ⟨e2, hpos⟩
      refine ite2 (fun c => ?_) (fun _ => ⟨rfl, e2⟩)
      have hb2 := e2.lst g1 hb1
      have pos := hpos c
      refine ⟨_, rfl, _, rfl, _, rfl, b, _, rfl, .inl (SqL.of hb2), p, _, rfl, e2.gen, (by rw [List.length_map]; omega), fun r H3 r0 r1 e3 => ?_⟩
      rw [List.length_map] at r1
      obtain ⟨x, hx, hxm⟩ := at_str r0 r1
      refine ⟨b, _, r, _, rfl, rfl, SqL.of (e3.lst e2.gen hb2), hx, (by show 2 ≤ sizeLine; decide), fun t ht => ?_⟩
      refine q _ _ (e1.trans (e2.trans (e3.trans (Ext.new e3.gen ht _)))) ?_
      exact Pl.pair upd_same (Pl.text (by decide +kernel)) (Pl.text (hbs x hxm))
    rintro σ H2 ⟨rfl, e2⟩
    have g2 := e2.gen
    have hl2 := e2.lst g1 hl1
    refine ⟨fun σ' H' => σ' = [some (.ref p), some (.int d), some (.ref b), some (.ref l), some (.int kd), none, none, none] ∧ Ext p H2 H', ?_, ?_⟩
    · refine ⟨fun t H' => Ext p H2 H' ∧ (t = true → 0 < ls.length), ?_, ?_⟩
      · refine ⟨_, rfl, l, _, rfl, .inl (SqL.of hl2), _, _, rfl, rfl, _, rfl, ite2 (fun c => ?_) (fun _ => ⟨Ext.refl g2, fun z => by cases z⟩)⟩
        have c' : (0 : Int) < (((ls.map V.str).length : Nat) : Int) := of_decide_eq_true c
        rw [List.length_map] at c'
        exact ⟨_, rfl, p, 6, rfl, g2, by decide, fun r H3 r0 r1 e3 => ⟨rfl, _, rfl, e3, fun _ => by omega⟩⟩
      rintro t H3 ⟨e3, hpos⟩
      refine ite2 (fun c => ?_) (fun _ => ⟨rfl, e3⟩)
      have hl3 := e3.lst g2 hl2
      have pos := hpos c
      refine ⟨_, rfl, _, rfl, _, rfl, l, _, rfl, .inl (SqL.of hl3), p, _, rfl, e3.gen, (by rw [List.length_map]; omega), fun r H4 r0 r1 e4 => ?_⟩
      rw [List.length_map] at r1
      obtain ⟨x, hx, hxm⟩ := at_str r0 r1
      refine ⟨l, _, r, _, rfl, rfl, SqL.of (e4.lst e3.gen hl3), hx, (by show 2 ≤ sizeLine; decide), fun t ht => ?_⟩
      refine q _ _ (e1.trans (e2.trans (e3.trans (e4.trans (Ext.new e4.gen ht _))))) ?_
      exact Pl.pair upd_same (Pl.text (by decide +kernel)) (Pl.text (hls x hxm))
    rintro σ H3 ⟨rfl, e3⟩
    refine ⟨_, rfl, p, 4, rfl, e3.gen, by decide, fun r H4 r0 r1 e4 => ?_⟩
    refine ⟨_, rfl, p, 1000000, rfl, e4.gen, by decide, fun r' H5 r0' r1' e5 => ?_⟩
    refine ⟨(by show 2 ≤ sizeLine; decide), fun u hu => ?_⟩
    have e6 : Ext p H5 (upd H5 u (.lst [.int r, .int r'])) := Ext.new e5.gen hu _
    refine ⟨_, rfl, p, 6, rfl, e6.gen, by decide, fun k H6 k0 k1 e7 => ?_⟩
    refine ⟨k, 5, rfl, rfl, ⟨by decide, by decide⟩, ?_⟩
    obtain ⟨v, hv, hvm⟩ := at_mem (xs := [V.int r, V.int r']) (k := k / 5) (by omega) (by show k / 5 < 2; omega)
    refine ⟨u, _, k / 5, v, rfl, rfl, SqL.of (e7.but u _ (e5.gen.ne hu) upd_same), hv, (by show 2 ≤ sizeLine; decide), fun t ht => ?_⟩
    refine q _ _ (e1.trans (e2.trans (e3.trans (e4.trans (e5.trans (e6.trans (e7.trans (Ext.new e7.gen ht _)))))))) ?_
    refine Pl.pair upd_same (Pl.text (by decide +kernel)) ?_
    simp at hvm
    rcases hvm with rfl | rfl
    · exact ⟨r0, by omega⟩
    · exact ⟨r0', r1'⟩
  -- deeper
  have d2 : 2 ≤ d := h2 (by cases t with | false => rfl | true => exact absurd rfl ct)
  refine ⟨_, rfl, _, rfl, d, 1, rfl, rfl, _, rfl, _, rfl, p, d - 1, b, l, bs, ls, rfl, g1, by omega, by omega, hb1, hl1, hbs, hls, fun one H2 e2 p2 => ?_⟩
  have g2 := e2.gen
  have hb2 := e2.lst g1 hb1
  have hl2 := e2.lst g1 hl1
  refine ⟨_, rfl, rfl, _, rfl, ite2 (fun _ => ?_) (fun _ => ?_)⟩
  · refine ⟨_, rfl, (by show 2 ≤ sizeLine; decide), fun t ht => ?_⟩
    have e3 := Ext.new g2 ht (.tup [.str "not", one])
    exact q _ _ (e1.trans (e2.trans e3)) (Pl.pair upd_same (Pl.text (by decide +kernel)) (p2.ext g2 e3))
  refine ⟨fun t H' => H2 = H' ∧ (t = true → 0 < ls.length), ?_, ?_⟩
  · refine ⟨_, rfl, rfl, _, rfl, ite2 (fun _ => ?_) (fun _ => ⟨rfl, fun z => by cases z⟩)⟩
    refine ⟨_, rfl, l, _, rfl, .inl (SqL.of hl2), _, _, rfl, rfl, _, rfl, rfl, fun c => ?_⟩
    have c' : (0 : Int) < (((ls.map V.str).length : Nat) : Int) := of_decide_eq_true c
    rw [List.length_map] at c'
    omega
  rintro t' H' ⟨rfl, hpos⟩
  refine ite2 (fun c => ?_) (fun _ => ?_)
  · have pos := hpos c
    refine ⟨_, rfl, _, rfl, _, rfl, l, _, rfl, .inl (SqL.of hl2), p, _, rfl, g2, (by rw [List.length_map]; omega), fun r H3 r0 r1 e3 => ?_⟩
    rw [List.length_map] at r1
    obtain ⟨x, hx, hxm⟩ := at_str r0 r1
    refine ⟨l, _, r, _, rfl, rfl, SqL.of (e3.lst g2 hl2), hx, _, rfl, (by show 3 ≤ sizeLine; decide), fun t ht => ?_⟩
    have e4 := Ext.new e3.gen ht (.tup [.str "item", .str x, one])
    exact q _ _ (e1.trans (e2.trans (e3.trans e4))) (Pl.three upd_same (Pl.text (by decide +kernel)) (Pl.text (hls x hxm)) ((p2.ext g2 e3).ext e3.gen e4))
  refine ⟨(by show 7 ≤ sizeLine; decide), fun u hu => ?_⟩
  have e3 : Ext p H2 (upd H2 u (.lst (sevens.map V.str))) := Ext.new g2 hu _
  have up := g2.ne hu
  refine ⟨_, rfl, _, rfl, p, 7, rfl, e3.gen, by decide, fun r H4 r0 r1 e4 => ?_⟩
  refine ⟨(by show 5 ≤ sizeLine; decide), fun u2 hu2 => ?_⟩
  have e5 : Ext p H4 (upd H4 u2 (.lst [.int 0, .int 1, .int 2, .int 3, .int r])) := Ext.new e4.gen hu2 _
  refine ⟨_, rfl, p, 5, rfl, e5.gen, by decide, fun k H6 k0 k1 e6 => ?_⟩
  obtain ⟨i, hi, i0, i1⟩ := five7 r0 r1 k0 k1
  refine ⟨u2, _, k, _, rfl, rfl, SqL.of (e6.but u2 _ (e4.gen.ne hu2) upd_same), hi, ?_⟩
  obtain ⟨x, hx, hxm⟩ := at_str (ns := sevens) i0 i1
  have hu6 : H6 u = some (.lst (sevens.map V.str)) := e6.lst e5.gen (e5.lst e4.gen (e4.lst e3.gen upd_same))
  refine ⟨u, _, i, _, rfl, rfl, SqL.of hu6, hx, ?_⟩
  have hx10 : x.length ≤ 10 := (show ∀ x ∈ sevens, x.length ≤ 10 by decide +kernel) x hxm
  have e26 : Ext p H2 H6 := e3.trans (e4.trans (e5.trans e6))
  refine ⟨_, rfl, _, rfl, _, rfl, _, rfl, d, 1, rfl, rfl, _, rfl, _, rfl, p, d - 1, b, l, bs, ls, rfl, e6.gen, by omega, by omega, e26.lst g2 hb2, e26.lst g2 hl2, hbs, hls, fun two H7 e7 p7 => ?_⟩
  refine ⟨(by show 3 ≤ sizeLine; decide), fun t ht => ?_⟩
  have e8 := Ext.new e7.gen ht (.tup [.str x, one, two])
  exact q _ _ (e1.trans (e2.trans (e26.trans (e7.trans e8)))) (Pl.three upd_same (Pl.text hx10) (((p2.ext g2 e26).ext e6.gen e7).ext e7.gen e8) (p7.ext e7.gen e8))
theorem d_value (T : Txt w K mg) (D_next : Def P w K mg base 1 "_law_next" ["_law_state_here", "_law_size"] spNext) (S : Src K mg "_law_value" (top 19) ["_law_state_here", "_law_deep", "_law_boxes", "_law_lists"]) :
    ∀ n : Nat, Def P w K mg base (n + 1) "_law_value" ["_law_state_here", "_law_deep", "_law_boxes", "_law_lists"] (spValue n)
  | 0 => S.no fun vs H Q E h => by
    obtain ⟨p, d, b, l, bs, ls, _, _, h1, h2, _⟩ := h
    omega
  | n + 1 => d_value1 T D_next S (d_value T D_next S n)
end
end K01

set_option Elab.async false
set_option linter.all false
set_option maxRecDepth 100000
set_option maxHeartbeats 4000000
namespace K01
open PySem L2
seal L2.PE L2.PS L2.PSs L2.PT L2.PW L2.PA L2.PG L2.PGs L2.PI L2.PO L2.PIfs L2.PC L2.OpR L2.CallR L2.IxR L2.SlR L2.PSet L2.UnR

/-- the things of a display, one by one: each is a thing; what held ahead holds behind -/
inductive GoodA (p : Addr) (k : Nat) (σ : St) (P0 : Hp → Prop) : Nat → TA → Prop where
  | nil : GoodA p k σ P0 0 tNil
  | cons {t : TE} {tr : TA} {n : Nat} (h : ∀ H1, Gen p H1 → P0 H1 → t σ H1 fun v H' => Ext p H1 H' ∧ Dt p H' k v) (r : GoodA p k σ P0 n tr) : GoodA p k σ P0 (n + 1) (tCons (tCutE t) tr)
theorem GoodA.use {p : Addr} {k : Nat} {σ : St} {P0 : Hp → Prop} {n : Nat} {tA : TA} (G : GoodA p k σ P0 n tA) (mono : ∀ H H', Gen p H → Ext p H H' → P0 H → P0 H') : ∀ {H : Hp} {Q : List V → Hp → Prop}, Gen p H → P0 H →
    (∀ vs H', Ext p H H' → vs.length = n → (∀ v ∈ vs, Dt p H' k v) → Q vs H') → tA σ H Q := by
  induction G with
  | nil => intro H Q g _ q; exact q [] H (Ext.refl g) rfl (by simp)
  | @cons t tr n h r ih =>
    intro H Q g p0 q
    refine ⟨_, h H g p0, fun v H1 ⟨e1, d1⟩ => ?_⟩
    refine ih e1.gen (mono H H1 g e1 p0) fun vs H2 e2 hl hv => ?_
    refine q (v :: vs) H2 (e1.trans e2) (by rw [List.length_cons, hl]) fun x hx => ?_
    rcases List.mem_cons.mp hx with rfl | hx
    · exact d1.ext e1.gen e2
    · exact hv x hx
theorem lst_open {tA : TA} {σ : St} {H : Hp} {Q : VK} (h : tA σ H fun xs H1 => xs.length ≤ sizeLine ∧ ∀ p, H1 p = none → Q (.ref p) (upd H1 p (.lst xs))) : tLst tA σ H Q := h
theorem asg_lst {tA : TA} {g : TG} {u : TS} {D : Ends} {σ : St} {H : Hp} (h : tA σ H fun xs H1 => xs.length ≤ sizeLine ∧ ∀ p, H1 p = none → g (.ref p) σ (upd H1 p (.lst xs)) (u D)) : tSeq (tAsg (tLst tA) g) u D σ H := h
theorem ret_lst {tA : TA} {r : R2} {ti : TE} {D : Ends} {σ : St} {H : Hp} (h : tA σ H fun xs H1 => xs.length ≤ sizeLine ∧ ∀ p, H1 p = none → ti σ (upd H1 p (.lst xs)) fun y H2 => r (.ref p) y H2 D.rt) : tRet (tOp r (tLst tA) ti) D σ H := h
theorem Pl.kind {H : Hp} {n : Nat} {v : V} (h : Pl H n v) : (∃ i : Int, v = .int i ∧ tyN H v = some "int" ∧ 0 ≤ i ∧ i < 1000000) ∨ (∃ x : Str, v = .str x ∧ tyN H v = some "str" ∧ x.length ≤ 10) ∨
    (∃ (m : Nat) (a : Addr) (xs : List V), n = m + 1 ∧ v = .ref a ∧ tyN H v = some "tuple" ∧ H a = some (.tup xs) ∧ xs.length ≤ 3 ∧ ∀ x ∈ xs, Pl H m x) := by
  cases n with
  | zero => exact h.elim
  | succ n =>
    cases v with
    | int i => exact .inl ⟨i, rfl, rfl, h.1, h.2⟩
    | str x => exact .inr (.inl ⟨x, rfl, rfl, h⟩)
    | ref a =>
      obtain ⟨xs, h1, h2, h3⟩ := h
      exact .inr (.inr ⟨n, a, xs, rfl, rfl, by unfold tyN; dsimp only; rw [h1], h1, h2, h3⟩)
    | non => exact h.elim
    | bl _ => exact h.elim
    | byt _ => exact h.elim
    | flt _ => exact h.elim
    | ty _ => exact h.elim
theorem Pl.pos {H : Hp} {n : Nat} {v : V} (h : Pl H n v) : 1 ≤ n := by
  cases n with
  | zero => exact h.elim
  | succ n => omega
theorem Dt.tup {p : Addr} {H : Hp} {n : Nat} {a : Addr} {xs : List V} (h : H a = some (.tup xs)) (l : xs.length ≤ 10) (hx : ∀ x ∈ xs, Dt p H n x) : Dt p H (n + 1) (.ref a) := .inl ⟨xs, h, l, hx⟩
theorem Dt.lst {p : Addr} {H : Hp} {n : Nat} {a : Addr} {xs : List V} (h : H a = some (.lst xs)) (hp : a ≠ p) (l : xs.length ≤ 10) (hx : ∀ x ∈ xs, Dt p H n x) : Dt p H (n + 1) (.ref a) := .inr (.inl ⟨xs, h, hp, l, hx⟩)
theorem mem_cut {xs : List V} {lo hi : Option Int} {x : V} (h : x ∈ cutV xs lo hi) : x ∈ xs := List.mem_of_mem_drop (List.mem_of_mem_take h)

theorem num_len {i : Int} (h0 : 0 ≤ i) (h1 : i < 1000000) : (Str.ofString (toString i)).length ≤ 100 := by
  have e := int_text_length_le10 (a := i) (k := 6) (by decide) (by omega)
  rw [ofString_length]
  omega

section
variable {P : Program} {w : World} {K : PySem.W.Frag} {mg : Str → Option Value} {base : Heap}
/-! ### _law_odd -/
theorem sc_odd : FnScope ["_law_thing_here", "_law_state_here", "_law_kind", "_law_some", "_law_words", "_law_texts"] ["_law_thing_here", "_law_state_here"] (defScope (top 24)) := ⟨rfl, rfl, rfl, by decide +kernel, rfl, by decide +kernel, by decide +kernel⟩
def spOdd : Sp := fun vs H Q _ => ∃ (v : V) (p : Addr) (n : Nat), vs = [v, .ref p] ∧ Gen p H ∧ Pl H n v ∧ ∀ (r : V) (H' : Hp), Ext p H H' → Dt p H' (n + 2) r → Q r H'
def twelve : List Str := ["number", "box", "size", "not", "item", "plus", "set", "push", "if", "while", "return", "def"]
theorem d_odd (T : Txt w K mg) (D_next : Def P w K mg base 1 "_law_next" ["_law_state_here", "_law_size"] spNext) (S : Src K mg "_law_odd" (top 24) ["_law_thing_here", "_law_state_here"]) : Def P w K mg base 2 "_law_odd" ["_law_thing_here", "_law_state_here"] spOdd := by
  refine S.ok sc_odd (fun vs H Q E h => ?_) (fun f cdv A outer s H vs Q E hr h => ?_)
  · obtain ⟨v, p, n, rfl, _⟩ := h; rfl
  obtain ⟨v, p, n, rfl, g, hv, q⟩ := h
  refine ⟨_, (pss_cons (ps_set (i := 2) sc_odd.nd rfl (Or.inl rfl) (pe_def (D_next) hr rfl (pac (pv 1) (pac pe_int pa_nil))))
      (pss_cons (ps_if (pt_cut (PW.pt (pw_and (pt_cmpR op_lt (pv 2) pe_int (nomark _)) (pw_and1 (pt_val (pe_cB call_isi rfl T.z_isinstance bt_isinstance (pac (pv 0) (pac (pe_ty T.z_tuple bt_tuple rfl) pa_nil))))))))
      (pss_cons (ps_set (i := 3) sc_odd.nd rfl (Or.inl rfl) (pe_lst (pac (pe_cut (pe_cT call_list_of rfl T.z_list bt_list (pac (pv 0) pa_nil))) (pac (pe_cut (pe_slice (sl_tupW.or sl_str) (pv 0) po_none (po_some (pe_un un_neg pe_int)))) (pac (pe_cut (pe_op op_catTw (pv 0) (pe_slice sl_tupW (pv 0) (po_some (pe_un un_neg pe_int)) po_none))) (pac (pe_cut (pe_rev (pv 0) (pe_un un_neg pe_int))) (pac (pe_cut (pe_tup pa_nil)) (pac (pe_cut (pe_slice (sl_tupW.or sl_str) (pv 0) (po_some pe_int) po_none)) (pac (pe_cut (pe_op op_catTw (pv 0) (pe_tup (pa_const [.int 0] (by rfl))))) (pac (pe_cut (pe_tup (pac (pv 0) pa_nil))) pa_nil))))))))))
      (pss_cons (ps_set (i := 4) sc_odd.nd rfl (Or.inl rfl) (pe_lst (pa_const [.str "number", .str "box", .str "size", .str "not", .str "item", .str "plus", .str "set", .str "push", .str "if", .str "while", .str "return", .str "def"] (by rfl))))
      (pss_one (ps_ret (pe_ix ix_list (pe_op op_cat (pv 3) (pe_op op_rep (pe_lst (pac (pe_op op_catTw (pe_tup (pac (pe_ix ix_list (pv 4) (pe_def (D_next) hr rfl (pac (pv 1) (pac pe_int pa_nil))) (fun _ _ => rfl)) pa_nil)) (pe_slice (sl_tupW.or sl_str) (pv 0) (po_some pe_int) po_none)) pa_nil)) pe_int)) (pe_def (D_next) hr rfl (pac (pv 1) (pac pe_int pa_nil))) (fun _ _ => rfl)))))) pss_nil)
      (pss_cons (ps_if (pt_cut (PW.pt (pw_and (pt_cmpR op_lt (pv 2) pe_int (nomark _)) (pw_and1 (pt_val (pe_cB call_isi rfl T.z_isinstance bt_isinstance (pac (pv 0) (pac (pe_ty T.z_int bt_int rfl) pa_nil))))))))
      (pss_one (ps_ret (pe_ix ix_list (pe_lst (pac (pe_cut (pe_cmpR op_eq (pv 0) pe_int (nomark _))) (pac (pe_cut (pe_op op_sub (pe_un un_neg pe_int) (pv 0))) (pac (pe_cut (pe_op op_add (pv 0) pe_int)) (pac (pe_cut (pe_op op_add (pv 0) pe_int)) (pac (pe_cut (pe_cT call_str_int rfl T.z_str bt_str (pac (pv 0) pa_nil))) (pac (pe_cut pe_int) pa_nil))))))) (pe_def (D_next) hr rfl (pac (pv 1) (pac pe_int pa_nil))) (fun _ _ => rfl)))) pss_nil)
      (pss_cons (ps_if (pt_cut (PW.pt (pw_and (pt_cmpR op_lt (pv 2) pe_int (nomark _)) (pw_and1 (pt_val (pe_cB call_isi rfl T.z_isinstance bt_isinstance (pac (pv 0) (pac (pe_ty T.z_str bt_str rfl) pa_nil))))))))
      (pss_cons (ps_set (i := 5) sc_odd.nd rfl (Or.inl rfl) (pe_lst (pac (pe_cut (pe_op op_add_str (pv 0) pe_str)) (pac (pe_cut (pe_slice (sl_tupW.or sl_str) (pv 0) (po_some pe_int) po_none)) (pac (pe_cut (pe_op op_add_str (pv 0) pe_str)) (pac (pe_cut (pe_bm0 PySem.F.plainAttrs_str PySem.F.slot_str_upper PySem.F.type_str_upper mt_upper (pv 0))) (pac (pe_cut (pe_op op_add_str (pv 0) pe_str)) (pac (pe_cut (pe_op op_add_str (pe_slice (sl_tupW.or sl_str) (pv 0) po_none (po_some (pe_un un_neg pe_int))) pe_str)) pa_nil))))))))
      (pss_one (ps_ret (pe_ix ix_list (pe_op op_cat (pv 5) (pe_lst (pa_const [.str "zz", .str "pop", .str "over", .str "fail"] (by rfl)))) (pe_def (D_next) hr rfl (pac (pv 1) (pac pe_int pa_nil))) (fun _ _ => rfl))))) pss_nil)
      (pss_cons (ps_set (i := 3) sc_odd.nd rfl (Or.inl rfl) (pe_lst (pac (pe_cut pe_bl) (pac (pe_cut pe_non) (pac (pe_cut (pe_un un_neg pe_int)) (pac (pe_cut pe_int) (pac (pe_cut pe_int) (pac (pe_cut pe_int) (pac (pe_cut (pe_op op_pow pe_int pe_int)) (pac (pe_cut pe_str) (pac (pe_cut pe_str) (pac (pe_cut pe_str) (pac (pe_cut pe_str) (pac (pe_cut pe_str) (pac (pe_cut (pe_tup pa_nil)) (pac (pe_cut (pe_lst pa_nil)) (pac (pe_cut (pe_tup (pa_const [.str "number", .int 3] (by rfl)))) (pac (pe_cut pe_dnew0) pa_nil))))))))))))))))))
      (pss_cons (ps_set (i := 3) sc_odd.nd rfl (Or.inl rfl) (pe_op op_cat (pv 3) (pe_lst (pac (pe_cut (pe_tup (pa_const [.str "number", .bl true] (by rfl)))) (pac (pe_cut (pe_tup (pa_const [.str "box", .str "zz"] (by rfl)))) (pac (pe_cut (pe_tup (pac pe_str (pac (pe_tup (pa_const [.str "number", .int 1] (by rfl))) pa_nil)))) (pac (pe_cut (pe_tup (pac pe_str (pac (pe_tup (pa_const [.str "number", .int 1] (by rfl))) pa_nil)))) (pac (pe_cut (pe_tup (pa_const [.str "end"] (by rfl)))) pa_nil))))))))
      (pss_one (ps_ret (pe_ix ix_list (pv 3) (pe_def (D_next) hr rfl (pac (pv 1) (pac pe_int pa_nil))) (fun _ _ => rfl)))))))))), ?_⟩
  refine ⟨_, rfl, p, 6, rfl, g, by decide, fun kd H1 s0 s1 e1 => ?_⟩
  have g1 := e1.gen
  have hv1 : Pl H1 n v := hv.ext g e1
  have n1 := hv1.pos
  -- a tuple
  refine ⟨fun t H' => H1 = H' ∧ (t = true → ∃ (m : Nat) (a : Addr) (xs : List V), n = m + 1 ∧ v = .ref a ∧ H1 a = some (.tup xs) ∧ xs.length ≤ 3 ∧ ∀ x ∈ xs, Pl H1 m x), ?_, ?_⟩
  · refine ⟨_, rfl, _, _, rfl, rfl, _, rfl, ite2 (fun _ => ?_) (fun _ => ⟨rfl, fun z => by cases z⟩)⟩
    rcases hv1.kind with ⟨i, _, ty, _⟩ | ⟨x, _, ty, _⟩ | ⟨m, a, xs, r1, r2, ty, r3⟩
    · exact ⟨_, rfl, v, "tuple", _, rfl, ty, by simp, _, rfl, rfl, fun z => absurd z (by decide)⟩
    · exact ⟨_, rfl, v, "tuple", _, rfl, ty, by simp, _, rfl, rfl, fun z => absurd z (by decide)⟩
    · exact ⟨_, rfl, v, "tuple", _, rfl, ty, by simp, _, rfl, rfl, fun _ => ⟨m, a, xs, r1, r2, r3⟩⟩
  rintro t H' ⟨rfl, ht⟩
  refine ite2 (fun ct => ?_) (fun _ => ?_)
  · obtain ⟨m, a, xs, rfl, rfl, ha, hl, hx⟩ := ht ct
    have tupOf : ∀ (H2 : Hp), Gen p H2 → H2 a = some (.tup xs) ∧ (∀ x ∈ xs, Pl H2 m x) → ∀ H3, Ext p H2 H3 → H3 a = some (.tup xs) ∧ ∀ x ∈ xs, Pl H3 m x := fun H2 g2 p0 H3 e3 => ⟨e3.tup g2 p0.1, fun x h => (p0.2 x h).ext g2 e3⟩
    have sub : ∀ (H2 : Hp) (b : Addr) (ys : List V), H2 b = some (.tup ys) → ys.length ≤ 10 → (∀ y ∈ ys, y ∈ xs ∨ y = .int 0) → (∀ x ∈ xs, Pl H2 m x) → Dt p H2 (m + 3) (.ref b) := fun H2 b ys hb hlen hy hp => Dt.tup hb hlen fun y h => by
      rcases hy y h with z | z
      · exact ((hp y z).dt).up (by omega)
      · rw [z]; exact trivial
    have l3 : (10 : Nat) ≤ sizeLine := by decide
    refine asg_lst (GoodA.use (p := p) (k := m + 3) (P0 := fun H2 => H2 a = some (.tup xs) ∧ ∀ x ∈ xs, Pl H2 m x) (.cons ?_ (.cons ?_ (.cons ?_ (.cons ?_ (.cons ?_ (.cons ?_ (.cons ?_ (.cons ?_ .nil)))))))) (fun H2 H3 g2 e3 p0 => tupOf H2 g2 p0 H3 e3) g1 ⟨ha, hx⟩ ?_)
    · rintro H2 g2 ⟨ha2, hx2⟩
      refine ⟨_, rfl, a, xs, rfl, .inr (SqT.of ha2), fun b hb => ⟨Ext.new g2 hb _, Dt.lst upd_same (g2.ne hb) (by omega) fun x h => ?_⟩⟩
      exact (((hx2 x h).ext g2 (Ext.new g2 hb _)).dt).up (by omega)
    · rintro H2 g2 ⟨ha2, hx2⟩
      refine ⟨_, rfl, 1, rfl, -1, rfl, .inl ⟨a, xs, rfl, ha2, fun b H3 e3 hb => ?_⟩⟩
      exact ⟨Same.ext g2 e3, sub H3 b _ hb (by have := cutV_length xs none (some (-1)); omega) (fun y h => .inl (mem_cut h)) fun x h => (hx2 x h).ext g2 (Same.ext g2 e3)⟩
    · rintro H2 g2 ⟨ha2, hx2⟩
      refine ⟨_, rfl, _, rfl, 1, rfl, -1, rfl, a, xs, rfl, ha2, fun b H3 e3 hb => ?_⟩
      have hlen := cutV_length xs (some (-1)) none
      refine ⟨a, b, xs, _, rfl, rfl, e3 _ _ ha2, hb, by omega, fun c H4 e4 hc => ?_⟩
      have e24 := Same.ext g2 (e3.trans e4)
      exact ⟨e24, sub H4 c _ hc (by rw [List.length_append]; omega) (fun y h => .inl ((List.mem_append.mp h).elim id mem_cut)) fun x h => (hx2 x h).ext g2 e24⟩
    · rintro H2 g2 ⟨ha2, hx2⟩
      refine ⟨_, rfl, 1, rfl, rfl, a, xs, rfl, ha2, fun b hb => ?_⟩
      exact ⟨Ext.new g2 hb _, sub _ b _ upd_same (by rw [List.length_reverse]; omega) (fun y h => .inl (List.mem_reverse.mp h)) fun x h => (hx2 x h).ext g2 (Ext.new g2 hb _)⟩
    · rintro H2 g2 ⟨ha2, hx2⟩
      exact ⟨(by show 0 ≤ sizeLine; decide), fun b hb => ⟨Ext.new g2 hb _, Dt.tup upd_same (by show 0 ≤ 10; decide) fun x h => by cases h⟩⟩
    · rintro H2 g2 ⟨ha2, hx2⟩
      refine ⟨_, rfl, 1, rfl, .inl ⟨a, xs, rfl, ha2, fun b H3 e3 hb => ?_⟩⟩
      exact ⟨Same.ext g2 e3, sub H3 b _ hb (by have := cutV_length xs (some 1) none; omega) (fun y h => .inl (mem_cut h)) fun x h => (hx2 x h).ext g2 (Same.ext g2 e3)⟩
    · rintro H2 g2 ⟨ha2, hx2⟩
      refine ⟨_, rfl, (by show 1 ≤ sizeLine; decide), fun b hb => ?_⟩
      have e3 := Ext.new g2 hb (.tup [.int 0])
      refine ⟨a, b, xs, [.int 0], rfl, rfl, e3.tup g2 ha2, upd_same, (by show xs.length + 1 ≤ sizeLine; omega), fun c H4 e4 hc => ?_⟩
      have e24 := e3.trans (Same.ext e3.gen e4)
      exact ⟨e24, sub H4 c _ hc (by rw [List.length_append]; show xs.length + 1 ≤ 10; omega) (fun y h => (List.mem_append.mp h).elim .inl fun z => .inr (List.mem_singleton.mp z)) fun x h => (hx2 x h).ext g2 e24⟩
    · rintro H2 g2 ⟨ha2, hx2⟩
      refine ⟨_, rfl, (by show 1 ≤ sizeLine; decide), fun b hb => ⟨Ext.new g2 hb _, Dt.tup upd_same (by show 1 ≤ 10; decide) fun x h => ?_⟩⟩
      rw [List.mem_singleton.mp h]
      have e3 := Ext.new g2 hb (.tup [.ref a])
      exact Dt.tup (n := m + 1) (e3.tup g2 ha2) (by omega) fun y h => (((hx2 y h).ext g2 e3).dt).up (by omega)
    intro vs H2 e2 hlen hvs
    refine ⟨(by rw [hlen]; decide), fun u hu => ?_⟩
    have e3 : Ext p H2 (upd H2 u (.lst vs)) := Ext.new e2.gen hu _
    have up := e2.gen.ne hu
    refine ⟨(by show 12 ≤ sizeLine; decide), fun u2 hu2 => ?_⟩
    have e4 : Ext p _ (upd (upd H2 u (.lst vs)) u2 (.lst (twelve.map V.str))) := Ext.new e3.gen hu2 _
    refine ⟨_, rfl, _, rfl, _, rfl, p, 12, rfl, e4.gen, by decide, fun r H5 r0 r1 e5 => ?_⟩
    obtain ⟨x, hx5, hxm⟩ := at_str (ns := twelve) r0 r1
    refine ⟨u2, _, r, _, rfl, rfl, SqL.of (e5.but u2 _ (e3.gen.ne hu2) upd_same), hx5, (by show 1 ≤ sizeLine; decide), fun c hc => ?_⟩
    have e6 : Ext p H5 (upd H5 c (.tup [.str x])) := Ext.new e5.gen hc _
    have e26 := e2.trans (e3.trans (e4.trans (e5.trans e6)))
    obtain ⟨ha6, hx6⟩ := tupOf H1 g1 ⟨ha, hx⟩ _ e26
    refine ⟨_, rfl, 1, rfl, .inl ⟨a, xs, rfl, ha6, fun b H7 s7 hb => ?_⟩⟩
    have hl7 := cutV_length xs (some 1) none
    refine ⟨c, b, _, _, rfl, rfl, s7 _ _ upd_same, hb, (by show 1 + (cutV xs (some 1) none).length ≤ sizeLine; omega), fun c2 H8 s8 hc2 => ?_⟩
    refine ⟨(by show 1 ≤ sizeLine; decide), fun u3 hu3 => ?_⟩
    have e8 : Ext p _ H8 := Same.ext e6.gen (s7.trans s8)
    have e9 : Ext p H8 (upd H8 u3 (.lst [.ref c2])) := Ext.new e8.gen hu3 _
    refine ⟨u3, 4, _, rfl, rfl, upd_same, by decide, by decide, (by show 1 * 4 ≤ sizeLine; decide), fun u4 hu4 => ?_⟩
    have e10 : Ext p _ (upd (upd H8 u3 (.lst [.ref c2])) u4 (.lst [.ref c2, .ref c2, .ref c2, .ref c2])) := Ext.new e9.gen hu4 _
    have hu10 : (upd (upd H8 u3 (.lst [.ref c2])) u4 (.lst [.ref c2, .ref c2, .ref c2, .ref c2])) u = some (.lst vs) := (e4.trans (e5.trans (e6.trans (e8.trans (e9.trans e10))))).but u _ up upd_same
    refine ⟨u, u4, vs, _, rfl, rfl, hu10, upd_same, (by rw [hlen]; show 8 + 4 ≤ sizeLine; decide), fun u5 hu5 => ?_⟩
    have e11 : Ext p _ (upd (upd (upd H8 u3 (.lst [.ref c2])) u4 (.lst [.ref c2, .ref c2, .ref c2, .ref c2])) u5 (.lst (vs ++ [.ref c2, .ref c2, .ref c2, .ref c2]))) := Ext.new e10.gen hu5 _
    refine ⟨_, rfl, p, 12, rfl, e11.gen, by decide, fun r2 H12 k0 k1 e12 => ?_⟩
    have hl12 : ((vs ++ [V.ref c2, .ref c2, .ref c2, .ref c2]).length : Int) = 12 := by rw [List.length_append, hlen]; rfl
    obtain ⟨y, hy, hym⟩ := at_mem (xs := vs ++ [V.ref c2, .ref c2, .ref c2, .ref c2]) k0 (by rw [hl12]; exact k1)
    refine ⟨u5, _, r2, y, rfl, rfl, SqL.of (e12.but u5 _ (e10.gen.ne hu5) upd_same), hy, ?_⟩
    have eAll : Ext p H2 H12 := e3.trans (e4.trans (e5.trans (e6.trans (e8.trans (e9.trans (e10.trans (e11.trans e12)))))))
    refine q _ _ (e1.trans (e2.trans eAll)) ?_
    rcases List.mem_append.mp hym with h | h
    · exact (hvs y h).ext e2.gen eAll
    · have hyc : y = .ref c2 := by simpa using h
      subst hyc
      have e812 : Ext p H8 H12 := e9.trans (e10.trans (e11.trans e12))
      have hx10 : x.length ≤ 10 := (show ∀ x ∈ twelve, x.length ≤ 10 by decide +kernel) x hxm
      refine (Dt.tup (n := m + 2) hc2 (by rw [List.length_append]; show 1 + (cutV xs (some 1) none).length ≤ 10; omega) fun z hz => ?_).ext e8.gen e812
      rcases List.mem_append.mp hz with hz | hz
      · rw [List.mem_singleton.mp hz]; show x.length ≤ 100; omega
      · exact (((hx6 z (mem_cut hz)).ext e6.gen e8).dt).up (by omega)
  -- a number
  refine ⟨fun t H' => H1 = H' ∧ (t = true → ∃ i : Int, v = .int i ∧ 0 ≤ i ∧ i < 1000000), ?_, ?_⟩
  · refine ⟨_, rfl, _, _, rfl, rfl, _, rfl, ite2 (fun _ => ?_) (fun _ => ⟨rfl, fun z => by cases z⟩)⟩
    rcases hv1.kind with ⟨i, r1, ty, r2⟩ | ⟨x, _, ty, _⟩ | ⟨m, a, xs, _, _, ty, _⟩
    · exact ⟨_, rfl, v, "int", _, rfl, ty, by simp, _, rfl, rfl, fun _ => ⟨i, r1, r2⟩⟩
    · exact ⟨_, rfl, v, "int", _, rfl, ty, by simp, _, rfl, rfl, fun z => absurd z (by decide)⟩
    · exact ⟨_, rfl, v, "int", _, rfl, ty, by simp, _, rfl, rfl, fun z => absurd z (by decide)⟩
  rintro t2 H' ⟨rfl, ht2⟩
  refine ite2 (fun ct => ?_) (fun _ => ?_)
  · obtain ⟨i, rfl, i0, i1⟩ := ht2 ct
    refine ret_lst (GoodA.use (p := p) (k := n + 2) (P0 := fun _ => True) (.cons ?_ (.cons ?_ (.cons ?_ (.cons ?_ (.cons ?_ (.cons ?_ .nil)))))) (fun _ _ _ _ h => h) g1 trivial ?_)
    · exact fun H2 g2 _ => ⟨_, rfl, rfl, Ext.refl g2, trivial⟩
    · exact fun H2 g2 _ => ⟨_, rfl, _, rfl, _, _, rfl, rfl, Ext.refl g2, trivial⟩
    · exact fun H2 g2 _ => ⟨_, rfl, _, _, rfl, rfl, Ext.refl g2, trivial⟩
    · exact fun H2 g2 _ => ⟨_, rfl, _, _, rfl, rfl, Ext.refl g2, trivial⟩
    · intro H2 g2 _
      have hlog : i.natAbs.log2 < 1920 := by
        have h1 : i.natAbs < 2 ^ 1920 := Nat.lt_of_lt_of_le (show i.natAbs < 1000000 by omega) (by decide)
        by_cases hz : i.natAbs = 0
        · rw [hz]; decide
        · exact (Nat.log2_lt hz).mpr h1
      refine ⟨_, rfl, i, rfl, hlog, Ext.refl g2, ?_⟩
      show (Str.ofString (toString i)).length ≤ 100
      exact num_len i0 i1
    · exact fun H2 g2 _ => ⟨Ext.refl g2, trivial⟩
    intro vs H2 e2 hlen hvs
    refine ⟨(by rw [hlen]; decide), fun u hu => ?_⟩
    have e3 : Ext p H2 (upd H2 u (.lst vs)) := Ext.new e2.gen hu _
    refine ⟨_, rfl, p, 6, rfl, e3.gen, by decide, fun r H4 r0 r1 e4 => ?_⟩
    obtain ⟨y, hy, hym⟩ := at_mem (xs := vs) r0 (by rw [hlen]; exact r1)
    refine ⟨u, _, r, y, rfl, rfl, SqL.of (e4.but u _ (e2.gen.ne hu) upd_same), hy, ?_⟩
    exact q _ _ (e1.trans (e2.trans (e3.trans e4))) ((hvs y hym).ext e2.gen (e3.trans e4))
  -- a text
  refine ⟨fun t H' => H1 = H' ∧ (t = true → ∃ x : Str, v = .str x ∧ x.length ≤ 10), ?_, ?_⟩
  · refine ⟨_, rfl, _, _, rfl, rfl, _, rfl, ite2 (fun _ => ?_) (fun _ => ⟨rfl, fun z => by cases z⟩)⟩
    rcases hv1.kind with ⟨i, r1, ty, r2⟩ | ⟨x, r1, ty, r2⟩ | ⟨m, a, xs, _, _, ty, _⟩
    · exact ⟨_, rfl, v, "str", _, rfl, ty, by simp, _, rfl, rfl, fun z => absurd z (by decide)⟩
    · exact ⟨_, rfl, v, "str", _, rfl, ty, by simp, _, rfl, rfl, fun _ => ⟨x, r1, r2⟩⟩
    · exact ⟨_, rfl, v, "str", _, rfl, ty, by simp, _, rfl, rfl, fun z => absurd z (by decide)⟩
  rintro t3 H' ⟨rfl, ht3⟩
  refine ite2 (fun ct => ?_) (fun _ => ?_)
  · obtain ⟨x, rfl, hx⟩ := ht3 ct
    have l3 : (100 : Nat) ≤ sizeLine := by decide
    have txt : ∀ {H2 : Hp} {y : Str}, y.length ≤ 100 → Dt p H2 (n + 2) (.str y) := fun h => h
    refine asg_lst (GoodA.use (p := p) (k := n + 2) (P0 := fun _ => True) (.cons ?_ (.cons ?_ (.cons ?_ (.cons ?_ (.cons ?_ (.cons ?_ .nil)))))) (fun _ _ _ _ h => h) g1 trivial ?_)
    · exact fun H2 g2 _ => ⟨_, rfl, x, "b", rfl, rfl, (by have : ("b" : Str).length = 1 := by decide +kernel
                                                          omega), Ext.refl g2, txt (by rw [len_append]; have : ("b" : Str).length = 1 := by decide +kernel
                                                                                       omega)⟩
    · exact fun H2 g2 _ => ⟨_, rfl, 1, rfl, .inr ⟨x, rfl, by omega, fun y hy => ⟨Ext.refl g2, txt (by omega)⟩⟩⟩
    · exact fun H2 g2 _ => ⟨_, rfl, x, " ", rfl, rfl, (by have : (" " : Str).length = 1 := by decide +kernel
                                                          omega), Ext.refl g2, txt (by rw [len_append]; have : (" " : Str).length = 1 := by decide +kernel
                                                                                       omega)⟩
    · exact fun H2 g2 _ => ⟨_, rfl, rfl, x, rfl, rfl, by omega, fun y hy => ⟨Ext.refl g2, txt (by omega)⟩⟩
    · exact fun H2 g2 _ => ⟨_, rfl, x, "abcdef", rfl, rfl, (by have : ("abcdef" : Str).length = 6 := by decide +kernel
                                                               omega), Ext.refl g2, txt (by rw [len_append]; have : ("abcdef" : Str).length = 6 := by decide +kernel
                                                                                            omega)⟩
    · exact fun H2 g2 _ => ⟨_, rfl, 1, rfl, -1, rfl, .inr ⟨x, rfl, by omega, fun y hy => ⟨y, "_", rfl, rfl, (by have : ("_" : Str).length = 1 := by decide +kernel
                                                                                                                omega), Ext.refl g2, txt (by rw [len_append]; have : ("_" : Str).length = 1 := by decide +kernel
                                                                                                                                             omega)⟩⟩⟩
    intro vs H2 e2 hlen hvs
    refine ⟨(by rw [hlen]; decide), fun u hu => ?_⟩
    have e3 : Ext p H2 (upd H2 u (.lst vs)) := Ext.new e2.gen hu _
    refine ⟨_, rfl, (by show 4 ≤ sizeLine; decide), fun u2 hu2 => ?_⟩
    have e4 : Ext p _ (upd (upd H2 u (.lst vs)) u2 (.lst [.str "zz", .str "pop", .str "over", .str "fail"])) := Ext.new e3.gen hu2 _
    refine ⟨u, u2, vs, [.str "zz", .str "pop", .str "over", .str "fail"], rfl, rfl, e4.but u _ (e2.gen.ne hu) upd_same, upd_same, (by rw [hlen]; show 6 + 4 ≤ sizeLine; decide), fun u3 hu3 => ?_⟩
    have e5 : Ext p _ (upd (upd (upd H2 u (.lst vs)) u2 (.lst [.str "zz", .str "pop", .str "over", .str "fail"])) u3 (.lst (vs ++ [.str "zz", .str "pop", .str "over", .str "fail"]))) := Ext.new e4.gen hu3 _
    refine ⟨_, rfl, p, 10, rfl, e5.gen, by decide, fun r H6 r0 r1 e6 => ?_⟩
    have hl6 : ((vs ++ [V.str "zz", .str "pop", .str "over", .str "fail"]).length : Int) = 10 := by rw [List.length_append, hlen]; rfl
    obtain ⟨y, hy, hym⟩ := at_mem (xs := vs ++ [V.str "zz", .str "pop", .str "over", .str "fail"]) r0 (by rw [hl6]; exact r1)
    refine ⟨u3, _, r, y, rfl, rfl, SqL.of (e6.but u3 _ (e4.gen.ne hu3) upd_same), hy, ?_⟩
    have eA : Ext p H2 H6 := e3.trans (e4.trans (e5.trans e6))
    refine q _ _ (e1.trans (e2.trans eA)) ?_
    rcases List.mem_append.mp hym with h | h
    · exact (hvs y h).ext e2.gen eA
    · simp only [List.mem_cons, List.not_mem_nil, or_false] at h
      rcases h with rfl | rfl | rfl | rfl <;> exact txt (by decide +kernel)
  -- whatever
  obtain ⟨m, rfl⟩ : ∃ m, n = m + 1 := ⟨n - 1, by omega⟩
  have txt : ∀ {H2 : Hp} {y : Str}, y.length ≤ 100 → Dt p H2 (m + 3) (.str y) := fun h => h
  have txt1 : ∀ {H2 : Hp} {y : Str}, y.length ≤ 100 → Dt p H2 (m + 1) (.str y) := fun h => h
  have txt2 : ∀ {H2 : Hp} {y : Str}, y.length ≤ 100 → Dt p H2 (m + 2) (.str y) := fun h => h
  refine asg_lst (GoodA.use (p := p) (k := m + 3) (P0 := fun _ => True) (.cons ?_ (.cons ?_ (.cons ?_ (.cons ?_ (.cons ?_ (.cons ?_ (.cons ?_ (.cons ?_ (.cons ?_ (.cons ?_ (.cons ?_ (.cons ?_ (.cons ?_ (.cons ?_ (.cons ?_ (.cons ?_ .nil)))))))))))))))) (fun _ _ _ _ h => h) g1 trivial ?_)
  · exact fun H2 g2 _ => ⟨Ext.refl g2, trivial⟩
  · exact fun H2 g2 _ => ⟨Ext.refl g2, trivial⟩
  · exact fun H2 g2 _ => ⟨_, rfl, Ext.refl g2, trivial⟩
  · exact fun H2 g2 _ => ⟨Ext.refl g2, trivial⟩
  · exact fun H2 g2 _ => ⟨Ext.refl g2, trivial⟩
  · exact fun H2 g2 _ => ⟨Ext.refl g2, trivial⟩
  · exact fun H2 g2 _ => ⟨10, 30, rfl, rfl, ⟨by decide, by decide, by decide⟩, Ext.refl g2, trivial⟩
  · exact fun H2 g2 _ => ⟨Ext.refl g2, txt (by decide +kernel)⟩
  · exact fun H2 g2 _ => ⟨Ext.refl g2, txt (by decide +kernel)⟩
  · exact fun H2 g2 _ => ⟨Ext.refl g2, txt (by decide +kernel)⟩
  · exact fun H2 g2 _ => ⟨Ext.refl g2, txt (by decide +kernel)⟩
  · exact fun H2 g2 _ => ⟨Ext.refl g2, txt (by decide +kernel)⟩
  · exact fun H2 g2 _ => ⟨(by show 0 ≤ sizeLine; decide), fun b hb => ⟨Ext.new g2 hb _, Dt.tup upd_same (by show 0 ≤ 10; decide) fun x h => by cases h⟩⟩
  · exact fun H2 g2 _ => ⟨(by show 0 ≤ sizeLine; decide), fun b hb => ⟨Ext.new g2 hb _, Dt.lst upd_same (g2.ne hb) (by show 0 ≤ 10; decide) fun x h => by cases h⟩⟩
  · exact fun H2 g2 _ => ⟨(by show 2 ≤ sizeLine; decide), fun b hb => ⟨Ext.new g2 hb _, Dt.tup upd_same (by show 2 ≤ 10; decide) fun x h => by
      simp only [List.mem_cons, List.not_mem_nil, or_false] at h
      rcases h with rfl | rfl
      · exact txt2 (by decide +kernel)
      · exact trivial⟩⟩
  · exact fun H2 g2 _ => fun b hb => ⟨Ext.new g2 hb _, .inr (.inr upd_same)⟩
  intro vs H2 e2 hlen hvs
  refine ⟨(by rw [hlen]; decide), fun u hu => ?_⟩
  have e3 : Ext p H2 (upd H2 u (.lst vs)) := Ext.new e2.gen hu _
  refine ⟨_, rfl, lst_open (GoodA.use (p := p) (k := m + 3) (P0 := fun _ => True) (.cons ?_ (.cons ?_ (.cons ?_ (.cons ?_ (.cons ?_ .nil))))) (fun _ _ _ _ h => h) e3.gen trivial ?_)⟩
  · exact fun H2 g2 _ => ⟨(by show 2 ≤ sizeLine; decide), fun b hb => ⟨Ext.new g2 hb _, Dt.tup upd_same (by show 2 ≤ 10; decide) fun x h => by
      simp only [List.mem_cons, List.not_mem_nil, or_false] at h
      rcases h with rfl | rfl
      · exact txt2 (by decide +kernel)
      · exact trivial⟩⟩
  · exact fun H2 g2 _ => ⟨(by show 2 ≤ sizeLine; decide), fun b hb => ⟨Ext.new g2 hb _, Dt.tup upd_same (by show 2 ≤ 10; decide) fun x h => by
      simp only [List.mem_cons, List.not_mem_nil, or_false] at h
      rcases h with rfl | rfl
      · exact txt2 (by decide +kernel)
      · exact txt2 (by decide +kernel)⟩⟩
  · exact fun H2 g2 _ => ⟨(by show 2 ≤ sizeLine; decide), fun b hb => ⟨(by show 2 ≤ sizeLine; decide), fun c hc => ⟨(Ext.new g2 hb _).trans (Ext.new (Ext.new g2 hb _).gen hc _), Dt.tup upd_same (by show 2 ≤ 10; decide) fun x h => by
      simp only [List.mem_cons, List.not_mem_nil, or_false] at h
      rcases h with rfl | rfl
      · exact txt2 (by decide +kernel)
      · refine Dt.tup (n := m + 1) (xs := [.str "number", .int 1]) (by rw [upd_ne (ne_of_none (o := .tup [.str "number", .int 1]) upd_same hc)]; exact upd_same) (by show 2 ≤ 10; decide) fun x h => ?_
        simp only [List.mem_cons, List.not_mem_nil, or_false] at h
        rcases h with rfl | rfl
        · exact txt1 (by decide +kernel)
        · exact trivial⟩⟩⟩
  · exact fun H2 g2 _ => ⟨(by show 2 ≤ sizeLine; decide), fun b hb => ⟨(by show 2 ≤ sizeLine; decide), fun c hc => ⟨(Ext.new g2 hb _).trans (Ext.new (Ext.new g2 hb _).gen hc _), Dt.tup upd_same (by show 2 ≤ 10; decide) fun x h => by
      simp only [List.mem_cons, List.not_mem_nil, or_false] at h
      rcases h with rfl | rfl
      · exact txt2 (by decide +kernel)
      · refine Dt.tup (n := m + 1) (xs := [.str "number", .int 1]) (by rw [upd_ne (ne_of_none (o := .tup [.str "number", .int 1]) upd_same hc)]; exact upd_same) (by show 2 ≤ 10; decide) fun x h => ?_
        simp only [List.mem_cons, List.not_mem_nil, or_false] at h
        rcases h with rfl | rfl
        · exact txt1 (by decide +kernel)
        · exact trivial⟩⟩⟩
  · exact fun H2 g2 _ => ⟨(by show 1 ≤ sizeLine; decide), fun b hb => ⟨Ext.new g2 hb _, Dt.tup upd_same (by show 1 ≤ 10; decide) fun x h => by
      simp only [List.mem_cons, List.not_mem_nil, or_false] at h
      subst h
      exact txt2 (by decide +kernel)⟩⟩
  intro ws H4 e4 hlen4 hws
  refine ⟨(by rw [hlen4]; decide), fun u2 hu2 => ?_⟩
  have e5 : Ext p H4 (upd H4 u2 (.lst ws)) := Ext.new e4.gen hu2 _
  refine ⟨u, u2, vs, ws, rfl, rfl, (e4.trans e5).but u _ (e2.gen.ne hu) upd_same, upd_same, (by rw [hlen, hlen4]; show 16 + 5 ≤ sizeLine; decide), fun u3 hu3 => ?_⟩
  have e6 : Ext p _ (upd (upd H4 u2 (.lst ws)) u3 (.lst (vs ++ ws))) := Ext.new e5.gen hu3 _
  refine ⟨_, rfl, _, rfl, p, 21, rfl, e6.gen, by decide, fun r H7 r0 r1 e7 => ?_⟩
  have hl7 : ((vs ++ ws).length : Int) = 21 := by rw [List.length_append, hlen, hlen4]; rfl
  obtain ⟨y, hy, hym⟩ := at_mem (xs := vs ++ ws) r0 (by rw [hl7]; exact r1)
  refine ⟨u3, _, r, y, rfl, rfl, SqL.of (e7.but u3 _ (e5.gen.ne hu3) upd_same), hy, ?_⟩
  have e47 : Ext p H4 H7 := e5.trans (e6.trans e7)
  refine q _ _ (e1.trans (e2.trans (e3.trans (e4.trans e47)))) ?_
  rcases List.mem_append.mp hym with h | h
  · exact (hvs y h).ext e2.gen (e3.trans (e4.trans e47))
  · exact (hws y h).ext e4.gen e47
end
end K01

set_option Elab.async false
set_option linter.all false
set_option maxRecDepth 100000
set_option maxHeartbeats 4000000
namespace K01
open PySem L2
seal L2.PE L2.PS L2.PSs L2.PT L2.PW L2.PA L2.PG L2.PGs L2.PI L2.PO L2.PIfs L2.PC L2.OpR L2.CallR L2.IxR L2.SlR L2.PSet L2.UnR
theorem ifT {c : Bool} {A B : Prop} (h : c = true) (x : A) : if c = true then A else B := by rw [if_pos h]; exact x
theorem ifF {c : Bool} {A B : Prop} (h : c = false) (x : B) : if c = true then A else B := by rw [if_neg (by rw [h]; exact Bool.false_ne_true)]; exact x

section
variable {P : Program} {w : World} {K : PySem.W.Frag} {mg : Str → Option Value} {base : Heap}
/-! ### _law_spoilt -/
theorem sc_spoilt : FnScope ["_law_thing_here", "_law_state_here", "_law_at"] ["_law_thing_here", "_law_state_here"] (defScope (top 25)) := ⟨rfl, rfl, rfl, by decide +kernel, rfl, by decide +kernel, by decide +kernel⟩
def spSpoilt (n : Nat) : Sp := fun vs H Q _ => ∃ (v : V) (p : Addr) (m : Nat), vs = [v, .ref p] ∧ Gen p H ∧ Pl H m v ∧ m ≤ n ∧ ∀ (r : V) (H' : Hp), Ext p H H' → Dt p H' (m + 2) r → Q r H'
theorem d_spoilt1 {n : Nat} (T : Txt w K mg) (D_next : Def P w K mg base 1 "_law_next" ["_law_state_here", "_law_size"] spNext) (D_odd : Def P w K mg base 2 "_law_odd" ["_law_thing_here", "_law_state_here"] spOdd) (S : Src K mg "_law_spoilt" (top 25) ["_law_thing_here", "_law_state_here"])
    (IH : Def P w K mg base (n + 3) "_law_spoilt" ["_law_thing_here", "_law_state_here"] (spSpoilt n)) : Def P w K mg base (n + 4) "_law_spoilt" ["_law_thing_here", "_law_state_here"] (spSpoilt (n + 1)) := by
  refine S.ok sc_spoilt (fun vs H Q E h => ?_) (fun f cdv A outer s H vs Q E hr h => ?_)
  · obtain ⟨v, p, m, rfl, _⟩ := h; rfl
  obtain ⟨v, p, m, rfl, g, hv, hm, q⟩ := h
  refine ⟨_, (pss_cons (ps_if (pt_cut (PW.pt (pw_or (pt_not (pt_val (pe_cB call_isi rfl T.z_isinstance bt_isinstance (pac (pv 0) (pac (pe_ty T.z_tuple bt_tuple rfl) pa_nil))))) (pw_or (pt_cmpR (op_eqT0 hr.units0) (pv 0) (pe_tup pa_nil) (nomark _)) (pw_or1 (pt_cmpR op_eq (pe_def (D_next.mono (Nat.le_add_left 1 _)) hr rfl (pac (pv 1) (pac pe_int pa_nil))) pe_int (nomark _)))))))
      (pss_one (ps_ret (pe_def (D_odd.mono (Nat.le_add_left 2 _)) hr rfl (pac (pv 0) (pac (pv 1) pa_nil))))) pss_nil)
      (pss_cons (ps_set (i := 2) sc_spoilt.nd rfl (Or.inl rfl) (pe_def (D_next.mono (Nat.le_add_left 1 _)) hr rfl (pac (pv 1) (pac (pe_cB call_len_seq rfl T.z_len bt_len (pac (pv 0) pa_nil)) pa_nil))))
      (pss_one (ps_ret (pe_op op_catTw (pe_op op_catTw (pe_slice sl_tupW (pv 0) po_none (po_some (pv 2))) (pe_tup (pac (pe_def (IH) hr rfl (pac (pe_ix ix_tup (pv 0) (pv 2) (fun _ _ => rfl)) (pac (pv 1) pa_nil))) pa_nil))) (pe_slice sl_tupW (pv 0) (po_some (pe_op op_add (pv 2) pe_int)) po_none)))))), ?_⟩
  refine ⟨fun t H' => Ext p H H' ∧ (t = false → ∃ (m' : Nat) (a : Addr) (xs : List V), m = m' + 1 ∧ v = .ref a ∧ H a = some (.tup xs) ∧ xs ≠ [] ∧ xs.length ≤ 3 ∧ ∀ x ∈ xs, Pl H m' x), ?_, ?_⟩
  · rcases hv.kind with ⟨i, r1, ty, r2⟩ | ⟨x, r1, ty, r2⟩ | ⟨m', a, xs, rfl, rfl, ty, ha, hl, hx⟩
    · exact ⟨_, rfl, v, "tuple", _, rfl, ty, by simp, _, rfl, ifT (by decide) ⟨Ext.refl g, fun z => by cases z⟩⟩
    · exact ⟨_, rfl, v, "tuple", _, rfl, ty, by simp, _, rfl, ifT (by decide) ⟨Ext.refl g, fun z => by cases z⟩⟩
    · refine ⟨_, rfl, _, "tuple", _, rfl, ty, by simp, _, rfl, ifF (by decide) ?_⟩
      refine ⟨_, rfl, (by show 0 ≤ sizeLine; decide), fun b hb => ?_⟩
      have e1 := Ext.new g hb (.tup [])
      refine ⟨a, b, xs, [], rfl, rfl, SqT.of (e1.tup g ha), SqT.of upd_same, .inr rfl, _, rfl, ite2 (fun c => ⟨e1, fun z => by cases z⟩) (fun c => ?_)⟩
      have hne : xs ≠ [] := fun z => c (by rw [z]; rfl)
      exact ⟨_, rfl, p, 4, rfl, e1.gen, by decide, fun r H2 r0 r1 e2 => ⟨rfl, _, rfl, e1.trans e2, fun _ => ⟨m', a, xs, rfl, rfl, ha, hne, hl, hx⟩⟩⟩
  rintro t H1 ⟨e1, h1⟩
  have g1 := e1.gen
  refine ite2 (fun _ => ?_) (fun ct => ?_)
  · exact ⟨_, rfl, _, rfl, v, p, m, rfl, g1, hv.ext g e1, fun r H2 e2 d2 => q r H2 (e1.trans e2) d2⟩
  obtain ⟨m', a, xs, rfl, rfl, ha, hne, hl, hx⟩ := h1 (by cases t with | false => rfl | true => exact absurd rfl ct)
  have ha1 := e1.tup g ha
  have hpos : 0 < xs.length := List.length_pos_iff.mpr hne
  refine ⟨_, rfl, _, rfl, a, _, rfl, .inr (SqT.of ha1), p, _, rfl, g1, by omega, fun k H2 k0 k1 e2 => ?_⟩
  have g2 := e2.gen
  have e02 := e1.trans e2
  have ha2 := e02.tup g ha
  obtain ⟨x, hxk, hxm⟩ := at_mem (xs := xs) k0 k1
  have l3 : (10 : Nat) ≤ sizeLine := by decide
  have c1 := cutV_length xs none (some k)
  have c2 := cutV_length xs (some (k + 1)) none
  refine ⟨_, rfl, _, rfl, k, rfl, a, xs, rfl, ha2, fun b1 H3 s3 hb1 => ?_⟩
  have e3 := Same.ext g2 s3
  have ha3 := e3.tup g2 ha2
  refine ⟨_, rfl, _, rfl, a, xs, k, x, rfl, rfl, SqT.of ha3, hxk, _, rfl, x, p, m', rfl, e3.gen, (hx x hxm).ext g (e02.trans e3), by omega, fun r H4 e4 d4 => ?_⟩
  refine ⟨(by show 1 ≤ sizeLine; decide), fun t1 ht1 => ?_⟩
  have e5 := Ext.new e4.gen ht1 (.tup [r])
  refine ⟨b1, t1, _, _, rfl, rfl, (e4.trans e5).tup e3.gen hb1, upd_same, (by show (cutV xs none (some k)).length + 1 ≤ sizeLine; omega), fun c H6 s6 hc => ?_⟩
  have e6 := Same.ext e5.gen s6
  have e36 := e4.trans (e5.trans e6)
  have ha6 := e36.tup e3.gen ha3
  refine ⟨_, rfl, _, rfl, _, _, rfl, rfl, _, rfl, a, xs, rfl, ha6, fun b2 H7 s7 hb2 => ?_⟩
  have e7 := Same.ext e6.gen s7
  refine ⟨c, b2, _, _, rfl, rfl, e7.tup e6.gen hc, hb2, (by rw [List.length_append]; show (cutV xs none (some k)).length + 1 + (cutV xs (some (k + 1)) none).length ≤ sizeLine; omega), fun d H8 s8 hd => ?_⟩
  have e8 := Same.ext e7.gen s8
  have e48 : Ext p H4 H8 := e5.trans (e6.trans (e7.trans e8))
  have e08 : Ext p H H8 := e02.trans (e3.trans (e4.trans e48))
  refine q _ _ e08 (Dt.tup (n := m' + 2) hd (by rw [List.length_append, List.length_append]; show (cutV xs none (some k)).length + 1 + (cutV xs (some (k + 1)) none).length ≤ 10; omega) fun y hy => ?_)
  rcases List.mem_append.mp hy with hy | hy
  · rcases List.mem_append.mp hy with hy | hy
    · exact (((hx y (mem_cut hy)).ext g e08).dt).up (by omega)
    · rw [List.mem_singleton.mp hy]
      exact d4.ext e4.gen e48
  · exact (((hx y (mem_cut hy)).ext g e08).dt).up (by omega)
theorem d_spoilt (T : Txt w K mg) (D_next : Def P w K mg base 1 "_law_next" ["_law_state_here", "_law_size"] spNext) (D_odd : Def P w K mg base 2 "_law_odd" ["_law_thing_here", "_law_state_here"] spOdd) (S : Src K mg "_law_spoilt" (top 25) ["_law_thing_here", "_law_state_here"]) :
    ∀ n : Nat, Def P w K mg base (n + 3) "_law_spoilt" ["_law_thing_here", "_law_state_here"] (spSpoilt n)
  | 0 => S.no fun vs H Q E h => by
    obtain ⟨v, p, m, _, _, h1, h2, _⟩ := h
    have := h1.pos
    omega
  | n + 1 => d_spoilt1 T D_next D_odd S (d_spoilt T D_next D_odd S n)

/-! ### _law_thing -/
theorem sc_thing : FnScope ["_law_state_here", "_law_boxes", "_law_lists", "_law_thing_here", "_law_kind", "_law_k"] ["_law_state_here", "_law_boxes", "_law_lists"] (defScope (top 27)) := ⟨rfl, rfl, rfl, by decide +kernel, rfl, by decide +kernel, by decide +kernel⟩
def spThing : Sp := fun vs H Q _ => ∃ (p b l : Addr) (bs ls : List Str), vs = [.ref p, .ref b, .ref l] ∧ Gen p H ∧ H b = some (.lst (bs.map V.str)) ∧ H l = some (.lst (ls.map V.str)) ∧ (∀ x ∈ bs, x.length ≤ 10) ∧ (∀ x ∈ ls, x.length ≤ 10) ∧
  ∀ (r : V) (H' : Hp), Ext p H H' → Dt p H' 200 r → Q r H'
theorem d_thing (T : Txt w K mg) (D_next : Def P w K mg base 1 "_law_next" ["_law_state_here", "_law_size"] spNext)
    (D_value : ∀ n : Nat, Def P w K mg base (n + 1) "_law_value" ["_law_state_here", "_law_deep", "_law_boxes", "_law_lists"] (spValue n)) (D_spoilt : ∀ n : Nat, Def P w K mg base (n + 3) "_law_spoilt" ["_law_thing_here", "_law_state_here"] (spSpoilt n))
    (S : Src K mg "_law_thing" (top 27) ["_law_state_here", "_law_boxes", "_law_lists"]) : Def P w K mg base 11 "_law_thing" ["_law_state_here", "_law_boxes", "_law_lists"] spThing := by
  refine S.ok sc_thing (fun vs H Q E h => ?_) (fun f cdv A outer s H vs Q E hr h => ?_)
  · obtain ⟨p, b, l, bs, ls, rfl, _⟩ := h; rfl
  obtain ⟨p, b, l, bs, ls, rfl, g, hb, hl, hbs, hls, q⟩ := h
  refine ⟨_, (pss_cons (ps_set (i := 3) sc_thing.nd rfl (Or.inl rfl) (pe_def ((D_value 6).mono (by decide)) hr rfl (pac (pv 0) (pac (pe_op op_add pe_int (pe_def (D_next.mono (by decide)) hr rfl (pac (pv 0) (pac pe_int pa_nil)))) (pac (pv 1) (pac (pv 2) pa_nil))))))
      (pss_cons (ps_set (i := 4) sc_thing.nd rfl (Or.inl rfl) (pe_def (D_next.mono (by decide)) hr rfl (pac (pv 0) (pac pe_int pa_nil))))
      (pss_cons (ps_if (pt_cmpR op_lt (pv 4) pe_int (nomark _))
      (pss_one (ps_ret (pe_def ((D_spoilt 7).mono (by decide)) hr rfl (pac (pv 3) (pac (pv 0) pa_nil))))) pss_nil)
      (pss_cons (ps_if (pt_cmpR op_eq (pv 4) pe_int (nomark _))
      (pss_one (ps_ret (pe_def ((D_value 6).mono (by decide)) hr rfl (pac (pv 0) (pac (pe_op op_add pe_int (pe_def (D_next.mono (by decide)) hr rfl (pac (pv 0) (pac pe_int pa_nil)))) (pac (pv 2) (pac (pv 1) pa_nil))))))) pss_nil)
      (pss_cons (ps_if (pt_cut (PW.pt (pw_and (pt_cmpR op_eq (pv 4) pe_int (nomark _)) (pw_and1 (pt_cmpR op_eq (pe_def (D_next.mono (by decide)) hr rfl (pac (pv 0) (pac pe_int pa_nil))) pe_int (nomark _))))))
      (pss_one (ps_for PassesOwn.never rfl (pi_range1 rfl T.z_range (pac (pe_def (D_next.mono (by decide)) hr rfl (pac (pv 0) (pac pe_int pa_nil))) pa_nil)) (pg_name (i := 5) sc_thing.nd rfl (Or.inl rfl))
      (pss_one (ps_set (i := 3) sc_thing.nd rfl (Or.inl rfl) (pe_tup (pac pe_str (pac (pv 3) pa_nil))))))) pss_nil)
      (pss_one (ps_ret (pv 3)))))))), ?_⟩
  refine ⟨_, rfl, _, rfl, p, 6, rfl, g, by decide, fun r H1 r0 r1 e1 => ?_⟩
  refine ⟨1, r, rfl, rfl, _, rfl, _, rfl, p, 1 + r, b, l, bs, ls, rfl, e1.gen, by omega, by omega, e1.lst g hb, e1.lst g hl, hbs, hls, fun v H2 e2 p2 => ?_⟩
  have e02 := e1.trans e2
  refine ⟨_, rfl, p, 8, rfl, e2.gen, by decide, fun kd H3 k0 k1 e3 => ?_⟩
  have e03 := e02.trans e3
  have g3 := e3.gen
  have p3 := p2.ext e2.gen e3
  refine ⟨_, rfl, _, _, rfl, rfl, _, rfl, ite2 (fun _ => ?_) (fun _ => ?_)⟩
  · exact ⟨_, rfl, _, rfl, v, p, 7, rfl, g3, p3, by decide, fun r' H4 e4 d4 => q r' H4 (e03.trans e4) (d4.up (by decide))⟩
  refine ⟨_, rfl, rfl, _, rfl, ite2 (fun _ => ?_) (fun _ => ?_)⟩
  · refine ⟨_, rfl, _, rfl, p, 4, rfl, g3, by decide, fun r' H4 r0' r1' e4 => ?_⟩
    exact ⟨1, r', rfl, rfl, _, rfl, _, rfl, p, 1 + r', l, b, ls, bs, rfl, e4.gen, by omega, by omega, (e03.trans e4).lst g hl, (e03.trans e4).lst g hb, hls, hbs, fun v' H5 e5 p5 => q v' H5 (e03.trans (e4.trans e5)) ((p5.dt).up (by decide))⟩
  refine ⟨fun _ H' => Ext p H3 H', ?_, ?_⟩
  · refine ⟨_, rfl, rfl, _, rfl, ite2 (fun _ => ?_) (fun _ => Ext.refl g3)⟩
    exact ⟨_, rfl, p, 4, rfl, g3, by decide, fun r' H4 r0' r1' e4 => ⟨rfl, _, rfl, e4⟩⟩
  rintro t H4 e4
  refine ite2 (fun _ => ?_) (fun _ => ?_)
  · refine ⟨_, rfl, p, 150, rfl, e4.gen, by decide, fun k H5 k0' k1' e5 => ⟨k, rfl, by omega, by omega, ?_⟩⟩
    refine for_range (n := k.toNat) (fun i σ H' => ∃ (v' : V) (x5 : Option V), σ = [some (.ref p), some (.ref b), some (.ref l), some v', some (.int kd), x5] ∧ Ext p H5 H' ∧ Dt p H' (7 + i) v') ?_ ?_ ?_
    · exact ⟨v, _, rfl, Ext.refl e5.gen, (p3.ext g3 (e4.trans e5)).dt⟩
    · rintro i σ H6 hi ⟨v', x5, rfl, e6, d6⟩
      refine ⟨_, rfl, (by show 2 ≤ sizeLine; decide), fun t ht => ?_⟩
      have e7 := Ext.new e6.gen ht (.tup [.str "not", v'])
      refine ⟨.ref t, _, rfl, e6.trans e7, Dt.tup (n := 7 + i) upd_same (by show 2 ≤ 10; decide) fun y hy => ?_⟩
      simp only [List.mem_cons, List.not_mem_nil, or_false] at hy
      rcases hy with rfl | rfl
      · have : Dt p (upd H6 t (.tup [.str "not", v'])) 1 (.str "not") := show ("not" : Str).length ≤ 100 by decide +kernel
        exact this.up (by omega)
      · exact d6.ext e6.gen e7
    · rintro σ H6 ⟨v', x5, rfl, e6, d6⟩
      exact ⟨_, rfl, q v' H6 (e03.trans (e4.trans (e5.trans e6))) (d6.up (by omega))⟩
  · exact ⟨_, rfl, q v H4 (e03.trans e4) (((p3.ext g3 e4).dt).up (by decide))⟩
end
end K01

set_option Elab.async false
set_option linter.all false
set_option maxRecDepth 100000
set_option maxHeartbeats 4000000
namespace K01
open PySem L2
seal L2.PE L2.PS L2.PSs L2.PT L2.PW L2.PA L2.PG L2.PGs L2.PI L2.PO L2.PIfs L2.PC L2.OpR L2.CallR L2.IxR L2.SlR L2.PSet L2.UnR

/-! ### what both sides ask -/
def nmV : V → Bool
  | .str s => nmS s
  | _ => false
def numV : V → Bool
  | .int i => decide (0 ≤ i) && decide (i ≤ 999999)
  | _ => false
theorem Dt.kind {p : Addr} {H : Hp} {n : Nat} {v : V} (h : Dt p H n v) : (v = .non ∧ tyN H v = some "NoneType") ∨ (∃ b, v = .bl b ∧ tyN H v = some "bool") ∨ (∃ i, v = .int i ∧ tyN H v = some "int") ∨ (∃ x : Str, v = .str x ∧ tyN H v = some "str" ∧ x.length ≤ 100) ∨
    (∃ (m : Nat) (a : Addr) (xs : List V), n = m + 1 ∧ v = .ref a ∧ tyN H v = some "tuple" ∧ H a = some (.tup xs) ∧ xs.length ≤ 10 ∧ ∀ x ∈ xs, Dt p H m x) ∨
    (∃ (m : Nat) (a : Addr) (xs : List V), n = m + 1 ∧ v = .ref a ∧ tyN H v = some "list" ∧ H a = some (.lst xs) ∧ xs.length ≤ 10 ∧ ∀ x ∈ xs, Dt p H m x) ∨ (∃ a, v = .ref a ∧ tyN H v = some "dict" ∧ H a = some (.dK [])) := by
  cases n with
  | zero => exact h.elim
  | succ n =>
    cases v with
    | non => exact .inl ⟨rfl, rfl⟩
    | bl b => exact .inr (.inl ⟨b, rfl, rfl⟩)
    | int i => exact .inr (.inr (.inl ⟨i, rfl, rfl⟩))
    | str x => exact .inr (.inr (.inr (.inl ⟨x, rfl, rfl, h⟩)))
    | ref a =>
      rcases h with ⟨xs, h1, h2, h3⟩ | ⟨xs, h1, h0, h2, h3⟩ | h
      · exact .inr (.inr (.inr (.inr (.inl ⟨n, a, xs, rfl, rfl, by unfold tyN; dsimp only; rw [h1], h1, h2, h3⟩))))
      · exact .inr (.inr (.inr (.inr (.inr (.inl ⟨n, a, xs, rfl, rfl, by unfold tyN; dsimp only; rw [h1], h1, h2, h3⟩)))))
      · exact .inr (.inr (.inr (.inr (.inr (.inr ⟨a, rfl, by unfold tyN; dsimp only; rw [h], h⟩)))))
    | byt _ => exact h.elim
    | flt _ => exact h.elim
    | ty _ => exact h.elim
/-- a text, or none -/
theorem Dt.strOr {p : Addr} {H : Hp} {n : Nat} {v : V} (h : Dt p H n v) : ∃ t, tyN H v = some t ∧ ((∃ x : Str, v = .str x ∧ t = "str" ∧ x.length ≤ 100) ∨ (isiB t "str" = false ∧ nmV v = false ∧ ∀ x, v ≠ .str x)) := by
  rcases h.kind with ⟨rfl, ty⟩ | ⟨b, rfl, ty⟩ | ⟨i, rfl, ty⟩ | ⟨x, rfl, ty, hx⟩ | ⟨m, a, xs, _, rfl, ty, _⟩ | ⟨m, a, xs, _, rfl, ty, _⟩ | ⟨a, rfl, ty, _⟩
  · exact ⟨_, ty, .inr ⟨by decide, rfl, fun x z => by cases z⟩⟩
  · exact ⟨_, ty, .inr ⟨by decide, rfl, fun x z => by cases z⟩⟩
  · exact ⟨_, ty, .inr ⟨by decide, rfl, fun x z => by cases z⟩⟩
  · exact ⟨_, ty, .inl ⟨x, rfl, rfl, hx⟩⟩
  · exact ⟨_, ty, .inr ⟨by decide, rfl, fun x z => by cases z⟩⟩
  · exact ⟨_, ty, .inr ⟨by decide, rfl, fun x z => by cases z⟩⟩
  · exact ⟨_, ty, .inr ⟨by decide, rfl, fun x z => by cases z⟩⟩

section
variable {P : Program} {w : World} {K : PySem.W.Frag} {mg : Str → Option Value} {base : Heap}
/-! ### is_name -/
theorem sc_is_name : FnScope ["thing"] ["thing"] (defScope (top 8)) := ⟨rfl, rfl, rfl, by decide +kernel, rfl, by decide +kernel, by decide +kernel⟩
def spIsName : Sp := fun vs H Q _ => ∃ (v : V) (p : Addr) (n : Nat), vs = [v] ∧ Dt p H n v ∧ ∀ H', Same H H' → Q (.bl (nmV v)) H'
/-- the signs so far -/
theorem take_one {x : Str} {i c : Nat} (h : x.cps[i]? = some c) : x.cps.toList.take (i + 1) = x.cps.toList.take i ++ [c] := by
  rw [List.take_add_one]
  congr 1
  rw [Array.getElem?_toList, h]
  rfl
theorem d_is_name (T : Txt w K mg) (S : Src K mg "is_name" (top 8) ["thing"]) : Def P w K mg base 1 "is_name" ["thing"] spIsName := by
  obtain ⟨tm, v_MOST_LETTERS⟩ := T.most
  refine S.ok sc_is_name (fun vs H Q E h => ?_) (fun f cdv A outer s H vs Q E hr h => ?_)
  · obtain ⟨v, p, n, rfl, _⟩ := h; rfl
  obtain ⟨v, p, n, rfl, hv, q⟩ := h
  refine ⟨_, (pss_cons (ps_if (pt_not (pt_val (pe_cB call_isi rfl T.z_isinstance bt_isinstance (pac (pv 0) (pac (pe_ty T.z_str bt_str rfl) pa_nil)))))
      (pss_one (ps_ret pe_bl)) pss_nil)
      (pss_one (ps_ret (pe_and (pe_chain op_le op_le pe_int (pe_cB call_len_str rfl T.z_len bt_len (pac (pv 0) pa_nil)) (pe_glob (v := .int (6)) rfl v_MOST_LETTERS ⟨_, rfl⟩)) (pe_one (pe_cB (call_all_bl rfl) rfl T.z_all bt_all (pac (pe_comp (N' := ["sign"]) (comp_scope (defScope (top 8)) (by rfl) (by decide +kernel) (by decide +kernel) (by decide +kernel) (by decide +kernel) (by decide +kernel) (by decide +kernel)) rfl (capt 1 [] (by rfl) (by rfl) (by decide +kernel)) (pi_str (pv 0)) (fun _ _ _ => pg_name (i := 0) (show (["sign"] : List Str).Nodup by decide +kernel) rfl (Or.inl rfl) (Or.inr rfl)) (fun _ _ _ => pifs_nil) (fun _ _ _ => (pe_chain op_le_str op_le_str pe_str (pv 0) pe_str))) pa_nil))))))), ?_⟩
  obtain ⟨t, ty, ⟨x, rfl, rfl, hx⟩ | ⟨hf, hn, _⟩⟩ := hv.strOr
  · refine ⟨_, rfl, _, "str", _, rfl, ty, by simp, _, rfl, ifF (by decide) ?_⟩
    have l3 : (100 : Nat) < sizeLine := by decide
    have hcl : x.cps.toList.length = x.length := by simp [Str.length]
    refine ⟨_, rfl, x, rfl, by omega, _, _, rfl, rfl, _, rfl, ite2 (fun c1 => ?_) (fun c1 => ?_)⟩
    · refine ⟨_, _, rfl, rfl, _, rfl, ite2 (fun c2 => ?_) (fun c2 => ?_)⟩
      · refine ⟨_, rfl, x, rfl, fun acc hacc => ?_⟩
        refine ⟨fun i m σ2 ys H2 => m = x.cps.size - i ∧ i ≤ x.cps.size ∧ (∃ x0, σ2 = [x0]) ∧ ys = ((x.cps.toList.take i).map small).map V.bl ∧ H2 acc = some (.lst ys) ∧ Same H H2, ⟨_, rfl, Nat.zero_le _, ⟨_, rfl⟩, rfl, upd_same, same_of_new hacc _⟩, ?_⟩
        rintro i m σ2 ys H2 ⟨rfl, hi, ⟨x0, rfl⟩, rfl, ha, sm⟩
        refine ⟨ha, ?_⟩
        by_cases hlt : i < x.cps.size
        · refine .inr ⟨hlt, (by rw [List.length_map, List.length_map, List.length_take]; omega), ?_⟩
          rintro v H3 ⟨rfl, c, hc, rfl⟩
          have fin : ∀ b : Bool, b = small c → H3 acc = some (.lst (((x.cps.toList.take i).map small).map V.bl)) ∧ ∃ m', m' < x.cps.size - i ∧ m' = x.cps.size - (i + 1) ∧ i + 1 ≤ x.cps.size ∧ (∃ x0, [some (V.str ⟨#[c]⟩)] = [x0]) ∧
              ((x.cps.toList.take i).map small).map V.bl ++ [V.bl b] = ((x.cps.toList.take (i + 1)).map small).map V.bl ∧ (upd H3 acc (.lst (((x.cps.toList.take i).map small).map V.bl ++ [V.bl b]))) acc = some (.lst (((x.cps.toList.take i).map small).map V.bl ++ [V.bl b])) ∧ Same H (upd H3 acc (.lst (((x.cps.toList.take i).map small).map V.bl ++ [V.bl b]))) := fun b hb => by
            refine ⟨ha, _, by omega, rfl, hlt, ⟨_, rfl⟩, ?_, upd_same, fun b' o hb' => ?_⟩
            · rw [take_one hc, List.map_append, List.map_append, hb]; rfl
            · rw [upd_ne (ne_of_none hb' hacc)]; exact sm _ _ hb'
          refine ⟨_, rfl, _, _, rfl, rfl, _, rfl, ite2 (fun d1 => ?_) (fun d1 => ?_)⟩
          · rw [le_a] at d1
            refine ⟨_, _, rfl, rfl, ?_⟩
            refine fin _ ?_
            rw [le_z]
            unfold small
            rw [d1, Bool.true_and]
          · rw [le_a] at d1
            refine fin _ ?_
            unfold small
            rw [Bool.eq_false_iff.mpr d1, Bool.false_and]
        · have e : i = x.cps.size := by omega
          subst e
          refine .inl ⟨rfl, acc, (x.cps.toList.take x.cps.size).map small, rfl, SqL.of ha, ?_⟩
          have ez : nmV (.str x) = ((x.cps.toList.take x.cps.size).map small).all id := by
            show nmS x = _
            unfold nmS
            have hl1 : 1 ≤ x.length ∧ x.length ≤ 6 := by
              have a1 := of_decide_eq_true c1
              have a2 := of_decide_eq_true c2
              omega
            rw [decide_eq_true hl1, Bool.true_and, List.all_map, show x.cps.toList.take x.cps.size = x.cps.toList by rw [← Array.length_toList, List.take_length]]
            rfl
          rw [← ez]
          exact q _ sm
      · have c2' := Bool.eq_false_iff.mpr c2
        have ez : nmV (.str x) = false := by
          show nmS x = _
          unfold nmS
          rw [decide_eq_false (fun z => (of_decide_eq_false c2') (by omega)), Bool.false_and]
        rw [← ez]
        exact q _ (Same.refl H)
    · have c1' := Bool.eq_false_iff.mpr c1
      have ez : nmV (.str x) = false := by
        show nmS x = _
        unfold nmS
        rw [decide_eq_false (fun z => (of_decide_eq_false c1') (by omega)), Bool.false_and]
      refine ⟨_, rfl, iteF ?_⟩
      rw [← ez]
      exact q _ (Same.refl H)
  · refine ⟨_, rfl, _, "str", _, rfl, ty, by simp, _, rfl, ifT (by rw [hf]; rfl) ?_⟩
    have z := q H (Same.refl H)
    rw [hn] at z
    exact z
end
end K01

set_option Elab.async false
set_option linter.all false
set_option maxRecDepth 100000
set_option maxHeartbeats 4000000
namespace K01
open PySem L2
seal L2.PE L2.PS L2.PSs L2.PT L2.PW L2.PA L2.PG L2.PGs L2.PI L2.PO L2.PIfs L2.PC L2.OpR L2.CallR L2.IxR L2.SlR L2.PSet L2.UnR
section
variable {P : Program} {w : World} {K : PySem.W.Frag} {mg : Str → Option Value} {base : Heap}
/-! ### is_number -/
def wholeV (lo hi : Int) : V → Bool
  | .int i => decide (lo ≤ i) && decide (i ≤ hi)
  | _ => false
theorem Dt.intOr {p : Addr} {H : Hp} {n : Nat} {v : V} (h : Dt p H n v) : ∃ t, tyN H v = some t ∧ ((∃ i : Int, v = .int i ∧ t = "int") ∨ ((numV v = false ∧ ∀ lo hi, wholeV lo hi v = false) ∧ ((isiB t "bool" = true) ∨ (isiB t "bool" = false ∧ isiB t "int" = false)))) := by
  rcases h.kind with ⟨rfl, ty⟩ | ⟨b, rfl, ty⟩ | ⟨i, rfl, ty⟩ | ⟨x, rfl, ty, hx⟩ | ⟨m, a, xs, _, rfl, ty, _⟩ | ⟨m, a, xs, _, rfl, ty, _⟩ | ⟨a, rfl, ty, _⟩
  · exact ⟨_, ty, .inr ⟨⟨rfl, fun _ _ => rfl⟩, .inr ⟨by decide, by decide⟩⟩⟩
  · exact ⟨_, ty, .inr ⟨⟨rfl, fun _ _ => rfl⟩, .inl (by decide)⟩⟩
  · exact ⟨_, ty, .inl ⟨i, rfl, rfl⟩⟩
  · exact ⟨_, ty, .inr ⟨⟨rfl, fun _ _ => rfl⟩, .inr ⟨by decide, by decide⟩⟩⟩
  · exact ⟨_, ty, .inr ⟨⟨rfl, fun _ _ => rfl⟩, .inr ⟨by decide, by decide⟩⟩⟩
  · exact ⟨_, ty, .inr ⟨⟨rfl, fun _ _ => rfl⟩, .inr ⟨by decide, by decide⟩⟩⟩
  · exact ⟨_, ty, .inr ⟨⟨rfl, fun _ _ => rfl⟩, .inr ⟨by decide, by decide⟩⟩⟩
theorem sc_is_whole : FnScope ["thing", "least", "most"] ["thing", "least", "most"] (defScope (top 9)) := ⟨rfl, rfl, rfl, by decide +kernel, rfl, by decide +kernel, by decide +kernel⟩
def spWhole : Sp := fun vs H Q _ => ∃ (v : V) (p : Addr) (n : Nat) (lo hi : Int), vs = [v, .int lo, .int hi] ∧ Dt p H n v ∧ Q (.bl (wholeV lo hi v)) H
theorem d_is_whole (T : Txt w K mg) (S : Src K mg "is_whole" (top 9) ["thing", "least", "most"]) : Def P w K mg base 1 "is_whole" ["thing", "least", "most"] spWhole := by
  refine S.ok sc_is_whole (fun vs H Q E h => ?_) (fun f cdv A outer s H vs Q E hr h => ?_)
  · obtain ⟨v, p, n, lo, hi, rfl, _⟩ := h; rfl
  obtain ⟨v, p, n, lo, hi, rfl, hv, q⟩ := h
  refine ⟨_, (pss_cons (ps_if (pt_cut (PW.pt (pw_or (pt_val (pe_cB call_isi rfl T.z_isinstance bt_isinstance (pac (pv 0) (pac (pe_ty T.z_bool bt_bool rfl) pa_nil)))) (pw_or1 (pt_not (pt_val (pe_cB call_isi rfl T.z_isinstance bt_isinstance (pac (pv 0) (pac (pe_ty T.z_int bt_int rfl) pa_nil)))))))))
      (pss_one (ps_ret pe_bl)) pss_nil)
      (pss_one (ps_ret (pe_chain op_le op_le (pv 1) (pv 0) (pv 2))))), ?_⟩
  obtain ⟨t, ty, ⟨i, rfl, rfl⟩ | ⟨hn, hb | ⟨hb, hi'⟩⟩⟩ := hv.intOr
  · refine ⟨fun t H' => H = H' ∧ t = false, ?_, ?_⟩
    · exact ⟨_, rfl, _, "bool", _, rfl, ty, by simp, _, rfl, ifF (by decide) ⟨_, rfl, _, "int", _, rfl, ty, by simp, _, rfl, rfl, by decide⟩⟩
    rintro t H' ⟨rfl, rfl⟩
    refine ifF rfl ⟨_, rfl, _, rfl, _, _, rfl, rfl, _, rfl, ite2 (fun c1 => ?_) (fun c1 => ?_)⟩
    · refine ⟨_, rfl, _, _, rfl, rfl, ?_⟩
      have e : wholeV lo hi (.int i) = decide (i ≤ hi) := by show (decide (lo ≤ i) && decide (i ≤ hi)) = _; rw [c1, Bool.true_and]
      rw [e] at q
      exact q
    · have e : wholeV lo hi (.int i) = false := by show (decide (lo ≤ i) && decide (i ≤ hi)) = _; rw [Bool.eq_false_iff.mpr c1, Bool.false_and]
      rw [e] at q
      exact q
  · refine ⟨fun t H' => H = H' ∧ t = true, ⟨_, rfl, _, "bool", _, rfl, ty, by simp, _, rfl, ifT hb ⟨rfl, rfl⟩⟩, ?_⟩
    rintro t H' ⟨rfl, rfl⟩
    rw [hn.2 lo hi] at q
    exact ifT rfl q
  · refine ⟨fun t H' => H = H' ∧ t = true, ⟨_, rfl, _, "bool", _, rfl, ty, by simp, _, rfl, ifF hb ⟨_, rfl, _, "int", _, rfl, ty, by simp, _, rfl, rfl, by rw [hi']; rfl⟩⟩, ?_⟩
    rintro t H' ⟨rfl, rfl⟩
    rw [hn.2 lo hi] at q
    exact ifT rfl q
theorem sc_is_number : FnScope ["thing"] ["thing"] (defScope (top 10)) := ⟨rfl, rfl, rfl, by decide +kernel, rfl, by decide +kernel, by decide +kernel⟩
def spIsNum : Sp := fun vs H Q _ => ∃ (v : V) (p : Addr) (n : Nat), vs = [v] ∧ Dt p H n v ∧ Q (.bl (numV v)) H
theorem num_whole (v : V) : wholeV 0 999999 v = numV v := by cases v <;> rfl
theorem d_is_number (T : Txt w K mg) (D_is_whole : Def P w K mg base 1 "is_whole" ["thing", "least", "most"] spWhole) (S : Src K mg "is_number" (top 10) ["thing"]) : Def P w K mg base 2 "is_number" ["thing"] spIsNum := by
  obtain ⟨tm, v_GREATEST⟩ := T.great
  refine S.ok sc_is_number (fun vs H Q E h => ?_) (fun f cdv A outer s H vs Q E hr h => ?_)
  · obtain ⟨v, p, n, rfl, _⟩ := h; rfl
  obtain ⟨v, p, n, rfl, hv, q⟩ := h
  refine ⟨_, (pss_one (ps_ret (pe_def (D_is_whole) hr rfl (pac (pv 0) (pac pe_int (pac (pe_glob (v := .int (999999)) rfl v_GREATEST ⟨_, rfl⟩) pa_nil)))))), ?_⟩
  rw [← num_whole] at q
  exact ⟨_, rfl, v, p, n, 0, 999999, rfl, hv, q⟩
theorem sc_lnumber : FnScope ["_law_thing_here"] ["_law_thing_here"] (defScope (top 21)) := ⟨rfl, rfl, rfl, by decide +kernel, rfl, by decide +kernel, by decide +kernel⟩
theorem d_lnumber (T : Txt w K mg) (S : Src K mg "_law_is_number" (top 21) ["_law_thing_here"]) : Def P w K mg base 1 "_law_is_number" ["_law_thing_here"] spIsNum := by
  refine S.ok sc_lnumber (fun vs H Q E h => ?_) (fun f cdv A outer s H vs Q E hr h => ?_)
  · obtain ⟨v, p, n, rfl, _⟩ := h; rfl
  obtain ⟨v, p, n, rfl, hv, q⟩ := h
  refine ⟨_, (pss_one (ps_ret (pe_and (pe_cB call_isi rfl T.z_isinstance bt_isinstance (pac (pv 0) (pac (pe_ty T.z_int bt_int rfl) pa_nil))) (pe_and (pe_not (pe_cB call_isi rfl T.z_isinstance bt_isinstance (pac (pv 0) (pac (pe_ty T.z_bool bt_bool rfl) pa_nil)))) (pe_one (pe_chain op_le op_lt pe_int (pv 0) pe_int)))))), ?_⟩
  obtain ⟨t, ty, ⟨i, rfl, rfl⟩ | ⟨hn, hb | ⟨hb, hi⟩⟩⟩ := hv.intOr
  · refine ⟨_, rfl, _, "int", _, rfl, ty, by simp, _, rfl, ifT (by decide) ?_⟩
    refine ⟨_, rfl, _, "bool", _, rfl, ty, by simp, _, rfl, _, rfl, ifT (by decide) ?_⟩
    refine ⟨_, rfl, _, _, rfl, rfl, _, rfl, ite2 (fun c1 => ?_) (fun c1 => ?_)⟩
    · refine ⟨_, _, rfl, rfl, ?_⟩
      have e : numV (.int i) = decide (i < 1000000) := by
        show (decide (0 ≤ i) && decide (i ≤ 999999)) = _
        rw [c1, Bool.true_and]
        by_cases h : i ≤ 999999
        · rw [decide_eq_true h, decide_eq_true (by omega)]
        · rw [decide_eq_false h, decide_eq_false (by omega)]
      rw [e] at q
      exact q
    · have e : numV (.int i) = false := by show (decide (0 ≤ i) && decide (i ≤ 999999)) = _; rw [Bool.eq_false_iff.mpr c1, Bool.false_and]
      rw [e] at q
      exact q
  · rw [hn.1] at q
    have hi : isiB t "int" = true := by
      have hc : t ∈ ["NoneType", "bool", "int", "str", "list", "tuple", "dict"] := tyN_mem ty
      simp only [List.mem_cons, List.not_mem_nil, or_false] at hc
      rcases hc with rfl | rfl | rfl | rfl | rfl | rfl | rfl <;> first | decide | exact absurd hb (by decide)
    exact ⟨_, rfl, _, "int", _, rfl, ty, by simp, _, rfl, ifT hi ⟨_, rfl, _, "bool", _, rfl, ty, by simp, _, rfl, _, rfl, ifF (by rw [hb]; rfl) q⟩⟩
  · rw [hn.1] at q
    exact ⟨_, rfl, _, "int", _, rfl, ty, by simp, _, rfl, ifF hi q⟩

/-! ### _law_is_name -/
theorem sc_lname : FnScope ["_law_thing_here"] ["_law_thing_here"] (defScope (top 20)) := ⟨rfl, rfl, rfl, by decide +kernel, rfl, by decide +kernel, by decide +kernel⟩
theorem d_lname (T : Txt w K mg) (S : Src K mg "_law_is_name" (top 20) ["_law_thing_here"]) : Def P w K mg base 1 "_law_is_name" ["_law_thing_here"] spIsName := by
  refine S.ok sc_lname (fun vs H Q E h => ?_) (fun f cdv A outer s H vs Q E hr h => ?_)
  · obtain ⟨v, p, n, rfl, _⟩ := h; rfl
  obtain ⟨v, p, n, rfl, hv, q⟩ := h
  refine ⟨_, (pss_cons (ps_if (pt_cut (PW.pt (pw_or (pt_not (pt_val (pe_cB call_isi rfl T.z_isinstance bt_isinstance (pac (pv 0) (pac (pe_ty T.z_str bt_str rfl) pa_nil))))) (pw_or1 (pt_not (pt_chain op_le op_le pe_int (pe_cB call_len_str rfl T.z_len bt_len (pac (pv 0) pa_nil)) pe_int))))))
      (pss_one (ps_ret pe_bl)) pss_nil)
      (pss_one (ps_ret (pe_cmpR (op_eqL0 hr.units0) (pe_comp (N' := ["_law_sign"]) (comp_scope (defScope (top 20)) (by rfl) (by decide +kernel) (by decide +kernel) (by decide +kernel) (by decide +kernel) (by decide +kernel) (by decide +kernel)) rfl (capt 1 [] (by rfl) (by rfl) (by decide +kernel)) (pi_str (pv 0)) (fun _ _ _ => pg_name (i := 0) (show (["_law_sign"] : List Str).Nodup by decide +kernel) rfl (Or.inl rfl) (Or.inr rfl)) (fun _ _ _ => pifs_one (pt_cmpR op_notin_str (pv 0) pe_str (by rfl))) (fun _ _ _ => (pv 0))) (pe_lst pa_nil) (nomark _))))), ?_⟩
  have l3 : (100 : Nat) < sizeLine := by decide
  refine ⟨fun t H' => H = H' ∧ ((t = true ∧ nmV v = false) ∨ (t = false ∧ ∃ x : Str, v = .str x ∧ x.length ≤ 100 ∧ 1 ≤ x.length ∧ x.length ≤ 6)), ?_, ?_⟩
  · obtain ⟨t, ty, ⟨x, rfl, rfl, hx⟩ | ⟨hf, hn, _⟩⟩ := hv.strOr
    · refine ⟨_, rfl, _, "str", _, rfl, ty, by simp, _, rfl, ifF (by decide) ?_⟩
      refine ⟨_, rfl, x, rfl, by omega, _, _, rfl, rfl, _, rfl, ite2 (fun c1 => ?_) (fun c1 => ?_)⟩
      · refine ⟨_, _, rfl, rfl, _, rfl, rfl, ?_⟩
        have a1 := of_decide_eq_true c1
        by_cases h6 : ((x.length : Nat) : Int) ≤ 6
        · exact .inr ⟨by rw [decide_eq_true h6]; rfl, x, rfl, hx, by omega, by omega⟩
        · refine .inl ⟨by rw [decide_eq_false h6]; rfl, ?_⟩
          show nmS x = _
          unfold nmS
          rw [decide_eq_false (by omega), Bool.false_and]
      · refine ⟨_, rfl, rfl, .inl ⟨rfl, ?_⟩⟩
        have a1 := of_decide_eq_false (Bool.eq_false_iff.mpr c1)
        show nmS x = _
        unfold nmS
        rw [decide_eq_false (by omega), Bool.false_and]
    · exact ⟨_, rfl, _, "str", _, rfl, ty, by simp, _, rfl, ifT (by rw [hf]; rfl) ⟨rfl, .inl ⟨rfl, hn⟩⟩⟩
  rintro t H' ⟨rfl, ⟨rfl, hn⟩ | ⟨rfl, x, rfl, hx, h1, h6⟩⟩
  · have z := q H (Same.refl H)
    rw [hn] at z
    exact ifT rfl z
  refine ifF rfl ?_
  have hcl : x.cps.toList.length = x.length := by simp [Str.length]
  let sg : Nat → V := fun c => .str ⟨#[c]⟩
  refine ⟨_, rfl, x, rfl, fun acc hacc => ?_⟩
  refine ⟨fun i m σ2 ys H2 => m = x.cps.size - i ∧ i ≤ x.cps.size ∧ (∃ x0, σ2 = [x0]) ∧ ys = ((x.cps.toList.take i).filter fun c => !small c).map sg ∧ H2 acc = some (.lst ys) ∧ Same H H2, ⟨_, rfl, Nat.zero_le _, ⟨_, rfl⟩, rfl, upd_same, same_of_new hacc _⟩, ?_⟩
  rintro i m σ2 ys H2 ⟨rfl, hi, ⟨x0, rfl⟩, rfl, ha, sm⟩
  refine ⟨ha, ?_⟩
  by_cases hlt : i < x.cps.size
  · refine .inr ⟨hlt, ?_, ?_⟩
    · rw [List.length_map]
      have := List.length_filter_le (fun c => !small c) (x.cps.toList.take i)
      rw [List.length_take] at this
      omega
    rintro v H3 ⟨rfl, c, hc, rfl⟩
    refine ⟨_, rfl, _, _, rfl, rfl, _, rfl, ?_⟩
    have eo : (!(!(Builtin.Str.occurrences abc ⟨#[c]⟩ 0 abc.length 1).isEmpty)) = !small c := by rw [occ_abc]
    refine ite2 (fun d1 => ?_) (fun d1 => ?_)
    · have d1' : (!small c) = true := by rw [← eo]; exact d1
      refine ⟨_, rfl, ha, _, (by omega : x.cps.size - (i + 1) < x.cps.size - i), rfl, hlt, ⟨_, rfl⟩, ?_, upd_same, fun b' o hb' => ?_⟩
      · rw [take_one hc, List.filter_append, List.map_append]
        congr 1
        rw [List.filter_cons, if_pos d1']
        rfl
      · rw [upd_ne (ne_of_none hb' hacc)]; exact sm _ _ hb'
    · have d1' : ¬ (!small c) = true := by rw [← eo]; exact d1
      refine ⟨_, (by omega : x.cps.size - (i + 1) < x.cps.size - i), rfl, hlt, ⟨_, rfl⟩, ?_, ha, sm⟩
      rw [take_one hc, List.filter_append, List.filter_cons, if_neg d1']
      simp
  · have e : i = x.cps.size := by omega
    subst e
    refine .inl ⟨rfl, ?_⟩
    refine ⟨(by show 0 ≤ sizeLine; decide), fun b hb => ?_⟩
    have s2 := same_of_new hb (.lst [])
    refine ⟨acc, b, _, rfl, rfl, SqL.of (s2 _ _ ha), SqL.of upd_same, ?_⟩
    have et : x.cps.toList.take x.cps.size = x.cps.toList := by rw [← Array.length_toList, List.take_length]
    have ez : nmV (.str x) = (((x.cps.toList.take x.cps.size).filter fun c => !small c).map sg).isEmpty := by
      show nmS x = _
      unfold nmS
      rw [decide_eq_true ⟨h1, h6⟩, Bool.true_and, et]
      rw [Bool.eq_iff_iff, List.all_eq_true, List.isEmpty_iff, List.map_eq_nil_iff, List.filter_eq_nil_iff]
      constructor
      · intro h c hc; rw [h c hc]; decide
      · intro h c hc
        have := h c hc
        simpa using this
    rw [← ez]
    exact q _ (sm.trans s2)

/-! ### _law_among, _law_same -/
def inN (ns : List Str) : V → Bool
  | .str s => (ns.map V.str).any fun y => eqV y (.str s)
  | _ => false
theorem sc_among : FnScope ["_law_thing_here", "_law_names_here"] ["_law_thing_here", "_law_names_here"] (defScope (top 22)) := ⟨rfl, rfl, rfl, by decide +kernel, rfl, by decide +kernel, by decide +kernel⟩
def spAmong : Sp := fun vs H Q _ => ∃ (v : V) (b p : Addr) (n : Nat) (ns : List Str), vs = [v, .ref b] ∧ Dt p H n v ∧ H b = some (.lst (ns.map V.str)) ∧ Q (.bl (inN ns v)) H
theorem flat_strs (ns : List Str) : (ns.map V.str).all flatV = true := by
  rw [List.all_eq_true]
  intro x hx
  obtain ⟨y, _, rfl⟩ := List.mem_map.mp hx
  rfl
theorem inN_no {ns : List Str} {v : V} (h : ∀ x, v ≠ .str x) : inN ns v = false := by
  cases v with
  | str x => exact absurd rfl (h x)
  | _ => rfl
theorem d_among (T : Txt w K mg) (S : Src K mg "_law_among" (top 22) ["_law_thing_here", "_law_names_here"]) : Def P w K mg base 1 "_law_among" ["_law_thing_here", "_law_names_here"] spAmong := by
  refine S.ok sc_among (fun vs H Q E h => ?_) (fun f cdv A outer s H vs Q E hr h => ?_)
  · obtain ⟨v, b, p, n, ns, rfl, _⟩ := h; rfl
  obtain ⟨v, b, p, n, ns, rfl, hv, hb, q⟩ := h
  refine ⟨_, (pss_one (ps_ret (pe_and (pe_cB call_isi rfl T.z_isinstance bt_isinstance (pac (pv 0) (pac (pe_ty T.z_str bt_str rfl) pa_nil))) (pe_one (pe_cmpR op_in_seq (pv 0) (pv 1) (by rfl)))))), ?_⟩
  obtain ⟨t, ty, ⟨x, rfl, rfl, hx⟩ | ⟨hf, hn, hno⟩⟩ := hv.strOr
  · exact ⟨_, rfl, _, "str", _, rfl, ty, by simp, _, rfl, ifT (by decide) ⟨_, rfl, _, rfl, b, _, rfl, .inl (SqL.of hb), rfl, flat_strs ns, q⟩⟩
  · rw [inN_no hno] at q
    exact ⟨_, rfl, _, "str", _, rfl, ty, by simp, _, rfl, ifF hf q⟩
theorem sc_same : FnScope ["_law_found", "_law_due"] ["_law_found", "_law_due"] (defScope (top 26)) := ⟨rfl, rfl, rfl, by decide +kernel, rfl, by decide +kernel, by decide +kernel⟩
def spSame : Sp := fun vs H Q _ => ∃ (b : Bool), vs = [.bl b, .bl b] ∧ Q (.bl true) H
theorem d_same (T : Txt w K mg) (S : Src K mg "_law_same" (top 26) ["_law_found", "_law_due"]) : Def P w K mg base 1 "_law_same" ["_law_found", "_law_due"] spSame := by
  refine S.ok sc_same (fun vs H Q E h => ?_) (fun f cdv A outer s H vs Q E hr h => ?_)
  · obtain ⟨b, rfl, _⟩ := h; rfl
  obtain ⟨b, rfl, q⟩ := h
  refine ⟨_, (pss_one (ps_ret (pe_and (pe_cB call_isi rfl T.z_isinstance bt_isinstance (pac (pv 0) (pac (pe_ty T.z_bool bt_bool rfl) pa_nil))) (pe_one (pe_cmpR op_eq (pv 0) (pv 1) (nomark _)))))), ?_⟩
  refine ⟨_, rfl, _, "bool", _, rfl, rfl, by simp, _, rfl, ifT (by decide) ⟨_, rfl, _, rfl, rfl, ?_⟩⟩
  have e : decide (V.bl b = V.bl b) = true := decide_eq_true rfl
  rw [e]
  exact q
end
end K01

set_option Elab.async false
set_option linter.all false
set_option maxRecDepth 100000
set_option maxHeartbeats 4000000
namespace K01
open PySem L2
seal L2.PE L2.PS L2.PSs L2.PT L2.PW L2.PA L2.PG L2.PGs L2.PI L2.PO L2.PIfs L2.PC L2.OpR L2.CallR L2.IxR L2.SlR L2.PSet L2.UnR

/-! ### what a value is -/
def tupAt (H : Hp) : V → Option (List V)
  | .ref a => match H a with
    | some (.tup xs) => some xs
    | _ => none
  | _ => none
def isPt (bs ls : List Str) (rec : V → Bool) (kind : Str) (x : V) : Bool :=
  if kind = "number" then numV x else if kind = "box" then inN bs x else if kind = "list" then inN ls x else rec x
def isVal (H : Hp) (bs ls : List Str) : Nat → V → Bool
  | 0, _ => false
  | k + 1, v => match tupAt H v with
    | some (.str x :: rest) => match forms x with
      | some ks => decide (rest.length = ks.length) && (ks.zip rest).all fun p => isPt bs ls (isVal H bs ls k) p.1 p.2
      | none => false
    | _ => false
theorem tupAt_tup {H : Hp} {a : Addr} {xs : List V} (h : H a = some (.tup xs)) : tupAt H (.ref a) = some xs := by
  unfold tupAt; dsimp only; rw [h]
theorem isVal_cons {H : Hp} {bs ls : List Str} {k : Nat} {a : Addr} {x : Str} {rest : List V} (h : H a = some (.tup (.str x :: rest))) : isVal H bs ls (k + 1) (.ref a) = (match forms x with
      | some ks => decide (rest.length = ks.length) && (ks.zip rest).all fun p => isPt bs ls (isVal H bs ls k) p.1 p.2
      | none => false) := by
  show (match tupAt H (.ref a) with
    | some (.str x :: rest) => match forms x with
      | some ks => decide (rest.length = ks.length) && (ks.zip rest).all fun p => isPt bs ls (isVal H bs ls k) p.1 p.2
      | none => false
    | _ => false) = _
  rw [tupAt_tup h]
theorem isVal_nil {H : Hp} {bs ls : List Str} {k : Nat} {a : Addr} (h : H a = some (.tup [])) : isVal H bs ls k (.ref a) = false := by
  cases k with
  | zero => rfl
  | succ k =>
    show (match tupAt H (.ref a) with
      | some (.str x :: rest) => match forms x with
        | some ks => decide (rest.length = ks.length) && (ks.zip rest).all fun p => isPt bs ls (isVal H bs ls k) p.1 p.2
        | none => false
      | _ => false) = _
    rw [tupAt_tup h]
theorem isVal_odd {H : Hp} {bs ls : List Str} {k : Nat} {a : Addr} {y : V} {rest : List V} (h : H a = some (.tup (y :: rest))) (hy : ∀ x, y ≠ .str x) : isVal H bs ls k (.ref a) = false := by
  cases k with
  | zero => rfl
  | succ k =>
    show (match tupAt H (.ref a) with
      | some (.str x :: rest) => match forms x with
        | some ks => decide (rest.length = ks.length) && (ks.zip rest).all fun p => isPt bs ls (isVal H bs ls k) p.1 p.2
        | none => false
      | _ => false) = _
    rw [tupAt_tup h]
    cases y with
    | str x => exact absurd rfl (hy x)
    | _ => rfl
theorem isVal_none {H : Hp} {bs ls : List Str} {k : Nat} {v : V} (h : tupAt H v = none) : isVal H bs ls k v = false := by
  cases k with
  | zero => rfl
  | succ k =>
    show (match tupAt H v with
      | some (.str x :: rest) => match forms x with
        | some ks => decide (rest.length = ks.length) && (ks.zip rest).all fun p => isPt bs ls (isVal H bs ls k) p.1 p.2
        | none => false
      | _ => false) = _
    rw [h]
theorem all_congr {α : Type} {f g : α → Bool} : ∀ {l : List α}, (∀ x ∈ l, f x = g x) → l.all f = l.all g
  | [], _ => rfl
  | x :: r, h => by rw [List.all_cons, List.all_cons, h x List.mem_cons_self, all_congr fun y hy => h y (List.mem_cons_of_mem _ hy)]
/-- what is tracked stays: so does the answer -/
theorem isVal_same {p : Addr} {H H' : Hp} {bs ls : List Str} (e : Same H H') : ∀ {k n : Nat} {v : V}, Dt p H n v → isVal H' bs ls k v = isVal H bs ls k v
  | 0, _, _, _ => rfl
  | k + 1, n, v, h => by
    rcases h.kind with ⟨rfl, ty⟩ | ⟨b, rfl, ty⟩ | ⟨i, rfl, ty⟩ | ⟨x, rfl, ty, hx⟩ | ⟨m, a, xs, _, rfl, ty, ha, _, hx⟩ | ⟨m, a, xs, _, rfl, ty, ha, _⟩ | ⟨a, rfl, ty, ha⟩
    · rfl
    · rfl
    · rfl
    · rfl
    · cases xs with
      | nil => rw [isVal_nil ha, isVal_nil (e _ _ ha)]
      | cons y rest =>
        by_cases hy : ∃ x, y = .str x
        · obtain ⟨x, rfl⟩ := hy
          rw [isVal_cons ha, isVal_cons (e _ _ ha)]
          cases forms x with
          | none => rfl
          | some ks =>
            dsimp only
            congr 1
            refine all_congr fun q hq => ?_
            have hm : q.2 ∈ rest := (List.of_mem_zip hq).2
            unfold isPt
            rw [isVal_same e (hx q.2 (List.mem_cons_of_mem _ hm))]
        · have hy' : ∀ x, y ≠ .str x := fun x z => hy ⟨x, z⟩
          rw [isVal_odd ha hy', isVal_odd (e _ _ ha) hy']
    · rw [isVal_none (H := H') (by unfold tupAt; dsimp only; rw [e _ _ ha]), isVal_none (H := H) (by unfold tupAt; dsimp only; rw [ha])]
    · rw [isVal_none (H := H') (by unfold tupAt; dsimp only; rw [e _ _ ha]), isVal_none (H := H) (by unfold tupAt; dsimp only; rw [ha])]
theorem forms_len {x : Str} {ks : List Str} (h : forms x = some ks) : 1 ≤ ks.length ∧ ks.length ≤ 2 := by
  unfold forms at h
  have go : ∀ {c : Prop} [Decidable c] {l : List Str} {r : Option (List Str)}, (if c then some l else r) = some ks → 1 ≤ l.length ∧ l.length ≤ 2 → (r = some ks → 1 ≤ ks.length ∧ ks.length ≤ 2) → 1 ≤ ks.length ∧ ks.length ≤ 2 := fun {c} _ {l} {r} h hl hr => by
    by_cases hc : c
    · rw [if_pos hc] at h
      injection h with h
      exact h ▸ hl
    · rw [if_neg hc] at h
      exact hr h
  have two : ∀ a b : Str, 1 ≤ [a, b].length ∧ [a, b].length ≤ 2 := fun _ _ => ⟨by simp, by simp⟩
  have one : ∀ a : Str, 1 ≤ [a].length ∧ [a].length ≤ 2 := fun _ => ⟨by simp, by simp⟩
  refine go h (one _) fun h => go h (one _) fun h => go h (two _ _) fun h => go h (two _ _) fun h => go h (two _ _) fun h => go h (two _ _) fun h => go h (two _ _) fun h => go h (two _ _) fun h => go h (two _ _) fun h => go h (one _) fun h => go h (two _ _) fun h => go h (one _) fun h => ?_
  cases h
/-- no tuple, or one without things: no value -/
theorem Dt.tupOr {p : Addr} {H : Hp} {n : Nat} {v : V} (h : Dt p H n v) : ∃ t, tyN H v = some t ∧ ((∃ (m : Nat) (a : Addr) (xs : List V), n = m + 1 ∧ v = .ref a ∧ t = "tuple" ∧ H a = some (.tup xs) ∧ xs.length ≤ 10 ∧ ∀ x ∈ xs, Dt p H m x) ∨ (isiB t "tuple" = false ∧ tupAt H v = none)) := by
  rcases h.kind with ⟨rfl, ty⟩ | ⟨b, rfl, ty⟩ | ⟨i, rfl, ty⟩ | ⟨x, rfl, ty, hx⟩ | ⟨m, a, xs, r1, rfl, ty, ha, hl, hx⟩ | ⟨m, a, xs, _, rfl, ty, ha, _⟩ | ⟨a, rfl, ty, ha⟩
  · exact ⟨_, ty, .inr ⟨by decide, rfl⟩⟩
  · exact ⟨_, ty, .inr ⟨by decide, rfl⟩⟩
  · exact ⟨_, ty, .inr ⟨by decide, rfl⟩⟩
  · exact ⟨_, ty, .inr ⟨by decide, rfl⟩⟩
  · exact ⟨_, ty, .inl ⟨m, a, xs, r1, rfl, rfl, ha, hl, hx⟩⟩
  · exact ⟨_, ty, .inr ⟨by decide, by unfold tupAt; dsimp only; rw [ha]⟩⟩
  · exact ⟨_, ty, .inr ⟨by decide, by unfold tupAt; dsimp only; rw [ha]⟩⟩
theorem inN_nm {ns : List Str} {v : V} (h : ∀ x ∈ ns, nmS x = true) (hv : nmV v = false) : inN ns v = false := by
  cases v with
  | str s =>
    show (ns.map V.str).any _ = false
    rw [List.any_eq_false]
    intro y hy
    obtain ⟨z, hz, rfl⟩ := List.mem_map.mp hy
    intro e
    have e' : z = s := by
      have : (z == s) = true := e
      simpa using this
    have := h z hz
    rw [e'] at this
    have hv' : nmS s = false := hv
    rw [hv'] at this
    cases this
  | _ => rfl
theorem nm_str {v : V} (h : nmV v = true) : ∃ x, v = .str x := by
  cases v with
  | str s => exact ⟨s, rfl⟩
  | _ => cases h
theorem Same.seqT {K : PySem.W.Frag} {H H' : Hp} {a : Addr} {xs : List V} (e : Same H H') (h : SqT K H a xs) : SqT K H' a xs := by
  rcases h with (h | ⟨o, h⟩) | h
  · exact .inl (.inl (e _ _ h))
  · exact .inl (.inr ⟨o, e _ _ h⟩)
  · exact .inr h
theorem cut_tail (y : V) (ys : List V) : cutV (y :: ys) (some 1) none = ys := by
  unfold cutV
  have e1 : HT.sIx (y :: ys).length 0 (some 1) = 1 := by
    have := HT.sIx_nat (y :: ys).length 0 1
    rw [show (some (1 : Int)) = some ((1 : Nat) : Int) from rfl, this, List.length_cons]
    omega
  rw [e1, HT.sIx_none]
  simp

/-! ### the promises -/
def spWithin (k : Nat) : Sp := fun vs H Q _ => ∃ (v : V) (b l : Addr) (d : Int) (p : Addr) (n : Nat) (bs ls : List Str), vs = [v, .ref b, .ref l, .int d] ∧ d = (k : Int) ∧ Dt p H n v ∧ H b = some (.lst (bs.map V.str)) ∧ H l = some (.lst (ls.map V.str)) ∧ (∀ x ∈ bs, nmS x = true) ∧ (∀ x ∈ ls, nmS x = true) ∧
  ∀ H', Same H H' → Q (.bl (isVal H bs ls k v)) H'
def spPart (k : Nat) : Sp := fun vs H Q _ => ∃ (kind : Str) (v : V) (b l : Addr) (d : Int) (k' : Nat) (p : Addr) (n : Nat) (bs ls : List Str), vs = [.str kind, v, .ref b, .ref l, .int d] ∧ k = k' + 1 ∧ d = (k' : Int) ∧ Dt p H n v ∧ H b = some (.lst (bs.map V.str)) ∧ H l = some (.lst (ls.map V.str)) ∧
  (∀ x ∈ bs, nmS x = true) ∧ (∀ x ∈ ls, nmS x = true) ∧ ∀ H', Same H H' → Q (.bl (isPt bs ls (isVal H bs ls k') kind v)) H'

section
variable {P : Program} {w : World} {K : PySem.W.Frag} {mg : Str → Option Value} {base : Heap}
/-! ### is_part -/
theorem sc_is_part : FnScope ["kind", "part", "boxes", "lists", "depth"] ["kind", "part", "boxes", "lists", "depth"] (defScope (top 13)) := ⟨rfl, rfl, rfl, by decide +kernel, rfl, by decide +kernel, by decide +kernel⟩
theorem d_part {k j : Nat} (T : Txt w K mg) (D_is_name : Def P w K mg base 1 "is_name" ["thing"] spIsName) (D_is_number : Def P w K mg base 2 "is_number" ["thing"] spIsNum) (S : Src K mg "is_part" (top 13) ["kind", "part", "boxes", "lists", "depth"])
    (D_within : Def P w K mg base (j + 2) "is_value_within" ["thing", "boxes", "lists", "depth"] (spWithin k)) : Def P w K mg base (j + 3) "is_part" ["kind", "part", "boxes", "lists", "depth"] (spPart (k + 1)) := by
  refine S.ok sc_is_part (fun vs H Q E h => ?_) (fun f cdv A outer s H vs Q E hr h => ?_)
  · obtain ⟨kind, v, b, l, d, k', p, n, bs, ls, rfl, _⟩ := h; rfl
  obtain ⟨kind, v, b, l, d, k', p, n, bs, ls, rfl, hk, rfl, hv, hb, hl, hbs, hls, q⟩ := h
  obtain rfl : k = k' := by omega
  refine ⟨_, (pss_cons (ps_if (pt_cmpR op_eq (pv 0) pe_str (nomark _))
      (pss_one (ps_ret (pe_def (D_is_number.mono (Nat.le_add_left 2 _)) hr rfl (pac (pv 1) pa_nil)))) pss_nil)
      (pss_cons (ps_if (pt_cmpR op_eq (pv 0) pe_str (nomark _))
      (pss_one (ps_ret (pe_and (pe_def (D_is_name.mono (Nat.le_add_left 1 (_ + 1))) hr rfl (pac (pv 1) pa_nil)) (pe_one (pe_cmpR op_in_seq (pv 1) (pv 2) (by rfl)))))) pss_nil)
      (pss_cons (ps_if (pt_cmpR op_eq (pv 0) pe_str (nomark _))
      (pss_one (ps_ret (pe_and (pe_def (D_is_name.mono (Nat.le_add_left 1 (_ + 1))) hr rfl (pac (pv 1) pa_nil)) (pe_one (pe_cmpR op_in_seq (pv 1) (pv 3) (by rfl)))))) pss_nil)
      (pss_one (ps_ret (pe_def (D_within) hr rfl (pac (pv 1) (pac (pv 2) (pac (pv 3) (pac (pv 4) pa_nil)))))))))), ?_⟩
  have among : ∀ (ns : List Str) (c : Addr), H c = some (.lst (ns.map V.str)) → (∀ x ∈ ns, nmS x = true) → (∀ H', Same H H' → Q (.bl (inN ns v)) H') → ∀ H1, Same H H1 → (if nmV v = true then (∃ p' xs, V.ref c = .ref p' ∧ (SqL K H1 p' xs ∨ SqT K H1 p' xs) ∧ flatV v = true ∧ xs.all flatV = true ∧ Q (.bl (if false then !inV v xs else inV v xs)) H1) else Q (.bl false) H1) := fun ns c hc hns q' H1 s1 => by
    refine ite2 (fun z => ?_) (fun z => ?_)
    · obtain ⟨x, rfl⟩ := nm_str z
      exact ⟨c, _, rfl, .inl (SqL.of (s1 _ _ hc)), rfl, flat_strs ns, q' H1 s1⟩
    · have := q' H1 s1
      rw [inN_nm hns (Bool.eq_false_iff.mpr z)] at this
      exact this
  refine ⟨_, rfl, rfl, _, rfl, ite2 (fun c => ?_) (fun c => ?_)⟩
  · have c' : kind = "number" := by have := of_decide_eq_true c; injection this
    refine ⟨_, rfl, v, p, n, rfl, hv, ?_⟩
    have z := q H (Same.refl H)
    unfold isPt at z
    rw [if_pos c'] at z
    exact z
  have n1 : kind ≠ "number" := fun z => c (decide_eq_true (by rw [z]))
  refine ⟨_, rfl, rfl, _, rfl, ite2 (fun c => ?_) (fun c => ?_)⟩
  · have c' : kind = "box" := by have := of_decide_eq_true c; injection this
    unfold isPt at q
    rw [if_neg n1, if_pos c'] at q
    refine ⟨_, rfl, v, p, n, rfl, hv, fun H1 s1 => ⟨_, rfl, ?_⟩⟩
    have z := among bs b hb hbs q H1 s1
    refine ite2 (fun y => ?_) (fun y => ?_)
    · rw [if_pos y] at z
      exact ⟨_, rfl, _, rfl, z⟩
    · rw [if_neg y] at z
      exact z
  have n2 : kind ≠ "box" := fun z => c (decide_eq_true (by rw [z]))
  refine ⟨_, rfl, rfl, _, rfl, ite2 (fun c => ?_) (fun c => ?_)⟩
  · have c' : kind = "list" := by have := of_decide_eq_true c; injection this
    unfold isPt at q
    rw [if_neg n1, if_neg n2, if_pos c'] at q
    refine ⟨_, rfl, v, p, n, rfl, hv, fun H1 s1 => ⟨_, rfl, ?_⟩⟩
    have z := among ls l hl hls q H1 s1
    refine ite2 (fun y => ?_) (fun y => ?_)
    · rw [if_pos y] at z
      exact ⟨_, rfl, _, rfl, z⟩
    · rw [if_neg y] at z
      exact z
  have n3 : kind ≠ "list" := fun z => c (decide_eq_true (by rw [z]))
  unfold isPt at q
  rw [if_neg n1, if_neg n2, if_neg n3] at q
  exact ⟨_, rfl, _, rfl, _, rfl, _, rfl, v, b, l, _, p, n, bs, ls, rfl, rfl, hv, hb, hl, hbs, hls, q⟩
end
end K01

set_option Elab.async false
set_option linter.all false
set_option maxRecDepth 100000
set_option maxHeartbeats 4000000
namespace K01
open PySem L2
seal L2.PE L2.PS L2.PSs L2.PT L2.PW L2.PA L2.PG L2.PGs L2.PI L2.PO L2.PIfs L2.PC L2.OpR L2.CallR L2.IxR L2.SlR L2.PSet L2.UnR
section
variable {P : Program} {w : World} {K : PySem.W.Frag} {mg : Str → Option Value} {base : Heap}
/-! ### has_word, value_kinds -/
def wordL : List V → Bool
  | .str _ :: _ => true
  | _ => false
def wordV (H : Hp) (v : V) : Bool := match tupAt H v with
  | some xs => wordL xs
  | none => false
theorem sc_has_word : FnScope ["thing"] ["thing"] (defScope (top 2)) := ⟨rfl, rfl, rfl, by decide +kernel, rfl, by decide +kernel, by decide +kernel⟩
def spHasWord : Sp := fun vs H Q _ => ∃ (v : V) (p : Addr) (n : Nat), vs = [v] ∧ Dt p H n v ∧ Q (.bl (wordV H v)) H
theorem d_has_word (T : Txt w K mg) (S : Src K mg "has_word" (top 2) ["thing"]) : Def P w K mg base 1 "has_word" ["thing"] spHasWord := by
  refine S.ok sc_has_word (fun vs H Q E h => ?_) (fun f cdv A outer s H vs Q E hr h => ?_)
  · obtain ⟨v, p, n, rfl, _⟩ := h; rfl
  obtain ⟨v, p, n, rfl, hv, q⟩ := h
  refine ⟨_, (pss_one (ps_ret (pe_and (pe_cB call_isi rfl T.z_isinstance bt_isinstance (pac (pv 0) (pac (pe_ty T.z_tuple bt_tuple rfl) pa_nil))) (pe_and (pe_cmpR op_gt (pe_cB call_len_seq rfl T.z_len bt_len (pac (pv 0) pa_nil)) pe_int (nomark _)) (pe_one (pe_cB call_isi rfl T.z_isinstance bt_isinstance (pac (pe_ix ix_tup (pv 0) pe_int (fun _ _ => rfl)) (pac (pe_ty T.z_str bt_str rfl) pa_nil)))))))), ?_⟩
  obtain ⟨t, ty, ⟨m, a, xs, _, rfl, rfl, ha, hl10, hx⟩ | ⟨ht, hn⟩⟩ := hv.tupOr
  · refine ⟨_, rfl, _, "tuple", _, rfl, ty, by simp, _, rfl, ifT (by decide) ?_⟩
    refine ⟨_, rfl, a, xs, rfl, .inr (SqT.of ha), _, _, rfl, rfl, _, rfl, ?_⟩
    have e : wordV H (.ref a) = wordL xs := by unfold wordV; rw [tupAt_tup ha]
    cases xs with
    | nil =>
      refine ifF (by decide) ?_
      rw [e] at q
      exact q
    | cons y ys =>
      refine ifT (decide_eq_true (by rw [List.length_cons]; omega)) ?_
      obtain ⟨t, ty, ⟨x, rfl, rfl, _⟩ | ⟨hf, _, hno⟩⟩ := (hx y List.mem_cons_self).strOr
      · rw [e] at q
        exact ⟨_, rfl, a, _, 0, _, rfl, rfl, SqT.of ha, atI_nat (j := 0) rfl, _, "str", _, rfl, ty, by simp, q⟩
      · have e2 : wordL (y :: ys) = false := by
          cases y with
          | str z => exact absurd rfl (hno z)
          | _ => rfl
        rw [e, e2, ← hf] at q
        exact ⟨_, rfl, a, _, 0, _, rfl, rfl, SqT.of ha, atI_nat (j := 0) rfl, _, "str", _, rfl, ty, by simp, q⟩
  · refine ⟨_, rfl, _, "tuple", _, rfl, ty, by simp, _, rfl, ifF ht ?_⟩
    have e : wordV H v = false := by unfold wordV; rw [hn]
    rw [e] at q
    exact q
theorem sc_value_kinds : FnScope ["word"] ["word"] (defScope (top 3)) := ⟨rfl, rfl, rfl, by decide +kernel, rfl, by decide +kernel, by decide +kernel⟩
def spKinds (K : PySem.W.Frag) : Sp := fun vs H Q _ => ∃ (x : Str), vs = [.str x] ∧ (match forms x with
  | some ks => ∀ b, SqT K H b (ks.map V.str) → Q (.ref b) H
  | none => Q .non H)
theorem d_value_kinds (T : Txt w K mg) (S : Src K mg "value_kinds" (top 3) ["word"]) : Def P w K mg base 1 "value_kinds" ["word"] (spKinds K) := by
  obtain ⟨aF, mF, tab⟩ := T.tab
  refine S.ok sc_value_kinds (fun vs H Q E h => ?_) (fun f cdv A outer s H vs Q E hr h => ?_)
  · obtain ⟨x, rfl, _⟩ := h; rfl
  obtain ⟨x, rfl, q⟩ := h
  exact ⟨_, (pss_one (ps_ret (pe_tabget tab rfl mF (pv 0)))), _, rfl, x, rfl, q⟩
/-! ### is_value_within -/
theorem sc_within : FnScope ["thing", "boxes", "lists", "depth", "kinds"] ["thing", "boxes", "lists", "depth"] (defScope (top 12)) := ⟨rfl, rfl, rfl, by decide +kernel, rfl, by decide +kernel, by decide +kernel⟩
theorem all_map_id {α : Type} (f : α → Bool) (l : List α) : (l.map f).all id = l.all f := by
  rw [List.all_map]; rfl
theorem d_within {k j : Nat} (T : Txt w K mg) (D_has_word : Def P w K mg base 1 "has_word" ["thing"] spHasWord) (D_value_kinds : Def P w K mg base 1 "value_kinds" ["word"] (spKinds K)) (S : Src K mg "is_value_within" (top 12) ["thing", "boxes", "lists", "depth"])
    (D_part : Def P w K mg base (j + 1) "is_part" ["kind", "part", "boxes", "lists", "depth"] (spPart k)) : Def P w K mg base (j + 2) "is_value_within" ["thing", "boxes", "lists", "depth"] (spWithin k) := by
  refine S.ok sc_within (fun vs H Q E h => ?_) (fun f cdv A outer s H vs Q E hr h => ?_)
  · obtain ⟨v, b, l, d, p, n, bs, ls, rfl, _⟩ := h; rfl
  obtain ⟨v, b, l, d, p, n, bs, ls, rfl, rfl, hv, hb, hl, hbs, hls, q⟩ := h
  refine ⟨_, (pss_cons (ps_if (pt_cut (PW.pt (pw_or (pt_cmpR op_eq (pv 3) pe_int (nomark _)) (pw_or1 (pt_not (pt_val (pe_def (D_has_word.mono (Nat.le_add_left 1 _)) hr rfl (pac (pv 0) pa_nil))))))))
      (pss_one (ps_ret pe_bl)) pss_nil)
      (pss_cons (ps_set (i := 4) sc_within.nd rfl (Or.inl rfl) (pe_def (D_value_kinds.mono (Nat.le_add_left 1 _)) hr rfl (pac (pe_ix ix_tup (pv 0) pe_int (fun _ _ => rfl)) pa_nil)))
      (pss_cons (ps_if (pt_cut (PW.pt (pw_or (pt_cmpR op_isN (pv 4) pe_non (nomark _)) (pw_or1 (pt_cmpR op_ne (pe_cB call_len_seq rfl T.z_len bt_len (pac (pv 0) pa_nil)) (pe_op op_add pe_int (pe_cB call_len_seq rfl T.z_len bt_len (pac (pv 4) pa_nil))) (nomark _))))))
      (pss_one (ps_ret pe_bl)) pss_nil)
      (pss_one (ps_ret (pe_cB (call_all_bl rfl) rfl T.z_all bt_all (pac (pe_comp (N' := ["kind", "part", "boxes", "lists", "depth"]) (comp_scope (defScope (top 12)) (by rfl) (by decide +kernel) (by decide +kernel) (by decide +kernel) (by decide +kernel) (by decide +kernel) (by decide +kernel)) rfl (capt 2 [1, 2, 3] (by rfl) (by rfl) (by decide +kernel)) (pi_zip rfl T.z_zip (pac (pv 4) (pac (pe_slice sl_tupW (pv 0) (po_some pe_int) po_none) pa_nil))) (fun _ _ _ => (show PG _ _ (gTup K 2 (gCons (gName 0) (gCons (gName 1) gNil))) from pg_tup (n := 2) rfl (pgs_cons (pg_name (i := 0) (show (["kind", "part", "boxes", "lists", "depth"] : List Str).Nodup by decide +kernel) rfl (Or.inl rfl) (Or.inr rfl)) (pgs_cons (pg_name (i := 1) (show (["kind", "part", "boxes", "lists", "depth"] : List Str).Nodup by decide +kernel) rfl (Or.inl rfl) (Or.inr rfl)) pgs_nil)))) (fun _ _ _ => pifs_nil) (fun _ _ _ => (pe_def (D_part) hr rfl (pac (pv 0) (pac (pv 1) (pac (pv 2) (pac (pv 3) (pac (pe_op op_sub (pv 4) pe_int) pa_nil)))))))) pa_nil))))))), ?_⟩
  refine ⟨fun t H' => H = H' ∧ ((t = true ∧ isVal H bs ls k v = false) ∨ (t = false ∧ ∃ (k' m : Nat) (a : Addr) (x : Str) (ys : List V), k = k' + 1 ∧ v = .ref a ∧ H a = some (.tup (.str x :: ys)) ∧ (V.str x :: ys).length ≤ 10 ∧ ∀ u ∈ V.str x :: ys, Dt p H m u)), ?_, ?_⟩
  · refine ⟨_, rfl, rfl, _, rfl, ite2 (fun c => ?_) (fun c => ?_)⟩
    · have c' := of_decide_eq_true c
      injection c' with c'
      obtain rfl : k = 0 := by omega
      exact ⟨rfl, .inl ⟨rfl, rfl⟩⟩
    cases k with
    | zero => exact absurd (decide_eq_true rfl) c
    | succ k' =>
    refine ⟨_, rfl, v, p, n, rfl, hv, _, rfl, rfl, ?_⟩
    obtain ⟨t, ty, ⟨m, a, xs, _, rfl, rfl, ha, hl10, hx⟩ | ⟨ht, hn⟩⟩ := hv.tupOr
    · have e : wordV H (.ref a) = wordL xs := by unfold wordV; rw [tupAt_tup ha]
      rw [e]
      cases xs with
      | nil => exact .inl ⟨rfl, isVal_nil ha⟩
      | cons y ys =>
        by_cases hy : ∃ x, y = .str x
        · obtain ⟨x, rfl⟩ := hy
          exact .inr ⟨rfl, k', m, a, x, ys, rfl, rfl, ha, hl10, hx⟩
        · have hno : ∀ x, y ≠ .str x := fun x z => hy ⟨x, z⟩
          refine .inl ⟨?_, isVal_odd ha hno⟩
          cases y with
          | str z => exact absurd rfl (hno z)
          | _ => rfl
    · have e : wordV H v = false := by unfold wordV; rw [hn]
      rw [e]
      exact .inl ⟨rfl, isVal_none hn⟩
  rintro t H' ⟨rfl, ⟨rfl, hn⟩ | ⟨rfl, k, m, a, x, ys, rfl, rfl, ha, hl10, hx⟩⟩
  · have z := q H (Same.refl H)
    rw [hn] at z
    exact ifT rfl z
  refine ifF rfl ?_
  refine ⟨_, rfl, a, _, 0, _, rfl, rfl, SqT.of ha, atI_nat (j := 0) rfl, x, rfl, ?_⟩
  have eV := isVal_cons (bs := bs) (ls := ls) (k := k) ha
  cases hfx : forms x with
  | none =>
    rw [hfx] at eV
    have z := q H (Same.refl H)
    rw [eV] at z
    refine ⟨fun t H' => H = H' ∧ t = true, ⟨_, rfl, rfl, _, rfl, ifT (by decide) ⟨rfl, rfl⟩⟩, ?_⟩
    rintro t H' ⟨rfl, rfl⟩
    exact ifT rfl z
  | some ks =>
  rw [hfx] at eV
  dsimp only at eV ⊢
  intro bk hk
  refine ⟨fun t H' => H = H' ∧ t = !decide (ys.length = ks.length), ?_, ?_⟩
  · refine ⟨_, rfl, rfl, _, rfl, ifF (decide_eq_false (by intro z; cases z)) ?_⟩
    refine ⟨_, rfl, a, _, rfl, .inr (SqT.of ha), _, rfl, bk, _, rfl, .inr hk, _, _, rfl, rfl, rfl, _, rfl, rfl, ?_⟩
    have e1 : ((V.str x :: ys).length : Int) = 1 + (ys.length : Int) := by rw [List.length_cons]; omega
    rw [e1, List.length_map]
    by_cases hlen : ys.length = ks.length
    · rw [decide_eq_true hlen, hlen, decide_eq_true rfl]
    · rw [decide_eq_false hlen, decide_eq_false]
      intro z; injection z with z; omega
  rintro t H' ⟨rfl, rfl⟩
  by_cases hlen : ys.length = ks.length
  case neg =>
    have z := q H (Same.refl H)
    rw [eV, decide_eq_false hlen, Bool.false_and] at z
    exact ifT (by rw [decide_eq_false hlen]; rfl) z
  refine ifF (by rw [decide_eq_true hlen]; rfl) ?_
  rw [decide_eq_true hlen, Bool.true_and] at eV
  have hks := forms_len hfx
  have l3 : (100 : Nat) < sizeLine := by decide
  refine ⟨_, rfl, _, rfl, _, rfl, a, _, rfl, ha, fun pt H1 s1 h1 => ?_⟩
  rw [cut_tail] at h1
  refine ⟨bk, pt, rfl, ⟨_, Same.seqT s1 hk⟩, ⟨_, SqT.of h1⟩, fun acc hacc => ?_⟩
  let f : Str × V → Bool := fun p => isPt bs ls (isVal H bs ls k) p.1 p.2
  refine ⟨fun i m σ2 zs H2 => m = ks.length - i ∧ i ≤ ks.length ∧ (∃ x0 x1, σ2 = [x0, x1, some (.ref b), some (.ref l), some (.int ((k + 1 : Nat) : Int))]) ∧ zs = (((ks.zip ys).take i).map f).map V.bl ∧ H2 acc = some (.lst zs) ∧ Same H1 H2,
    ⟨_, rfl, Nat.zero_le _, ⟨_, _, rfl⟩, rfl, upd_same, same_of_new hacc _⟩, ?_⟩
  rintro i _ σ2 zs H2 ⟨rfl, hi, ⟨x0, x1, rfl⟩, rfl, hac, sm⟩
  refine ⟨hac, ?_⟩
  have hkz : (ks.zip ys).length = ks.length := by rw [List.length_zip, hlen, Nat.min_self]
  by_cases hlt : i < ks.length
  · obtain ⟨ki, hki⟩ : ∃ ki, ks[i]? = some ki := ⟨_, List.getElem?_eq_getElem hlt⟩
    obtain ⟨yi, hyi⟩ : ∃ yi, ys[i]? = some yi := ⟨_, List.getElem?_eq_getElem (by omega)⟩
    have hki' : (ks.map V.str)[i]? = some (.str ki) := by rw [List.getElem?_map, hki]; rfl
    have hz : (ks.zip ys)[i]? = some (ki, yi) := by rw [List.getElem?_zip_eq_some]; exact ⟨hki, hyi⟩
    have hk2 := Same.seqT sm (Same.seqT s1 hk)
    have hy2 : SqT K H2 pt ys := SqT.of (sm _ _ h1)
    refine .inr ⟨⟨_, _, _, _, hk2, hy2, hki', hyi⟩, ?_, ?_⟩
    · rw [List.length_map, List.length_map, List.length_take]
      omega
    rintro v H3 ⟨Tp, hT, rfl, hyld⟩
    have e3 := hyld _ _ _ _ hk2 hy2 hki' hyi
    subst e3
    have s3 := same_of_new hT (.tup [.str ki, yi])
    have s13 := s1.trans (sm.trans s3)
    have hyD := hx yi (List.mem_cons_of_mem _ (List.mem_of_getElem? hyi))
    refine ⟨Tp, _, rfl, SqT.of upd_same, rfl, _, _, rfl, _, _, rfl, rfl, ?_⟩
    refine ⟨_, rfl, _, rfl, _, rfl, _, rfl, _, rfl, _, _, rfl, rfl, ?_⟩
    refine ⟨ki, yi, b, l, _, k, p, m, bs, ls, rfl, rfl, (by omega), hyD.same s13, s13 _ _ hb, s13 _ _ hl, hbs, hls, fun H4 s4 => ?_⟩
    have hac4 := s4 _ _ (s3 _ _ hac)
    have ef : isPt bs ls (isVal (upd H2 Tp (.tup [.str ki, yi])) bs ls k) ki yi = f (ki, yi) := by
      show isPt bs ls _ ki yi = isPt bs ls _ ki yi
      unfold isPt
      rw [isVal_same s13 hyD]
    rw [ef]
    refine ⟨hac4, _, (by omega : ks.length - (i + 1) < ks.length - i), rfl, hlt, ⟨_, _, rfl⟩, ?_, upd_same, fun b' o hb' => ?_⟩
    · rw [List.take_add_one, hz, List.map_append, List.map_append]; rfl
    · rw [upd_ne (ne_of_none hb' hacc)]; exact s4 _ _ (s3 _ _ (sm _ _ hb'))
  · obtain rfl : i = ks.length := by omega
    refine .inl ⟨⟨_, _, Same.seqT sm (Same.seqT s1 hk), SqT.of (sm _ _ h1), .inl (Nat.le_of_eq (List.length_map _))⟩, ?_⟩
    refine ⟨acc, _, rfl, SqL.of hac, ?_⟩
    have z := q H2 (s1.trans sm)
    rw [eV] at z
    rw [all_map_id, ← hkz, List.take_length]
    exact z
/-! ### is_value -/
theorem sc_is_value : FnScope ["thing", "boxes", "lists"] ["thing", "boxes", "lists"] (defScope (top 11)) := ⟨rfl, rfl, rfl, by decide +kernel, rfl, by decide +kernel, by decide +kernel⟩
def spIsVal : Sp := fun vs H Q _ => ∃ (v : V) (b l : Addr) (p : Addr) (n : Nat) (bs ls : List Str), vs = [v, .ref b, .ref l] ∧ Dt p H n v ∧ H b = some (.lst (bs.map V.str)) ∧ H l = some (.lst (ls.map V.str)) ∧ (∀ x ∈ bs, nmS x = true) ∧ (∀ x ∈ ls, nmS x = true) ∧
  ∀ H', Same H H' → Q (.bl (isVal H bs ls 4 v)) H'
theorem d_is_value {j : Nat} (T : Txt w K mg) (S : Src K mg "is_value" (top 11) ["thing", "boxes", "lists"])
    (D_within : Def P w K mg base j "is_value_within" ["thing", "boxes", "lists", "depth"] (spWithin 4)) : Def P w K mg base (j + 1) "is_value" ["thing", "boxes", "lists"] spIsVal := by
  obtain ⟨tm, v_DEEPEST⟩ := T.deep
  refine S.ok sc_is_value (fun vs H Q E h => ?_) (fun f cdv A outer s H vs Q E hr h => ?_)
  · obtain ⟨v, b, l, p, n, bs, ls, rfl, _⟩ := h; rfl
  obtain ⟨v, b, l, p, n, bs, ls, rfl, hv, hb, hl, hbs, hls, q⟩ := h
  refine ⟨_, (pss_one (ps_ret (pe_def (D_within) hr rfl (pac (pv 0) (pac (pv 1) (pac (pv 2) (pac (pe_glob (v := .int (4)) rfl v_DEEPEST ⟨_, rfl⟩) pa_nil))))))), ?_⟩
  exact ⟨_, rfl, _, rfl, _, rfl, v, b, l, _, p, n, bs, ls, rfl, rfl, hv, hb, hl, hbs, hls, q⟩
/-- one after the other -/
theorem d_value_all (T : Txt w K mg) (Sh : Src K mg "has_word" (top 2) ["thing"]) (Sk : Src K mg "value_kinds" (top 3) ["word"]) (D_is_name : Def P w K mg base 1 "is_name" ["thing"] spIsName) (D_is_number : Def P w K mg base 2 "is_number" ["thing"] spIsNum) (S1 : Src K mg "is_value" (top 11) ["thing", "boxes", "lists"])
    (S2 : Src K mg "is_value_within" (top 12) ["thing", "boxes", "lists", "depth"]) (S3 : Src K mg "is_part" (top 13) ["kind", "part", "boxes", "lists", "depth"]) : Def P w K mg base 11 "is_value" ["thing", "boxes", "lists"] spIsVal := by
  have p0 : Def P w K mg base 1 "is_part" ["kind", "part", "boxes", "lists", "depth"] (spPart 0) := S3.no fun vs H Q E h => by
    obtain ⟨_, _, _, _, _, k', _, _, _, _, _, hk, _⟩ := h
    omega
  have w0 := d_within T (d_has_word T Sh) (d_value_kinds T Sk) S2 p0
  have p1 := d_part T D_is_name D_is_number S3 w0
  have w1 := d_within T (d_has_word T Sh) (d_value_kinds T Sk) S2 p1
  have p2 := d_part T D_is_name D_is_number S3 w1
  have w2 := d_within T (d_has_word T Sh) (d_value_kinds T Sk) S2 p2
  have p3 := d_part T D_is_name D_is_number S3 w2
  have w3 := d_within T (d_has_word T Sh) (d_value_kinds T Sk) S2 p3
  have p4 := d_part T D_is_name D_is_number S3 w3
  have w4 := d_within T (d_has_word T Sh) (d_value_kinds T Sk) S2 p4
  exact d_is_value T S1 w4
end
end K01

set_option Elab.async false
set_option linter.all false
set_option maxRecDepth 100000
set_option maxHeartbeats 4000000
namespace K01
open PySem L2
seal L2.PE L2.PS L2.PSs L2.PT L2.PW L2.PA L2.PG L2.PGs L2.PI L2.PO L2.PIfs L2.PC L2.OpR L2.CallR L2.IxR L2.SlR L2.PSet L2.UnR
theorem inS (x : Str) (ws : List Str) : inV (.str x) (ws.map V.str) = decide (x ∈ ws) := by
  unfold inV
  rw [Bool.eq_iff_iff, List.any_eq_true, decide_eq_true_iff]
  constructor
  · rintro ⟨y, hy, e⟩
    obtain ⟨z, hz, rfl⟩ := List.mem_map.mp hy
    have e' : (z == x) = true := e
    have e2 : z = x := by simpa using e'
    exact e2 ▸ hz
  · intro h
    refine ⟨.str x, List.mem_map.mpr ⟨x, h, rfl⟩, ?_⟩
    show (x == x) = true
    simp
theorem isVal_len {H : Hp} {bs ls : List Str} {k : Nat} {a : Addr} {x : Str} {rest : List V} {ks : List Str} (h : H a = some (.tup (.str x :: rest))) (hf : forms x = some ks) (hl : rest.length ≠ ks.length) : isVal H bs ls k (.ref a) = false := by
  cases k with
  | zero => rfl
  | succ k => rw [isVal_cons h, hf]; dsimp only; rw [decide_eq_false hl, Bool.false_and]
theorem isVal_none2 {H : Hp} {bs ls : List Str} {k : Nat} {a : Addr} {x : Str} {rest : List V} (h : H a = some (.tup (.str x :: rest))) (hf : forms x = none) : isVal H bs ls k (.ref a) = false := by
  cases k with
  | zero => rfl
  | succ k => rw [isVal_cons h, hf]
theorem isVal_one {H : Hp} {bs ls : List Str} {k : Nat} {a : Addr} {y : V} (h : H a = some (.tup [y])) : isVal H bs ls k (.ref a) = false := by
  by_cases hy : ∃ x, y = .str x
  · obtain ⟨x, rfl⟩ := hy
    cases hf : forms x with
    | none => exact isVal_none2 h hf
    | some ks =>
      have := forms_len hf
      exact isVal_len h hf (by show 0 ≠ _; omega)
  · exact isVal_odd h fun x z => hy ⟨x, z⟩
theorem isVal_1 {H : Hp} {bs ls : List Str} {k : Nat} {a : Addr} {x kd : Str} {y : V} (h : H a = some (.tup [.str x, y])) (hf : forms x = some [kd]) : isVal H bs ls (k + 1) (.ref a) = isPt bs ls (isVal H bs ls k) kd y := by
  rw [isVal_cons h, hf]
  show (decide (1 = 1) && (isPt bs ls (isVal H bs ls k) kd y && true)) = _
  rw [Bool.and_true]; rfl
theorem isVal_2 {H : Hp} {bs ls : List Str} {k : Nat} {a : Addr} {x k1 k2 : Str} {y z : V} (h : H a = some (.tup [.str x, y, z])) (hf : forms x = some [k1, k2]) : isVal H bs ls (k + 1) (.ref a) = (isPt bs ls (isVal H bs ls k) k1 y && isPt bs ls (isVal H bs ls k) k2 z) := by
  rw [isVal_cons h, hf]
  show (decide (2 = 2) && (isPt bs ls (isVal H bs ls k) k1 y && (isPt bs ls (isVal H bs ls k) k2 z && true))) = _
  rw [Bool.and_true]; rfl
theorem pt_number {bs ls : List Str} {f : V → Bool} {y : V} : isPt bs ls f "number" y = numV y := by unfold isPt; rw [if_pos rfl]
theorem pt_box {bs ls : List Str} {f : V → Bool} {y : V} : isPt bs ls f "box" y = inN bs y := by unfold isPt; rw [if_neg (by decide), if_pos rfl]
theorem pt_list {bs ls : List Str} {f : V → Bool} {y : V} : isPt bs ls f "list" y = inN ls y := by unfold isPt; rw [if_neg (by decide), if_neg (by decide), if_pos rfl]
theorem pt_value {bs ls : List Str} {f : V → Bool} {y : V} : isPt bs ls f "value" y = f y := by unfold isPt; rw [if_neg (by decide), if_neg (by decide), if_neg (by decide)]
theorem forms_two {x : Str} (h : x ∈ (["plus", "minus", "times", "over", "rest", "less", "same"] : List Str)) : forms x = some ([("value" : Str), ("value" : Str)]) := by
  simp only [List.mem_cons, List.not_mem_nil, or_false] at h
  rcases h with rfl | rfl | rfl | rfl | rfl | rfl | rfl <;> decide
theorem forms_no {x : Str} (h1 : x ∉ (["number", "box", "size"] : List Str)) (h2 : x ≠ "item") (h3 : x ≠ "not") (h4 : x ∉ (["plus", "minus", "times", "over", "rest", "less", "same"] : List Str)) : forms x = none := by
  simp only [List.mem_cons, List.not_mem_nil, or_false, not_or] at h1 h4
  obtain ⟨a1, a2, a3⟩ := h1
  obtain ⟨b1, b2, b3, b4, b5, b6, b7⟩ := h4
  unfold forms
  rw [if_neg a1, if_neg a2, if_neg b1, if_neg b2, if_neg b3, if_neg b4, if_neg b5, if_neg b6, if_neg b7, if_neg h3, if_neg h2, if_neg a3]

theorem len2 {y : V} {ys : List V} (h : decide (V.int ((y :: ys).length : Int) = V.int 2) = true) : ∃ z, ys = [z] := by
  have h := of_decide_eq_true h
  injection h with h
  rw [List.length_cons] at h
  exact List.length_eq_one_iff.mp (by omega)
theorem len2n {y : V} {ys : List V} (h : ¬ decide (V.int ((y :: ys).length : Int) = V.int 2) = true) : ys.length ≠ 1 := fun e => h (decide_eq_true (by rw [List.length_cons, e]; rfl))
theorem len3 {y : V} {ys : List V} (h : decide (V.int ((y :: ys).length : Int) = V.int 3) = true) : ∃ z1 z2, ys = [z1, z2] := by
  have h := of_decide_eq_true h
  injection h with h
  rw [List.length_cons] at h
  match ys, h with
  | [z1, z2], _ => exact ⟨z1, z2, rfl⟩
  | [], h => exact absurd h (by decide)
  | [_], h => exact absurd h (by show ¬ ((2 : Int) = 3); decide)
  | _ :: _ :: _ :: _, h => exact absurd h (by simp only [List.length_cons]; omega)
theorem len3n {y : V} {ys : List V} (h : ¬ decide (V.int ((y :: ys).length : Int) = V.int 3) = true) : ys.length ≠ 2 := fun e => h (decide_eq_true (by rw [List.length_cons, e]; rfl))
section
variable {P : Program} {w : World} {K : PySem.W.Frag} {mg : Str → Option Value} {base : Heap}
/-! ### _law_is_value -/
theorem sc_lvalue : FnScope ["_law_thing_here", "_law_boxes", "_law_lists", "_law_deep"] ["_law_thing_here", "_law_boxes", "_law_lists", "_law_deep"] (defScope (top 23)) := ⟨rfl, rfl, rfl, by decide +kernel, rfl, by decide +kernel, by decide +kernel⟩
def spLess (k : Nat) : Sp := fun vs H Q E => ∃ k', k = k' + 1 ∧ spWithin k' vs H Q E
theorem d_lstep {k j : Nat} (T : Txt w K mg) (D_is_number : Def P w K mg base 1 "_law_is_number" ["_law_thing_here"] spIsNum) (D_among : Def P w K mg base 1 "_law_among" ["_law_thing_here", "_law_names_here"] spAmong)
    (S : Src K mg "_law_is_value" (top 23) ["_law_thing_here", "_law_boxes", "_law_lists", "_law_deep"]) (IH : Def P w K mg base (j + 1) "_law_is_value" ["_law_thing_here", "_law_boxes", "_law_lists", "_law_deep"] (spLess k)) :
    Def P w K mg base (j + 2) "_law_is_value" ["_law_thing_here", "_law_boxes", "_law_lists", "_law_deep"] (spWithin k) := by
  refine S.ok sc_lvalue (fun vs H Q E h => ?_) (fun f cdv A outer s H vs Q E hr h => ?_)
  · obtain ⟨v, b, l, d, p, n, bs, ls, rfl, _⟩ := h; rfl
  obtain ⟨v, b, l, d, p, n, bs, ls, rfl, rfl, hv, hb, hl, hbs, hls, q⟩ := h
  refine ⟨_, (pss_cons (ps_if (pt_cut (PW.pt (pw_or (pt_cmpR op_eq (pv 3) pe_int (nomark _)) (pw_or (pt_not (pt_val (pe_cB call_isi rfl T.z_isinstance bt_isinstance (pac (pv 0) (pac (pe_ty T.z_tuple bt_tuple rfl) pa_nil))))) (pw_or (pt_cmpR op_lt (pe_cB call_len_seq rfl T.z_len bt_len (pac (pv 0) pa_nil)) pe_int (nomark _)) (pw_or1 (pt_not (pt_val (pe_cB call_isi rfl T.z_isinstance bt_isinstance (pac (pe_ix ix_tup (pv 0) pe_int (fun _ _ => rfl)) (pac (pe_ty T.z_str bt_str rfl) pa_nil)))))))))))
      (pss_one (ps_ret pe_bl)) pss_nil)
      (pss_cons (ps_if (pt_cmpR op_in_seq (pe_ix ix_tup (pv 0) pe_int (fun _ _ => rfl)) (pe_lst (pa_const [.str "number", .str "box", .str "size"] (by rfl))) (by rfl))
      (pss_cons (ps_if (pt_cmpR op_eq (pe_ix ix_tup (pv 0) pe_int (fun _ _ => rfl)) pe_str (nomark _))
      (pss_one (ps_ret (pe_and (pe_cmpR op_eq (pe_cB call_len_seq rfl T.z_len bt_len (pac (pv 0) pa_nil)) pe_int (nomark _)) (pe_one (pe_def (D_is_number.mono (Nat.le_add_left 1 _)) hr rfl (pac (pe_ix ix_tup (pv 0) pe_int (fun _ _ => rfl)) pa_nil)))))) pss_nil)
      (pss_one (ps_ret (pe_and (pe_cmpR op_eq (pe_cB call_len_seq rfl T.z_len bt_len (pac (pv 0) pa_nil)) pe_int (nomark _)) (pe_one (pe_def (D_among.mono (Nat.le_add_left 1 _)) hr rfl (pac (pe_ix ix_tup (pv 0) pe_int (fun _ _ => rfl)) (pac (pe_ix ix_list (pe_lst (pac (pv 1) (pac (pv 2) pa_nil))) (pe_cT call_int1 rfl T.z_int bt_int (pac (pe_cmpR op_eq (pe_ix ix_tup (pv 0) pe_int (fun _ _ => rfl)) pe_str (nomark _)) pa_nil)) (fun _ _ => rfl)) pa_nil)))))))) pss_nil)
      (pss_cons (ps_if (pt_cmpR op_eq (pe_ix ix_tup (pv 0) pe_int (fun _ _ => rfl)) pe_str (nomark _))
      (pss_one (ps_ret (pe_and (pe_cmpR op_eq (pe_cB call_len_seq rfl T.z_len bt_len (pac (pv 0) pa_nil)) pe_int (nomark _)) (pe_and (pe_def (D_among.mono (Nat.le_add_left 1 _)) hr rfl (pac (pe_ix ix_tup (pv 0) pe_int (fun _ _ => rfl)) (pac (pv 2) pa_nil))) (pe_one (pe_def (IH) hr rfl (pac (pe_ix ix_tup (pv 0) pe_int (fun _ _ => rfl)) (pac (pv 1) (pac (pv 2) (pac (pe_op op_sub (pv 3) pe_int) pa_nil)))))))))) pss_nil)
      (pss_cons (ps_if (pt_cmpR op_eq (pe_ix ix_tup (pv 0) pe_int (fun _ _ => rfl)) pe_str (nomark _))
      (pss_one (ps_ret (pe_and (pe_cmpR op_eq (pe_cB call_len_seq rfl T.z_len bt_len (pac (pv 0) pa_nil)) pe_int (nomark _)) (pe_one (pe_def (IH) hr rfl (pac (pe_ix ix_tup (pv 0) pe_int (fun _ _ => rfl)) (pac (pv 1) (pac (pv 2) (pac (pe_op op_sub (pv 3) pe_int) pa_nil))))))))) pss_nil)
      (pss_cons (ps_if (pt_cut (PW.pt (pw_or (pt_cmpR op_notIn_seq (pe_ix ix_tup (pv 0) pe_int (fun _ _ => rfl)) (pe_lst (pa_const [.str "plus", .str "minus", .str "times", .str "over", .str "rest", .str "less", .str "same"] (by rfl))) (by rfl)) (pw_or1 (pt_cmpR op_ne (pe_cB call_len_seq rfl T.z_len bt_len (pac (pv 0) pa_nil)) pe_int (nomark _))))))
      (pss_one (ps_ret pe_bl)) pss_nil)
      (pss_one (ps_ret (pe_and (pe_def (IH) hr rfl (pac (pe_ix ix_tup (pv 0) pe_int (fun _ _ => rfl)) (pac (pv 1) (pac (pv 2) (pac (pe_op op_sub (pv 3) pe_int) pa_nil))))) (pe_one (pe_def (IH) hr rfl (pac (pe_ix ix_tup (pv 0) pe_int (fun _ _ => rfl)) (pac (pv 1) (pac (pv 2) (pac (pe_op op_sub (pv 3) pe_int) pa_nil)))))))))))))), ?_⟩
  have l3 : (100 : Nat) < sizeLine := by decide
  refine ⟨fun t H' => H = H' ∧ ((t = true ∧ isVal H bs ls k v = false) ∨ (t = false ∧ ∃ (k' m : Nat) (a : Addr) (x : Str) (ys : List V), k = k' + 1 ∧ v = .ref a ∧ H a = some (.tup (.str x :: ys)) ∧ 1 ≤ ys.length ∧ ∀ y ∈ ys, Dt p H m y)), ?_, ?_⟩
  · refine ⟨_, rfl, rfl, _, rfl, ite2 (fun c => ?_) (fun c => ?_)⟩
    · have c' := of_decide_eq_true c
      injection c' with c'
      obtain rfl : k = 0 := by omega
      exact ⟨rfl, .inl ⟨rfl, rfl⟩⟩
    cases k with
    | zero => exact absurd (decide_eq_true rfl) c
    | succ k' =>
    obtain ⟨t, ty, ⟨m, a, xs, _, rfl, rfl, ha, hl10, hx⟩ | ⟨ht, hn⟩⟩ := hv.tupOr
    · refine ⟨_, rfl, _, "tuple", _, rfl, ty, by simp, _, rfl, ifF (by decide) ?_⟩
      refine ⟨_, rfl, a, xs, rfl, .inr (SqT.of ha), _, _, rfl, rfl, _, rfl, ite2 (fun c2 => ?_) (fun c2 => ?_)⟩
      · have c2' := of_decide_eq_true c2
        match xs, ha, c2' with
        | [], ha, _ => exact ⟨rfl, .inl ⟨rfl, isVal_nil ha⟩⟩
        | [y], ha, _ => exact ⟨rfl, .inl ⟨rfl, isVal_one ha⟩⟩
        | y :: z :: r, ha, c2' => exact absurd c2' (by simp only [List.length_cons]; omega)
      have c2' : ¬ ((xs.length : Int) < 2) := fun z => c2 (decide_eq_true z)
      match xs, ha, c2', hx, hl10 with
      | [], ha, c2', hx, hl10 => exact absurd c2' (by show ¬ ¬ ((0 : Int) < 2); omega)
      | y :: ys, ha, c2', hx, hl10 =>
      have hy := hx y List.mem_cons_self
      obtain ⟨t, ty, ⟨x, rfl, rfl, hx100⟩ | ⟨hf, _, hno⟩⟩ := hy.strOr
      · exact ⟨_, rfl, a, _, 0, _, rfl, rfl, SqT.of ha, atI_nat (j := 0) rfl, _, "str", _, rfl, ty, by simp, _, rfl, rfl, .inr ⟨by decide, k', m, a, x, ys, rfl, rfl, ha, by simp only [List.length_cons] at c2'; omega, fun z hz => hx z (List.mem_cons_of_mem _ hz)⟩⟩
      · exact ⟨_, rfl, a, _, 0, _, rfl, rfl, SqT.of ha, atI_nat (j := 0) rfl, _, "str", _, rfl, ty, by simp, _, rfl, rfl, .inl ⟨by rw [hf]; rfl, isVal_odd ha hno⟩⟩
    · exact ⟨_, rfl, _, "tuple", _, rfl, ty, by simp, _, rfl, ifT (by rw [ht]; rfl) ⟨rfl, .inl ⟨rfl, isVal_none hn⟩⟩⟩
  rintro t H' ⟨rfl, ⟨rfl, hn⟩ | ⟨rfl, k, m, a, x, ys, rfl, rfl, ha, hl2, hx⟩⟩
  · have z := q H (Same.refl H)
    rw [hn] at z
    exact ifT rfl z
  refine ifF rfl ?_
  refine ⟨_, rfl, a, _, 0, _, rfl, rfl, SqT.of ha, atI_nat (j := 0) rfl, ?_⟩
  refine ⟨(by show 3 ≤ sizeLine; omega), fun c hc => ?_⟩
  have s1 := same_of_new hc (.lst [.str "number", .str "box", .str "size"])
  have ha1 := s1 _ _ ha
  refine ⟨c, _, rfl, .inl (SqL.of upd_same), rfl, rfl, _, rfl, ?_⟩
  have ei : inV (.str x) [.str "number", .str "box", .str "size"] = decide (x ∈ (["number", "box", "size"] : List Str)) := inS x ["number", "box", "size"]
  refine ite2 (fun d1 => ?_) (fun d1 => ?_)
  · have d1' := of_decide_eq_true (ei ▸ d1 : decide (x ∈ (["number", "box", "size"] : List Str)) = true)
    refine ⟨_, rfl, a, _, 0, _, rfl, rfl, SqT.of ha1, atI_nat (j := 0) rfl, rfl, _, rfl, ite2 (fun d2 => ?_) (fun d2 => ?_)⟩
    · have d2' := of_decide_eq_true d2
      injection d2' with d2'
      subst d2'
      refine ⟨_, rfl, a, _, rfl, .inr (SqT.of ha1), rfl, _, rfl, ite2 (fun d3 => ?_) (fun d3 => ?_)⟩
      · obtain ⟨z, rfl⟩ := len2 d3
        refine ⟨_, rfl, a, _, 1, _, rfl, rfl, SqT.of ha1, atI_nat (j := 1) rfl, z, p, m, rfl, (hx z (by simp)).same s1, ?_⟩
        have y := q _ s1
        rw [isVal_1 ha (show forms "number" = some [("number" : Str)] from by decide), pt_number] at y
        exact y
      · have y := q _ s1
        rw [isVal_len ha (show forms "number" = some [("number" : Str)] from by decide) (len2n d3)] at y
        exact y
    · have d2' : x ≠ "number" := fun z => d2 (decide_eq_true (by rw [z]))
      have hf : (x = "box" ∧ forms x = some [("box" : Str)]) ∨ (x = "size" ∧ forms x = some [("list" : Str)]) := by
        simp only [List.mem_cons, List.not_mem_nil, or_false] at d1'
        rcases d1' with r | rfl | rfl
        · exact absurd r d2'
        · exact .inl ⟨rfl, by decide⟩
        · exact .inr ⟨rfl, by decide⟩
      refine ⟨_, rfl, a, _, rfl, .inr (SqT.of ha1), rfl, _, rfl, ite2 (fun d3 => ?_) (fun d3 => ?_)⟩
      · obtain ⟨z, rfl⟩ := len2 d3
        refine ⟨_, rfl, a, _, 1, _, rfl, rfl, SqT.of ha1, atI_nat (j := 1) rfl, _, rfl, _, rfl, (by show 2 ≤ sizeLine; omega), fun c2 hc2 => ?_⟩
        have s2 := s1.trans (same_of_new hc2 (.lst [.ref b, .ref l]))
        have ha2 := s2 _ _ ha
        have y := q _ s2
        have hz := (hx z (by simp)).same s2
        rcases hf with ⟨rfl, hf⟩ | ⟨rfl, hf⟩
        · refine ⟨_, rfl, a, _, 0, _, rfl, rfl, SqT.of ha2, atI_nat (j := 0) rfl, rfl, .inr ⟨_, rfl, c2, _, _, V.ref b, rfl, rfl, SqL.of upd_same, atI_nat (j := 0) rfl, z, b, p, m, bs, rfl, hz, s2 _ _ hb, ?_⟩⟩
          rw [isVal_1 ha hf, pt_box] at y
          exact y
        · refine ⟨_, rfl, a, _, 0, _, rfl, rfl, SqT.of ha2, atI_nat (j := 0) rfl, rfl, .inr ⟨_, rfl, c2, _, _, V.ref l, rfl, rfl, SqL.of upd_same, atI_nat (j := 1) rfl, z, l, p, m, ls, rfl, hz, s2 _ _ hl, ?_⟩⟩
          rw [isVal_1 ha hf, pt_list] at y
          exact y
      · have y := q _ s1
        rcases hf with ⟨_, hf⟩ | ⟨_, hf⟩
        · rw [isVal_len ha hf (len2n d3)] at y
          exact y
        · rw [isVal_len ha hf (len2n d3)] at y
          exact y
  have n1 := of_decide_eq_false (ei ▸ Bool.eq_false_iff.mpr d1 : decide (x ∈ (["number", "box", "size"] : List Str)) = false)
  have hb1 := s1 _ _ hb
  have hl1 := s1 _ _ hl
  refine ⟨_, rfl, a, _, 0, _, rfl, rfl, SqT.of ha1, atI_nat (j := 0) rfl, rfl, _, rfl, ite2 (fun d2 => ?_) (fun d2 => ?_)⟩
  · have d2' := of_decide_eq_true d2
    injection d2' with d2'
    subst d2'
    have hf : forms "item" = some [("list" : Str), ("value" : Str)] := by decide
    refine ⟨_, rfl, a, _, rfl, .inr (SqT.of ha1), rfl, _, rfl, ite2 (fun d3 => ?_) (fun d3 => ?_)⟩
    · obtain ⟨z1, z2, rfl⟩ := len3 d3
      have y := fun H2 s2 => q H2 (s1.trans s2)
      rw [isVal_2 ha hf, pt_list, pt_value] at y
      refine ⟨_, rfl, a, _, 1, _, rfl, rfl, SqT.of ha1, atI_nat (j := 1) rfl, _, rfl, z1, l, p, m, ls, rfl, (hx z1 (by simp)).same s1, hl1, _, rfl, ite2 (fun d4 => ?_) (fun d4 => ?_)⟩
      · refine ⟨_, rfl, a, _, 2, _, rfl, rfl, SqT.of ha1, atI_nat (j := 2) rfl, _, rfl, _, rfl, _, rfl, _, _, rfl, rfl, k, rfl, z2, b, l, _, p, m, bs, ls, rfl, (by omega), (hx z2 (by simp)).same s1, hb1, hl1, hbs, hls, fun H2 s2 => ?_⟩
        have y2 := y H2 s2
        rw [d4, Bool.true_and, ← isVal_same s1 (hx z2 (by simp))] at y2
        exact y2
      · have y2 := y _ (Same.refl _)
        rw [Bool.eq_false_iff.mpr d4, Bool.false_and] at y2
        exact y2
    · have y := q _ s1
      rw [isVal_len ha hf (len3n d3)] at y
      exact y
  have n2 : x ≠ "item" := fun z => d2 (decide_eq_true (by rw [z]))
  refine ⟨_, rfl, a, _, 0, _, rfl, rfl, SqT.of ha1, atI_nat (j := 0) rfl, rfl, _, rfl, ite2 (fun d2 => ?_) (fun d2 => ?_)⟩
  · have d2' := of_decide_eq_true d2
    injection d2' with d2'
    subst d2'
    have hf : forms "not" = some [("value" : Str)] := by decide
    refine ⟨_, rfl, a, _, rfl, .inr (SqT.of ha1), rfl, _, rfl, ite2 (fun d3 => ?_) (fun d3 => ?_)⟩
    · obtain ⟨z2, rfl⟩ := len2 d3
      refine ⟨_, rfl, a, _, 1, _, rfl, rfl, SqT.of ha1, atI_nat (j := 1) rfl, _, rfl, _, rfl, _, rfl, _, _, rfl, rfl, k, rfl, z2, b, l, _, p, m, bs, ls, rfl, (by omega), (hx z2 (by simp)).same s1, hb1, hl1, hbs, hls, fun H2 s2 => ?_⟩
      have y2 := q H2 (s1.trans s2)
      rw [isVal_1 ha hf, pt_value, ← isVal_same s1 (hx z2 (by simp))] at y2
      exact y2
    · have y := q _ s1
      rw [isVal_len ha hf (len2n d3)] at y
      exact y
  have n3 : x ≠ "not" := fun z => d2 (decide_eq_true (by rw [z]))
  let ws : List Str := ["plus", "minus", "times", "over", "rest", "less", "same"]
  refine ⟨fun t H' => Same (upd H c (.lst [.str "number", .str "box", .str "size"])) H' ∧ ((t = true ∧ isVal H bs ls (k + 1) (.ref a) = false) ∨ (t = false ∧ forms x = some [("value" : Str), ("value" : Str)] ∧ ∃ z1 z2, ys = [z1, z2])), ?_, ?_⟩
  · refine ⟨_, rfl, a, _, 0, _, rfl, rfl, SqT.of ha1, atI_nat (j := 0) rfl, (by show 7 ≤ sizeLine; omega), fun c2 hc2 => ?_⟩
    have s2 := same_of_new hc2 (.lst (ws.map V.str))
    have ha2 := s2 _ _ ha1
    refine ⟨c2, _, rfl, .inl (SqL.of upd_same), rfl, rfl, _, rfl, ?_⟩
    have ei2 : inV (.str x) (ws.map V.str) = decide (x ∈ ws) := inS x ws
    refine ite2 (fun d3 => ?_) (fun d3 => ?_)
    · have d3' : (!decide (x ∈ ws)) = true := ei2 ▸ d3
      have d3'' : x ∉ ws := by simpa using d3'
      exact ⟨s2, .inl ⟨rfl, isVal_none2 ha (forms_no n1 n2 n3 d3'')⟩⟩
    · have d3' : ¬ (!decide (x ∈ ws)) = true := ei2 ▸ d3
      have d3'' : x ∈ ws := by simpa using d3'
      have hf := forms_two d3''
      refine ⟨_, rfl, a, _, rfl, .inr (SqT.of ha2), rfl, _, rfl, s2, ?_⟩
      by_cases d4 : decide (V.int ((V.str x :: ys).length : Int) = V.int 3) = true
      · exact .inr ⟨by rw [d4]; rfl, hf, len3 d4⟩
      · exact .inl ⟨by rw [Bool.eq_false_iff.mpr d4]; rfl, isVal_len ha hf (len3n d4)⟩
  rintro t H2 ⟨s2, ⟨rfl, hn⟩ | ⟨rfl, hf, z1, z2, rfl⟩⟩
  · have y := q _ (s1.trans s2)
    rw [hn] at y
    exact ifT rfl y
  refine ifF rfl ?_
  have s12 := s1.trans s2
  have y := fun H3 s3 => q H3 (s12.trans s3)
  rw [isVal_2 ha hf, pt_value, pt_value] at y
  refine ⟨_, rfl, a, _, 1, _, rfl, rfl, SqT.of (s12 _ _ ha), atI_nat (j := 1) rfl, _, rfl, _, rfl, _, rfl, _, _, rfl, rfl, k, rfl, z1, b, l, _, p, m, bs, ls, rfl, (by omega), (hx z1 (by simp)).same s12, s12 _ _ hb, s12 _ _ hl, hbs, hls, fun H3 s3 => ?_⟩
  refine ⟨_, rfl, ite2 (fun d4 => ?_) (fun d4 => ?_)⟩
  · have s13 := s12.trans s3
    refine ⟨_, rfl, a, _, 2, _, rfl, rfl, SqT.of (s13 _ _ ha), atI_nat (j := 2) rfl, _, rfl, _, rfl, _, rfl, _, _, rfl, rfl, k, rfl, z2, b, l, _, p, m, bs, ls, rfl, (by omega), (hx z2 (by simp)).same s13, s13 _ _ hb, s13 _ _ hl, hbs, hls, fun H4 s4 => ?_⟩
    have y2 := y H4 (s3.trans s4)
    rw [← isVal_same s12 (hx z1 (by simp)), d4, Bool.true_and, ← isVal_same s13 (hx z2 (by simp))] at y2
    exact y2
  · have y2 := y H3 s3
    rw [← isVal_same s12 (hx z1 (by simp)), Bool.eq_false_iff.mpr d4, Bool.false_and] at y2
    exact y2
theorem d_lvalue (T : Txt w K mg) (D_is_number : Def P w K mg base 1 "_law_is_number" ["_law_thing_here"] spIsNum) (D_among : Def P w K mg base 1 "_law_among" ["_law_thing_here", "_law_names_here"] spAmong)
    (S : Src K mg "_law_is_value" (top 23) ["_law_thing_here", "_law_boxes", "_law_lists", "_law_deep"]) : ∀ k, Def P w K mg base (k + 2) "_law_is_value" ["_law_thing_here", "_law_boxes", "_law_lists", "_law_deep"] (spWithin k)
  | 0 => d_lstep T D_is_number D_among S (S.no fun vs H Q E h => by obtain ⟨k', hk, _⟩ := h; omega)
  | k + 1 => d_lstep T D_is_number D_among S ((d_lvalue T D_is_number D_among S k).imp fun vs H Q E h => by
      obtain ⟨k', hk, h⟩ := h
      obtain rfl : k = k' := by omega
      exact h)
end
end K01

set_option Elab.async false
set_option linter.all false
set_option maxRecDepth 100000
set_option maxHeartbeats 4000000
namespace K01
open PySem L2
seal L2.PE L2.PS L2.PSs L2.PT L2.PW L2.PA L2.PG L2.PGs L2.PI L2.PO L2.PIfs L2.PC L2.OpR L2.CallR L2.IxR L2.SlR L2.PSet L2.UnR
theorem Dt.seqOr {p : Addr} {H : Hp} {n : Nat} {v : V} (g : Gen p H) (h : Dt p H n v) : ∃ t, tyN H v = some t ∧ ((∃ (m : Nat) (a : Addr) (xs : List V), n = m + 1 ∧ v = .ref a ∧ (isiB t "tuple" || isiB t "list") = true ∧ a ≠ p ∧ (H a = some (.tup xs) ∨ H a = some (.lst xs)) ∧ xs.length ≤ 10 ∧ ∀ x ∈ xs, Dt p H m x) ∨ (isiB t "tuple" || isiB t "list") = false) := by
  cases n with
  | zero => exact h.elim
  | succ n =>
    cases v with
    | non => exact ⟨_, rfl, .inr (by decide)⟩
    | bl b => exact ⟨_, rfl, .inr (by decide)⟩
    | int i => exact ⟨_, rfl, .inr (by decide)⟩
    | str x => exact ⟨_, rfl, .inr (by decide)⟩
    | ref a =>
      rcases h with ⟨xs, h1, h2, h3⟩ | ⟨xs, h1, h0, h2, h3⟩ | h
      · refine ⟨"tuple", by unfold tyN; dsimp only; rw [h1], .inl ⟨n, a, xs, rfl, rfl, by decide, ?_, .inl h1, h2, h3⟩⟩
        obtain ⟨k, hp, _⟩ := g
        exact ne_of h1 hp (by intro z; cases z)
      · exact ⟨"list", by unfold tyN; dsimp only; rw [h1], .inl ⟨n, a, xs, rfl, rfl, by decide, h0, .inr h1, h2, h3⟩⟩
      · exact ⟨"dict", by unfold tyN; dsimp only; rw [h], .inr (by decide)⟩
    | byt _ => exact h.elim
    | flt _ => exact h.elim
    | ty _ => exact h.elim
theorem sameOf {p : Addr} {H0 H H' : Hp} (hp : H0 p = none) (s : Same H0 H) (e : Ext p H H') : Same H0 H' := fun b o h => e.but b o (ne_of_none h hp) (s b o h)
theorem cut_strs (ns : List Str) (lo hi : Option Int) : ∃ bs : List Str, cutV (ns.map V.str) lo hi = bs.map V.str ∧ ∀ x ∈ bs, x ∈ ns := by
  refine ⟨((ns.drop (HT.sIx ns.length 0 lo)).take (HT.sIx ns.length ns.length hi - HT.sIx ns.length 0 lo)), ?_, fun x hx => List.mem_of_mem_drop (List.mem_of_mem_take hx)⟩
  unfold cutV
  rw [List.length_map, List.map_take, List.map_drop]
theorem nm_len {x : Str} (h : nmS x = true) : x.length ≤ 6 := by
  unfold nmS at h
  rw [Bool.and_eq_true] at h
  have := of_decide_eq_true h.1
  omega
section
variable {P : Program} {w : World} {K : PySem.W.Frag} {mg : Str → Option Value} {base : Heap}
/-! ### law -/
theorem sc_law : FnScope ["_law_script", "_law_state_here", "_law_names_here", "_law_boxes", "_law_lists", "_law_thing_here", "_law_some", "_law_part", "_law_name", "_law_texts", "_law_number", "_law_one"] ["_law_script"] (defScope (top 28)) := ⟨rfl, rfl, rfl, by decide +kernel, rfl, by decide +kernel, by decide +kernel⟩
def spLaw (K : PySem.W.Frag) : Sp := fun vs H Q _ => ∃ (a : Addr) (ns : List Int), vs = [.ref a] ∧ SqL K H a (ns.map V.int) ∧ ∀ H', Q (.bl true) H'
theorem d_law (T : Txt w K mg) (D_next : Def P w K mg base 1 "_law_next" ["_law_state_here", "_law_size"] spNext) (D_cell_at : Def P w K mg base 1 "_law_cell_at" ["_law_script", "_law_k"] (spCell K)) (D_state : Def P w K mg base 1 "_law_state" ["_law_cell", "_law_k"] spState)
    (D_names : Def P w K mg base 2 "_law_names" ["_law_state_here", "_law_amount"] spNames) (D_thing : Def P w K mg base 11 "_law_thing" ["_law_state_here", "_law_boxes", "_law_lists"] spThing)
    (D_is_value : Def P w K mg base 11 "is_value" ["thing", "boxes", "lists"] spIsVal) (D_lvalue : ∀ k : Nat, Def P w K mg base (k + 2) "_law_is_value" ["_law_thing_here", "_law_boxes", "_law_lists", "_law_deep"] (spWithin k))
    (D_same : Def P w K mg base 1 "_law_same" ["_law_found", "_law_due"] spSame) (D_is_name : Def P w K mg base 1 "is_name" ["thing"] spIsName) (D_lname : Def P w K mg base 1 "_law_is_name" ["_law_thing_here"] spIsName)
    (D_is_number : Def P w K mg base 2 "is_number" ["thing"] spIsNum) (D_lnumber : Def P w K mg base 1 "_law_is_number" ["_law_thing_here"] spIsNum)
    {f : Addr} {fd : FuncData} (F : Fun K "law" "law" (top 28) f fd) : FnOk P w K mg base CX0 12 f fd ["_law_script"] (spLaw K) := by
  refine F.ok sc_law (fun vs H Q E h => ?_) (fun cdv A outer s H vs Q E hr h => ?_)
  · obtain ⟨a, ns, rfl, _⟩ := h; rfl
  obtain ⟨a, ns, rfl, hS, q⟩ := h
  refine ⟨_, (pss_cons (ps_set (i := 1) sc_law.nd rfl (Or.inl rfl) (pe_def (D_state.mono (by decide)) hr rfl (pac (pe_def (D_cell_at.mono (by decide)) hr rfl (pac (pv 0) (pac pe_int pa_nil))) (pac pe_int pa_nil))))
      (pss_cons (ps_set (i := 2) sc_law.nd rfl (Or.inl rfl) (pe_def (D_names.mono (by decide)) hr rfl (pac (pv 1) (pac pe_int pa_nil))))
      (pss_cons (ps_set (i := 3) sc_law.nd rfl (Or.inl rfl) (pe_slice sl_list (pv 2) po_none (po_some (pe_def (D_next.mono (by decide)) hr rfl (pac (pv 1) (pac pe_int pa_nil))))))
      (pss_cons (ps_set (i := 4) sc_law.nd rfl (Or.inl rfl) (pe_slice sl_list (pe_slice sl_list (pv 2) (po_some pe_int) po_none) po_none (po_some (pe_def (D_next.mono (by decide)) hr rfl (pac (pv 1) (pac pe_int pa_nil))))))
      (pss_cons (ps_set (i := 5) sc_law.nd rfl (Or.inl rfl) (pe_def (D_thing) hr rfl (pac (pe_def (D_state.mono (by decide)) hr rfl (pac (pe_def (D_cell_at.mono (by decide)) hr rfl (pac (pv 0) (pac pe_int pa_nil))) (pac pe_int pa_nil))) (pac (pv 3) (pac (pv 4) pa_nil)))))
      (pss_cons (ps_for PassesOwn.never rfl (pi_tup (pe_tup (pac (pv 4) (pac (pe_lst pa_nil) (pac (pv 4) pa_nil))))) (pg_name (i := 6) sc_law.nd rfl (Or.inl rfl))
      (pss_one (ps_if (pt_not (pt_val (pe_def (D_same.mono (by decide)) hr rfl (pac (pe_def (D_is_value) hr rfl (pac (pv 5) (pac (pe_cT call_list_of rfl T.z_list bt_list (pac (pv 3) pa_nil)) (pac (pe_cT call_list_of rfl T.z_list bt_list (pac (pv 6) pa_nil)) pa_nil)))) (pac (pe_def ((D_lvalue 4).mono (by decide)) hr rfl (pac (pv 5) (pac (pv 3) (pac (pv 6) (pac pe_int pa_nil))))) pa_nil)))))
      (pss_one (ps_ret pe_bl)) pss_nil)))
      (pss_cons (ps_set (i := 1) sc_law.nd rfl (Or.inl rfl) (pe_def (D_state.mono (by decide)) hr rfl (pac (pe_def (D_cell_at.mono (by decide)) hr rfl (pac (pv 0) (pac pe_int pa_nil))) (pac pe_int pa_nil))))
      (pss_cons (ps_set (i := 7) sc_law.nd rfl (Or.inl rfl) (pv 5))
      (pss_cons (ps_while PassesOwn.never (pt_cut (PW.pt (pw_and (pt_val (pe_cB call_isi2 rfl T.z_isinstance bt_isinstance (pac (pv 7) (pac (pe_tup (pac (pe_ty T.z_tuple bt_tuple rfl) (pac (pe_ty T.z_list bt_list rfl) pa_nil))) pa_nil)))) (pw_and (pt_cmpR op_gt (pe_cB call_len_seq rfl T.z_len bt_len (pac (pv 7) pa_nil)) pe_int (nomark _)) (pw_and1 (pt_cmpR op_gt (pe_def (D_next.mono (by decide)) hr rfl (pac (pv 1) (pac pe_int pa_nil))) pe_int (nomark _)))))))
      (pss_one (ps_set (i := 7) sc_law.nd rfl (Or.inl rfl) (pe_ix (ix_list.or ix_tup) (pv 7) (pe_def (D_next.mono (by decide)) hr rfl (pac (pv 1) (pac (pe_cB call_len_seq rfl T.z_len bt_len (pac (pv 7) pa_nil)) pa_nil))) (fun _ _ => rfl)))))
      (pss_cons (ps_set (i := 8) sc_law.nd rfl (Or.inl rfl) (pe_ix ix_list (pv 2) pe_int (fun _ _ => rfl)))
      (pss_cons (ps_set (i := 9) sc_law.nd rfl (Or.inl rfl) (pe_lst (pac (pv 8) (pac (pe_op op_add_str (pv 8) pe_str) (pac (pe_slice sl_str (pv 8) (po_some pe_int) po_none) (pac (pe_op op_add_str (pv 8) pe_str) (pac (pe_bm0 PySem.F.plainAttrs_str PySem.F.slot_str_upper PySem.F.type_str_upper mt_upper (pv 8)) (pac (pe_op op_add_str (pv 8) pe_str) pa_nil))))))))
      (pss_cons (ps_set (i := 9) sc_law.nd rfl (Or.inl rfl) (pe_op op_cat (pv 9) (pe_lst (pac pe_str (pac pe_str (pac (pe_op op_add_str (pe_slice sl_str (pv 8) po_none (po_some (pe_un un_neg pe_int))) pe_str) (pac pe_str pa_nil)))))))
      (pss_cons (ps_set (i := 10) sc_law.nd rfl (Or.inl rfl) (pe_ix ix_list (pe_lst (pac pe_int (pac pe_int (pac pe_int (pac (pe_un un_neg pe_int) (pac (pe_op op_mod (pe_def (D_cell_at.mono (by decide)) hr rfl (pac (pv 0) (pac pe_int pa_nil))) pe_int) (pac pe_bl (pac pe_bl (pac (pe_op op_pow pe_int pe_int) pa_nil))))))))) (pe_def (D_next.mono (by decide)) hr rfl (pac (pv 1) (pac pe_int pa_nil))) (fun _ _ => rfl)))
      (pss_cons (ps_for PassesOwn.never rfl (pi_tup (pe_tup (pac (pv 7) (pac (pe_ix ix_list (pv 9) (pe_def (D_next.mono (by decide)) hr rfl (pac (pv 1) (pac pe_int pa_nil))) (fun _ _ => rfl)) (pac (pv 10) (pac (pv 5) (pac pe_non pa_nil))))))) (pg_name (i := 11) sc_law.nd rfl (Or.inl rfl))
      (pss_one (ps_if (pt_cut (PW.pt (pw_or (pt_not (pt_val (pe_def (D_same.mono (by decide)) hr rfl (pac (pe_def (D_is_name.mono (by decide)) hr rfl (pac (pv 11) pa_nil)) (pac (pe_def (D_lname.mono (by decide)) hr rfl (pac (pv 11) pa_nil)) pa_nil))))) (pw_or1 (pt_not (pt_val (pe_def (D_same.mono (by decide)) hr rfl (pac (pe_def (D_is_number.mono (by decide)) hr rfl (pac (pv 11) pa_nil)) (pac (pe_def (D_lnumber.mono (by decide)) hr rfl (pac (pv 11) pa_nil)) pa_nil)))))))))
      (pss_one (ps_ret pe_bl)) pss_nil)))
      (pss_one (ps_ret pe_bl)))))))))))))))), ?_⟩
  have l3 : (100 : Nat) < sizeLine := by decide
  refine ⟨_, rfl, a, ns, 0, rfl, hS, by decide, fun i0 => ⟨i0, 1, rfl, by decide, by decide, fun p n hp n0 n1 => ?_⟩⟩
  have s1 := same_of_new hp (.lst [.int n])
  have g1 : Gen p (upd H p (.lst [.int n])) := ⟨n, upd_same, n0, n1⟩
  refine ⟨_, rfl, p, 6, rfl, g1, by decide, by decide, fun an nms H2 e2 han hn2 hlen hnm => ?_⟩
  have s2 := sameOf hp s1 e2
  refine ⟨_, rfl, _, rfl, p, 4, rfl, e2.gen, by decide, fun r1 H3 r10 r11 e3 => ?_⟩
  have hn3 := Ext.lst e2.gen e3 hn2
  refine ⟨_, rfl, an, _, rfl, SqL.of hn3, fun b hb => ?_⟩
  obtain ⟨bs, ebs, hbs⟩ := cut_strs nms none (some r1)
  rw [ebs]
  have s3 := sameOf hp s2 e3
  have sb := same_of_new hb (.lst (bs.map V.str))
  have s4 := s3.trans sb
  have g4 := e3.gen.same sb
  refine ⟨_, rfl, _, rfl, an, _, rfl, SqL.of (sb _ _ hn3), fun l0 hl0 => ?_⟩
  obtain ⟨ls0, els0, hls0⟩ := cut_strs nms (some 3) none
  rw [els0]
  have sl0 := same_of_new hl0 (.lst (ls0.map V.str))
  have s5 := s4.trans sl0
  have g5 := g4.same sl0
  refine ⟨_, rfl, p, 4, rfl, g5, by decide, fun r2 H6 r20 r21 e6 => ?_⟩
  have hl06 : H6 l0 = some (.lst (ls0.map V.str)) := Ext.lst g5 e6 upd_same
  refine ⟨_, rfl, l0, _, rfl, SqL.of hl06, fun l hl => ?_⟩
  obtain ⟨ls, els, hls⟩ := cut_strs ls0 none (some r2)
  rw [els]
  have s6 := sameOf hp s5 e6
  have sl := same_of_new hl (.lst (ls.map V.str))
  have s7 := s6.trans sl
  have hn7 := sl _ _ (Ext.lst g5 e6 (sl0 _ _ (sb _ _ hn3)))
  have hb7 := sl _ _ (Ext.lst g5 e6 (sl0 _ _ (upd_same (H := H3) (a := b) (o := .lst (bs.map V.str)))))
  have bnm : ∀ x ∈ bs, nmS x = true := fun x hx => hnm x (hbs x hx)
  have lnm : ∀ x ∈ ls, nmS x = true := fun x hx => hnm x (hls0 x (hls x hx))
  -- the thing
  refine ⟨_, rfl, a, ns, 1, rfl, Same.seq s7 hS, by decide, fun i1 => ⟨i1, 2, rfl, by decide, by decide, fun p2 n2 hp2 n20 n21 => ?_⟩⟩
  have sp2 := same_of_new hp2 (.lst [.int n2])
  have g8 : Gen p2 (upd (upd H6 l (.lst (ls.map V.str))) p2 (.lst [.int n2])) := ⟨n2, upd_same, n20, n21⟩
  refine ⟨_, rfl, _, rfl, p2, b, l, bs, ls, rfl, g8, sp2 _ _ hb7, sp2 _ _ upd_same, (fun x hx => by have := nm_len (bnm x hx); omega), (fun x hx => by have := nm_len (lnm x hx); omega), fun v H9 e9 hv => ?_⟩
  have s79 := sameOf hp2 sp2 e9
  have s9 := s7.trans s79
  have hn9 := s79 _ _ hn7
  have hb9 := s79 _ _ hb7
  have hl9 := s79 _ _ (upd_same (H := H6) (a := l) (o := .lst (ls.map V.str)))
  -- three times
  refine ⟨_, rfl, (by show 0 ≤ sizeLine; omega), fun e0 he0 => ?_⟩
  have se := same_of_new he0 (.lst [])
  refine ⟨_, rfl, (by show 3 ≤ sizeLine; omega), fun pt hpt => ?_⟩
  have st := same_of_new hpt (.tup [.ref l, .ref e0, .ref l])
  have sA := se.trans st
  refine ⟨pt, rfl, ⟨_, SqT.of upd_same⟩, ?_⟩
  have hb10 := sA _ _ hb9
  have hl10 := sA _ _ hl9
  have hv10 := hv.same sA
  have he10 := st _ _ (upd_same (H := H9) (a := e0) (o := .lst []))
  have hpt10 : SqT K (upd (upd H9 e0 (.lst [])) pt (.tup [.ref l, .ref e0, .ref l])) pt [.ref l, .ref e0, .ref l] := SqT.of upd_same
  generalize upd (upd H9 e0 (.lst [])) pt (.tup [.ref l, .ref e0, .ref l]) = HA at *
  refine for_tup (xs := [.ref l, .ref e0, .ref l]) (fun _ σ H' => Same HA H' ∧ ∃ x6, σ = [some (.ref a), some (.ref p), some (.ref an), some (.ref b), some (.ref l), some v, x6, none, none, none, none, none]) ⟨Same.refl _, _, rfl⟩ (fun i σ H' hi hP => Same.seqT hP.1 hpt10) ?_ ?_
  · rintro i x σ H' hxi ⟨sm, x6, rfl⟩
    obtain ⟨c, ls', rfl, hc, hcn⟩ : ∃ (c : Addr) (ls' : List Str), x = .ref c ∧ H' c = some (.lst (ls'.map V.str)) ∧ ∀ x ∈ ls', nmS x = true := by
      have hm := List.mem_of_getElem? hxi
      simp only [List.mem_cons, List.not_mem_nil, or_false] at hm
      rcases hm with rfl | rfl | rfl
      · exact ⟨l, ls, rfl, sm _ _ hl10, lnm⟩
      · exact ⟨e0, [], rfl, sm _ _ he10, by simp⟩
      · exact ⟨l, ls, rfl, sm _ _ hl10, lnm⟩
    refine ⟨_, rfl, _, rfl, b, _, rfl, .inl (SqL.of (sm _ _ hb10)), fun c1 hc1 => ?_⟩
    have k1 := same_of_new hc1 (.lst (bs.map V.str))
    refine ⟨_, rfl, c, _, rfl, .inl (SqL.of (k1 _ _ hc)), fun c2 hc2 => ?_⟩
    have k2 := same_of_new hc2 (.lst (ls'.map V.str))
    have k02 := sm.trans (k1.trans k2)
    refine ⟨v, c1, c2, p2, 200, bs, ls', rfl, hv10.same k02, k2 _ _ upd_same, upd_same, bnm, hcn, fun H3' k3 => ?_⟩
    have k03 := k02.trans k3
    refine ⟨_, rfl, _, rfl, _, rfl, v, b, c, 4, p2, 200, bs, ls', rfl, rfl, hv10.same k03, k03 _ _ hb10, k3 _ _ (k2 _ _ (k1 _ _ hc)), bnm, hcn, fun H4' k4 => ?_⟩
    refine ⟨isVal HA bs ls' 4 v, by rw [isVal_same k02 hv10, isVal_same k03 hv10], _, rfl, ifF rfl ⟨k03.trans k4, _, rfl⟩⟩
  rintro σ HB ⟨sAB, x6, rfl⟩
  have s9B := sA.trans sAB
  have hvB := hv.same s9B
  have hnB := s9B _ _ hn9
  have hSB : SqL K HB a (ns.map V.int) := Same.seq (s9.trans s9B) hS
  clear s9B sAB sA st se hpt10 he10 hv10 hl10 hb10 hv hn9 hb9 hl9 s9 s79 e9
  -- a new generator
  refine ⟨_, rfl, a, ns, 2, rfl, hSB, by decide, fun i3 => ⟨i3, 3, rfl, by decide, by decide, fun p3 n3 hp3 n30 n31 => ?_⟩⟩
  have sp3 := same_of_new hp3 (.lst [.int n3])
  have gC : Gen p3 (upd HB p3 (.lst [.int n3])) := ⟨n3, upd_same, n30, n31⟩
  have hvC := (hvB.move hp3).same sp3
  have hnC := sp3 _ _ hnB
  have anp3 : an ≠ p3 := ne_of_none hnB hp3
  have hkeep : ∀ H', Ext p3 (upd HB p3 (.lst [.int n3])) H' → SqL K H' a (ns.map V.int) := fun H' e => Same.seq (sameOf hp3 sp3 e) hSB
  generalize upd HB p3 (.lst [.int n3]) = HC at *
  refine ⟨_, rfl, ?_⟩
  -- into the thing
  let σw : V → St := fun u => [some (.ref a), some (.ref p3), some (.ref an), some (.ref b), some (.ref l), some v, x6, some u, none, none, none, none]
  refine ⟨fun m σ H' => ∃ u, σ = σw u ∧ Ext p3 HC H' ∧ m ≤ 200 ∧ Dt p3 H' m u, ⟨200, v, rfl, Ext.refl gC, Nat.le_refl _, hvC⟩, ?_⟩
  rintro m σ H' ⟨u, rfl, eD, hm, hu⟩
  refine ⟨fun t H1 => Ext p3 H' H1 ∧ (t = false ∨ (t = true ∧ ∃ (k : Nat) (c : Addr) (xs : List V), m = k + 1 ∧ u = .ref c ∧ c ≠ p3 ∧ (H1 c = some (.tup xs) ∨ H1 c = some (.lst xs)) ∧ xs ≠ [] ∧ ∀ x ∈ xs, Dt p3 H1 k x)), ?_, ?_⟩
  · refine ⟨_, rfl, (by show 2 ≤ sizeLine; omega), fun c0 hc0 => ?_⟩
    have k0 := same_of_new hc0 (.tup [.ty "tuple", .ty "list"])
    have g0 := eD.gen.same k0
    have hu0 := hu.same k0
    obtain ⟨t, ty, ⟨k, c, xs, rfl, rfl, ht, hcp, hc, hc10, hx⟩ | ht⟩ := hu0.seqOr g0
    · refine ⟨_, c0, t, rfl, upd_same, ty, _, rfl, ifT ht ?_⟩
      have hq : SqL K (upd H' c0 (.tup [.ty "tuple", .ty "list"])) c xs ∨ SqT K (upd H' c0 (.tup [.ty "tuple", .ty "list"])) c xs := hc.elim (fun h => .inr (SqT.of h)) (fun h => .inl (SqL.of h))
      refine ⟨_, rfl, c, xs, rfl, hq, _, _, rfl, rfl, _, rfl, ite2 (fun d1 => ?_) (fun d1 => ?_)⟩
      · have d1' : (0 : Int) < (xs.length : Int) := of_decide_eq_true d1
        have hne : xs ≠ [] := fun z => by rw [z] at d1'; exact absurd d1' (by decide)
        refine ⟨_, rfl, p3, 5, rfl, g0, by decide, fun r H1 r0 r1' e1 => ⟨_, _, rfl, rfl, _, rfl, (Same.ext eD.gen k0).trans e1, ?_⟩⟩
        by_cases d2 : r > 0
        · refine .inr ⟨decide_eq_true d2, k, c, xs, rfl, rfl, hcp, hc.imp (fun h => e1.but _ _ hcp h) (fun h => e1.but _ _ hcp h), hne, fun x hxx => (hx x hxx).ext g0 e1⟩
        · exact .inl (decide_eq_false d2)
      · exact ⟨Same.ext eD.gen k0, .inl rfl⟩
    · exact ⟨_, c0, t, rfl, upd_same, ty, _, rfl, ifF ht ⟨Same.ext eD.gen k0, .inl rfl⟩⟩
  rintro t H1 ⟨e1, rfl | ⟨rfl, k, c, xs, rfl, rfl, hcp, hc, hne, hx⟩⟩
  case inr =>
    refine iteT ?_
    have hq : SqL K H1 c xs ∨ SqT K H1 c xs := hc.elim (fun h => .inr (SqT.of h)) (fun h => .inl (SqL.of h))
    have hpos : (0 : Int) < (xs.length : Int) := by have := List.length_pos_iff.mpr hne; omega
    refine ⟨fun σ' H2 => ∃ u', σ' = σw u' ∧ Ext p3 HC H2 ∧ Dt p3 H2 k u', fun σ' H2 ⟨u', h1, h2, h3⟩ => ⟨k, by omega, u', h1, h2, by omega, h3⟩, ?_⟩
    refine ⟨_, rfl, _, rfl, _, rfl, c, xs, rfl, hq, p3, _, rfl, e1.gen, hpos, fun r H2 r0 r1' e2' => ?_⟩
    obtain ⟨y, hy, hym⟩ := at_mem (xs := xs) r0 r1'
    have fin : ∃ u', σw y = σw u' ∧ Ext p3 HC H2 ∧ Dt p3 H2 k u' := ⟨y, rfl, (eD.trans e1).trans e2', (hx y hym).ext e1.gen e2'⟩
    rcases hc with hc | hc
    · exact .inr ⟨c, xs, r, y, rfl, rfl, SqT.of (e2'.but _ _ hcp hc), hy, fin⟩
    · exact .inl ⟨c, xs, r, y, rfl, rfl, SqL.of (e2'.but _ _ hcp hc), hy, fin⟩
  refine ifF rfl ?_
  have eE := eD.trans e1
  have huE : Dt p3 H1 200 u := (hu.ext eD.gen e1).up hm
  have hvE : Dt p3 H1 200 v := hvC.ext gC eE
  have hnE := eE.but _ _ anp3 hnC
  clear huE
  have huE : Dt p3 H1 200 u := (hu.ext eD.gen e1).up hm
  obtain ⟨nm, hnm0, hnmm⟩ := at_str (ns := nms) (k := 0) (by decide) (by omega)
  have hnm6 := nm_len (hnm nm hnmm)
  refine ⟨_, rfl, an, _, 0, _, rfl, rfl, SqL.of hnE, hnm0, ?_⟩
  have j1 : ∀ z : Str, z.length = 1 → nm.length + z.length ≤ sizeLine := fun z hz => by omega
  have j2 : ∀ z : Str, z.length = 1 → (nm ++ z).length ≤ 100 := fun z hz => by rw [len_append]; omega
  have b1 : ("b" : Str).length = 1 := by decide +kernel
  have b2 : (" " : Str).length = 1 := by decide +kernel
  have b3 : ("\n" : Str).length = 1 := by decide +kernel
  have b4 : ("1" : Str).length = 1 := by decide +kernel
  refine ⟨_, rfl, _, rfl, nm, _, rfl, rfl, j1 _ b1, _, rfl, 1, rfl, nm, rfl, by omega, fun y1 hy1 => ?_⟩
  refine ⟨_, rfl, nm, _, rfl, rfl, j1 _ b2, _, rfl, rfl, nm, rfl, rfl, by omega, fun y2 hy2 => ?_⟩
  refine ⟨_, rfl, nm, _, rfl, rfl, j1 _ b3, (by show 6 ≤ sizeLine; omega), fun t1 ht1 => ?_⟩
  have tx1 : ∀ z ∈ [V.str nm, .str (nm ++ "b"), .str y1, .str (nm ++ " "), .str y2, .str (nm ++ "\n")], ∃ x : Str, z = .str x ∧ x.length ≤ 100 := fun z hz => by
    simp only [List.mem_cons, List.not_mem_nil, or_false] at hz
    rcases hz with rfl | rfl | rfl | rfl | rfl | rfl
    · exact ⟨_, rfl, by omega⟩
    · exact ⟨_, rfl, j2 _ b1⟩
    · exact ⟨_, rfl, by omega⟩
    · exact ⟨_, rfl, j2 _ b2⟩
    · exact ⟨_, rfl, by omega⟩
    · exact ⟨_, rfl, j2 _ b3⟩
  have k1 := same_of_new ht1 (.lst [V.str nm, .str (nm ++ "b"), .str y1, .str (nm ++ " "), .str y2, .str (nm ++ "\n")])
  refine ⟨_, rfl, _, rfl, 1, rfl, -1, rfl, nm, rfl, by omega, fun y3 hy3 => ?_⟩
  refine ⟨y3, _, rfl, rfl, (by rw [b4]; omega), (by show 4 ≤ sizeLine; omega), fun t2 ht2 => ?_⟩
  have k2 := same_of_new ht2 (.lst [V.str "abcdef", .str "abcdefg", .str (y3 ++ "1"), .str ""])
  refine ⟨t1, t2, _, _, rfl, rfl, k2 _ _ upd_same, upd_same, (by show 6 + 4 ≤ sizeLine; omega), fun t3 ht3 => ?_⟩
  have tx2 : ∀ z ∈ [V.str nm, .str (nm ++ "b"), .str y1, .str (nm ++ " "), .str y2, .str (nm ++ "\n")] ++ [V.str "abcdef", .str "abcdefg", .str (y3 ++ "1"), .str ""], ∃ x : Str, z = .str x ∧ x.length ≤ 100 := fun z hz => by
    rcases List.mem_append.mp hz with h | h
    · exact tx1 z h
    · simp only [List.mem_cons, List.not_mem_nil, or_false] at h
      rcases h with rfl | rfl | rfl | rfl
      · exact ⟨_, rfl, by decide +kernel⟩
      · exact ⟨_, rfl, by decide +kernel⟩
      · exact ⟨_, rfl, by rw [len_append, b4]; omega⟩
      · exact ⟨_, rfl, by decide +kernel⟩
  have tl : ([V.str nm, .str (nm ++ "b"), .str y1, .str (nm ++ " "), .str y2, .str (nm ++ "\n")] ++ [V.str "abcdef", .str "abcdefg", .str (y3 ++ "1"), .str ""]).length = 10 := rfl
  generalize [V.str nm, .str (nm ++ "b"), .str y1, .str (nm ++ " "), .str y2, .str (nm ++ "\n")] ++ [V.str "abcdef", .str "abcdefg", .str (y3 ++ "1"), .str ""] = ts at *
  have k3 := same_of_new ht3 (.lst ts)
  have k13 := k1.trans (k2.trans k3)
  have gF := e1.gen.same k13
  have eF := eE.trans (Same.ext e1.gen k13)
  have t3p : t3 ≠ p3 := (e1.gen.same (k1.trans k2)).ne ht3
  refine ⟨_, rfl, _, rfl, a, ns, 3, rfl, hkeep _ eF, by decide, fun i4 => ⟨_, _, rfl, rfl, (by show (0 : Int) < 2000000; decide), _, _, rfl, rfl, ⟨by decide, by decide, by decide⟩, (by show 8 ≤ sizeLine; omega), fun t4 ht4 => ?_⟩⟩
  have k4 := same_of_new ht4 (.lst [.int 0, .int 999999, .int 1000000, .int (-1), .int (i4 % 2000000), .bl true, .bl false, .int (10 ^ (30 : Int).toNat)])
  have gG := gF.same k4
  have eG := eF.trans (Same.ext gF k4)
  have t4p : t4 ≠ p3 := gF.ne ht4
  refine ⟨_, rfl, p3, 8, rfl, gG, by decide, fun r5 H5 r50 r51 e5 => ?_⟩
  obtain ⟨num, hnum, hnumm⟩ := at_mem (xs := [V.int 0, .int 999999, .int 1000000, .int (-1), .int (i4 % 2000000), .bl true, .bl false, .int (10 ^ (30 : Int).toNat)]) r50 r51
  have nD : ∀ H', Dt p3 H' 200 num := fun H' => by
    simp only [List.mem_cons, List.not_mem_nil, or_false] at hnumm
    rcases hnumm with rfl | rfl | rfl | rfl | rfl | rfl | rfl | rfl <;> exact trivial
  refine ⟨t4, _, r5, num, rfl, rfl, SqL.of (e5.but _ _ t4p upd_same), hnum, ?_⟩
  have ht35 := e5.but _ _ t3p (k4 _ _ (upd_same (a := t3) (o := .lst ts)))
  refine ⟨_, rfl, _, rfl, _, rfl, p3, 10, rfl, e5.gen, by decide, fun r6 H6' r60 r61 e6' => ?_⟩
  obtain ⟨tt, htt, httm⟩ := at_mem (xs := ts) r60 (by rw [tl]; exact r61)
  obtain ⟨tx, rfl, htx⟩ := tx2 tt httm
  refine ⟨t3, _, r6, _, rfl, rfl, SqL.of (e6'.but _ _ t3p ht35), htt, ?_⟩
  refine ⟨_, rfl, _, rfl, (by show 5 ≤ sizeLine; omega), fun pz hpz => ?_⟩
  have eZ : Ext p3 H1 H6' := (Same.ext e1.gen (k13.trans k4)).trans (e5.trans e6')
  have kz := same_of_new hpz (.tup [u, .str tx, num, v, .non])
  have allD : ∀ x ∈ [u, V.str tx, num, v, .non], Dt p3 (upd H6' pz (.tup [u, .str tx, num, v, .non])) 200 x := fun x hx => by
    simp only [List.mem_cons, List.not_mem_nil, or_false] at hx
    rcases hx with rfl | rfl | rfl | rfl | rfl
    · exact (huE.ext e1.gen eZ).same kz
    · exact htx
    · exact nD _
    · exact (hvE.ext e1.gen eZ).same kz
    · exact trivial
  have hpzT : SqT K (upd H6' pz (.tup [u, .str tx, num, v, .non])) pz [u, .str tx, num, v, .non] := SqT.of upd_same
  refine ⟨pz, rfl, ⟨_, SqT.of upd_same⟩, ?_⟩
  generalize upd H6' pz (.tup [u, .str tx, num, v, .non]) = HZ at *
  refine for_tup (xs := [u, .str tx, num, v, .non]) (fun _ σ H' => Same HZ H' ∧ ∃ x11, σ = [some (.ref a), some (.ref p3), some (.ref an), some (.ref b), some (.ref l), some v, x6, some u, some (.str nm), some (.ref t3), some num, x11]) ⟨Same.refl _, _, rfl⟩ (fun i σ H' hi hP => Same.seqT hP.1 hpzT) ?_ ?_
  · rintro i x σ H' hxi ⟨sm, x11, rfl⟩
    have hD := allD x (List.mem_of_getElem? hxi)
    refine ⟨fun t H2 => t = false ∧ Same HZ H2, ?_, ?_⟩
    · refine ⟨_, rfl, x, p3, 200, rfl, hD.same sm, fun H2 m2 => ?_⟩
      have m02 := sm.trans m2
      refine ⟨_, rfl, x, p3, 200, rfl, hD.same m02, fun H3 m3 => ?_⟩
      have m03 := m02.trans m3
      refine ⟨nmV x, rfl, _, rfl, ifF rfl ?_⟩
      refine ⟨_, rfl, x, p3, 200, rfl, hD.same m03, _, rfl, x, p3, 200, rfl, hD.same m03, numV x, rfl, _, rfl, rfl, m03⟩
    rintro t H2 ⟨rfl, m2⟩
    exact ifF rfl ⟨m2, _, rfl⟩
  rintro σ HY ⟨_, x11, rfl⟩
  exact q HY
end
end K01

set_option Elab.async false
set_option linter.all false
set_option maxRecDepth 100000
set_option maxHeartbeats 4000000
namespace K01
open PySem L2
section
variable {w : World} {K : PySem.W.Frag} {mg : Str → Option Value} {h : Heap}
/-! ### the text's top -/
theorem src_mk {x : Str} {st : Stmt} {ps : List Str} {f : Addr} {oc : Value} {od an : Option Addr} {osl : Array (Option Value)} {kV doc pm cdv ct : Value} (X : K.In h) (G : h.Ns mainGlobals mg)
    (hb : ∀ (kV doc pm : Value) (an : Option Addr) (cdv ct : Value) (us : List Value), us.length = ps.length → bindArgs (PySem.W.fnOf x x (defArgs st) (defBody st) (defScope st) .none kV doc pm an cdv ct) ⟨us, []⟩ = pure (ps.zip us))
    (a : PySem.W.nsIn K mainGlobals x = some (some (.ref f))) (l : K.lookup f = some ⟨oc, od, .func (PySem.W.fnOf x x (defArgs st) (defBody st) (defScope st) .none kV doc pm an cdv ct), osl⟩)
    (c : PySem.W.codeIn K cdv x = true) (k : PySem.W.keepIn K (.ref f) = true) : Src K mg x st ps :=
  have F := fun_mk (st := st) l c k
  ⟨f, _, F, PySem.W.mg_of X G a, F.binds hb⟩
theorem bi2 (kV doc pm : Value) (an : Option Addr) (cdv ct : Value) (us : List Value) (hl : us.length = (["thing"] : List Str).length) : bindArgs (PySem.W.fnOf "has_word" "has_word" (defArgs (top 2)) (defBody (top 2)) (defScope (top 2)) .none kV doc pm an cdv ct) ⟨us, []⟩ = pure ((["thing"] : List Str).zip us) :=
  match us, hl with | [_], _ => rfl
theorem bi3 (kV doc pm : Value) (an : Option Addr) (cdv ct : Value) (us : List Value) (hl : us.length = (["word"] : List Str).length) : bindArgs (PySem.W.fnOf "value_kinds" "value_kinds" (defArgs (top 3)) (defBody (top 3)) (defScope (top 3)) .none kV doc pm an cdv ct) ⟨us, []⟩ = pure ((["word"] : List Str).zip us) :=
  match us, hl with | [_], _ => rfl
theorem bi8 (kV doc pm : Value) (an : Option Addr) (cdv ct : Value) (us : List Value) (hl : us.length = (["thing"] : List Str).length) : bindArgs (PySem.W.fnOf "is_name" "is_name" (defArgs (top 8)) (defBody (top 8)) (defScope (top 8)) .none kV doc pm an cdv ct) ⟨us, []⟩ = pure ((["thing"] : List Str).zip us) :=
  match us, hl with | [_], _ => rfl
theorem bi9 (kV doc pm : Value) (an : Option Addr) (cdv ct : Value) (us : List Value) (hl : us.length = (["thing", "least", "most"] : List Str).length) : bindArgs (PySem.W.fnOf "is_whole" "is_whole" (defArgs (top 9)) (defBody (top 9)) (defScope (top 9)) .none kV doc pm an cdv ct) ⟨us, []⟩ = pure ((["thing", "least", "most"] : List Str).zip us) :=
  match us, hl with | [_, _, _], _ => rfl
theorem bi10 (kV doc pm : Value) (an : Option Addr) (cdv ct : Value) (us : List Value) (hl : us.length = (["thing"] : List Str).length) : bindArgs (PySem.W.fnOf "is_number" "is_number" (defArgs (top 10)) (defBody (top 10)) (defScope (top 10)) .none kV doc pm an cdv ct) ⟨us, []⟩ = pure ((["thing"] : List Str).zip us) :=
  match us, hl with | [_], _ => rfl
theorem bi11 (kV doc pm : Value) (an : Option Addr) (cdv ct : Value) (us : List Value) (hl : us.length = (["thing", "boxes", "lists"] : List Str).length) : bindArgs (PySem.W.fnOf "is_value" "is_value" (defArgs (top 11)) (defBody (top 11)) (defScope (top 11)) .none kV doc pm an cdv ct) ⟨us, []⟩ = pure ((["thing", "boxes", "lists"] : List Str).zip us) :=
  match us, hl with | [_, _, _], _ => rfl
theorem bi12 (kV doc pm : Value) (an : Option Addr) (cdv ct : Value) (us : List Value) (hl : us.length = (["thing", "boxes", "lists", "depth"] : List Str).length) : bindArgs (PySem.W.fnOf "is_value_within" "is_value_within" (defArgs (top 12)) (defBody (top 12)) (defScope (top 12)) .none kV doc pm an cdv ct) ⟨us, []⟩ = pure ((["thing", "boxes", "lists", "depth"] : List Str).zip us) :=
  match us, hl with | [_, _, _, _], _ => rfl
theorem bi13 (kV doc pm : Value) (an : Option Addr) (cdv ct : Value) (us : List Value) (hl : us.length = (["kind", "part", "boxes", "lists", "depth"] : List Str).length) : bindArgs (PySem.W.fnOf "is_part" "is_part" (defArgs (top 13)) (defBody (top 13)) (defScope (top 13)) .none kV doc pm an cdv ct) ⟨us, []⟩ = pure ((["kind", "part", "boxes", "lists", "depth"] : List Str).zip us) :=
  match us, hl with | [_, _, _, _, _], _ => rfl
theorem bi15 (kV doc pm : Value) (an : Option Addr) (cdv ct : Value) (us : List Value) (hl : us.length = (["_law_script", "_law_k"] : List Str).length) : bindArgs (PySem.W.fnOf "_law_cell_at" "_law_cell_at" (defArgs (top 15)) (defBody (top 15)) (defScope (top 15)) .none kV doc pm an cdv ct) ⟨us, []⟩ = pure ((["_law_script", "_law_k"] : List Str).zip us) :=
  match us, hl with | [_, _], _ => rfl
theorem bi16 (kV doc pm : Value) (an : Option Addr) (cdv ct : Value) (us : List Value) (hl : us.length = (["_law_cell", "_law_k"] : List Str).length) : bindArgs (PySem.W.fnOf "_law_state" "_law_state" (defArgs (top 16)) (defBody (top 16)) (defScope (top 16)) .none kV doc pm an cdv ct) ⟨us, []⟩ = pure ((["_law_cell", "_law_k"] : List Str).zip us) :=
  match us, hl with | [_, _], _ => rfl
theorem bi17 (kV doc pm : Value) (an : Option Addr) (cdv ct : Value) (us : List Value) (hl : us.length = (["_law_state_here", "_law_size"] : List Str).length) : bindArgs (PySem.W.fnOf "_law_next" "_law_next" (defArgs (top 17)) (defBody (top 17)) (defScope (top 17)) .none kV doc pm an cdv ct) ⟨us, []⟩ = pure ((["_law_state_here", "_law_size"] : List Str).zip us) :=
  match us, hl with | [_, _], _ => rfl
theorem bi18 (kV doc pm : Value) (an : Option Addr) (cdv ct : Value) (us : List Value) (hl : us.length = (["_law_state_here", "_law_amount"] : List Str).length) : bindArgs (PySem.W.fnOf "_law_names" "_law_names" (defArgs (top 18)) (defBody (top 18)) (defScope (top 18)) .none kV doc pm an cdv ct) ⟨us, []⟩ = pure ((["_law_state_here", "_law_amount"] : List Str).zip us) :=
  match us, hl with | [_, _], _ => rfl
theorem bi19 (kV doc pm : Value) (an : Option Addr) (cdv ct : Value) (us : List Value) (hl : us.length = (["_law_state_here", "_law_deep", "_law_boxes", "_law_lists"] : List Str).length) : bindArgs (PySem.W.fnOf "_law_value" "_law_value" (defArgs (top 19)) (defBody (top 19)) (defScope (top 19)) .none kV doc pm an cdv ct) ⟨us, []⟩ = pure ((["_law_state_here", "_law_deep", "_law_boxes", "_law_lists"] : List Str).zip us) :=
  match us, hl with | [_, _, _, _], _ => rfl
theorem bi20 (kV doc pm : Value) (an : Option Addr) (cdv ct : Value) (us : List Value) (hl : us.length = (["_law_thing_here"] : List Str).length) : bindArgs (PySem.W.fnOf "_law_is_name" "_law_is_name" (defArgs (top 20)) (defBody (top 20)) (defScope (top 20)) .none kV doc pm an cdv ct) ⟨us, []⟩ = pure ((["_law_thing_here"] : List Str).zip us) :=
  match us, hl with | [_], _ => rfl
theorem bi21 (kV doc pm : Value) (an : Option Addr) (cdv ct : Value) (us : List Value) (hl : us.length = (["_law_thing_here"] : List Str).length) : bindArgs (PySem.W.fnOf "_law_is_number" "_law_is_number" (defArgs (top 21)) (defBody (top 21)) (defScope (top 21)) .none kV doc pm an cdv ct) ⟨us, []⟩ = pure ((["_law_thing_here"] : List Str).zip us) :=
  match us, hl with | [_], _ => rfl
theorem bi22 (kV doc pm : Value) (an : Option Addr) (cdv ct : Value) (us : List Value) (hl : us.length = (["_law_thing_here", "_law_names_here"] : List Str).length) : bindArgs (PySem.W.fnOf "_law_among" "_law_among" (defArgs (top 22)) (defBody (top 22)) (defScope (top 22)) .none kV doc pm an cdv ct) ⟨us, []⟩ = pure ((["_law_thing_here", "_law_names_here"] : List Str).zip us) :=
  match us, hl with | [_, _], _ => rfl
theorem bi23 (kV doc pm : Value) (an : Option Addr) (cdv ct : Value) (us : List Value) (hl : us.length = (["_law_thing_here", "_law_boxes", "_law_lists", "_law_deep"] : List Str).length) : bindArgs (PySem.W.fnOf "_law_is_value" "_law_is_value" (defArgs (top 23)) (defBody (top 23)) (defScope (top 23)) .none kV doc pm an cdv ct) ⟨us, []⟩ = pure ((["_law_thing_here", "_law_boxes", "_law_lists", "_law_deep"] : List Str).zip us) :=
  match us, hl with | [_, _, _, _], _ => rfl
theorem bi24 (kV doc pm : Value) (an : Option Addr) (cdv ct : Value) (us : List Value) (hl : us.length = (["_law_thing_here", "_law_state_here"] : List Str).length) : bindArgs (PySem.W.fnOf "_law_odd" "_law_odd" (defArgs (top 24)) (defBody (top 24)) (defScope (top 24)) .none kV doc pm an cdv ct) ⟨us, []⟩ = pure ((["_law_thing_here", "_law_state_here"] : List Str).zip us) :=
  match us, hl with | [_, _], _ => rfl
theorem bi25 (kV doc pm : Value) (an : Option Addr) (cdv ct : Value) (us : List Value) (hl : us.length = (["_law_thing_here", "_law_state_here"] : List Str).length) : bindArgs (PySem.W.fnOf "_law_spoilt" "_law_spoilt" (defArgs (top 25)) (defBody (top 25)) (defScope (top 25)) .none kV doc pm an cdv ct) ⟨us, []⟩ = pure ((["_law_thing_here", "_law_state_here"] : List Str).zip us) :=
  match us, hl with | [_, _], _ => rfl
theorem bi26 (kV doc pm : Value) (an : Option Addr) (cdv ct : Value) (us : List Value) (hl : us.length = (["_law_found", "_law_due"] : List Str).length) : bindArgs (PySem.W.fnOf "_law_same" "_law_same" (defArgs (top 26)) (defBody (top 26)) (defScope (top 26)) .none kV doc pm an cdv ct) ⟨us, []⟩ = pure ((["_law_found", "_law_due"] : List Str).zip us) :=
  match us, hl with | [_, _], _ => rfl
theorem bi27 (kV doc pm : Value) (an : Option Addr) (cdv ct : Value) (us : List Value) (hl : us.length = (["_law_state_here", "_law_boxes", "_law_lists"] : List Str).length) : bindArgs (PySem.W.fnOf "_law_thing" "_law_thing" (defArgs (top 27)) (defBody (top 27)) (defScope (top 27)) .none kV doc pm an cdv ct) ⟨us, []⟩ = pure ((["_law_state_here", "_law_boxes", "_law_lists"] : List Str).zip us) :=
  match us, hl with | [_, _, _], _ => rfl
theorem tab_mk {a a0 a1 a2 a3 a4 a5 a6 a7 a8 a9 a10 a11 : Addr} {h0 h1 h2 h3 h4 h5 h6 h7 h8 h9 h10 h11 : Int} {t0 t1 t2 t3 t4 t5 t6 t7 t8 t9 t10 t11 : Tok} {n : Nat} (l : K.lookup a = some ⟨.type "dict", none, .dict #[⟨h0, .str "number" t0, .ref a0⟩, ⟨h1, .str "box" t1, .ref a1⟩, ⟨h2, .str "plus" t2, .ref a2⟩, ⟨h3, .str "minus" t3, .ref a3⟩, ⟨h4, .str "times" t4, .ref a4⟩, ⟨h5, .str "over" t5, .ref a5⟩, ⟨h6, .str "rest" t6, .ref a6⟩, ⟨h7, .str "less" t7, .ref a7⟩, ⟨h8, .str "same" t8, .ref a8⟩, ⟨h9, .str "not" t9, .ref a9⟩, ⟨h10, .str "item" t10, .ref a10⟩, ⟨h11, .str "size" t11, .ref a11⟩] n, #[]⟩) (lo : (a == sysModules) = false)
    (e0 : h0 = PyData.keyHash w.params "number")
    (e1 : h1 = PyData.keyHash w.params "box")
    (e2 : h2 = PyData.keyHash w.params "plus")
    (e3 : h3 = PyData.keyHash w.params "minus")
    (e4 : h4 = PyData.keyHash w.params "times")
    (e5 : h5 = PyData.keyHash w.params "over")
    (e6 : h6 = PyData.keyHash w.params "rest")
    (e7 : h7 = PyData.keyHash w.params "less")
    (e8 : h8 = PyData.keyHash w.params "same")
    (e9 : h9 = PyData.keyHash w.params "not")
    (e10 : h10 = PyData.keyHash w.params "item")
    (e11 : h11 = PyData.keyHash w.params "size")
    {o0 : Obj} (l0 : K.lookup a0 = some o0) (c0 : o0.cls = .type "tuple") {m0 : Nat} {u00 : Tok} (d0 : o0.data = .seq #[.str "number" u00] m0)
    {o1 : Obj} (l1 : K.lookup a1 = some o1) (c1 : o1.cls = .type "tuple") {m1 : Nat} {u10 : Tok} (d1 : o1.data = .seq #[.str "box" u10] m1)
    {o2 : Obj} (l2 : K.lookup a2 = some o2) (c2 : o2.cls = .type "tuple") {m2 : Nat} {u20 u21 : Tok} (d2 : o2.data = .seq #[.str "value" u20, .str "value" u21] m2)
    {o3 : Obj} (l3 : K.lookup a3 = some o3) (c3 : o3.cls = .type "tuple") {m3 : Nat} {u30 u31 : Tok} (d3 : o3.data = .seq #[.str "value" u30, .str "value" u31] m3)
    {o4 : Obj} (l4 : K.lookup a4 = some o4) (c4 : o4.cls = .type "tuple") {m4 : Nat} {u40 u41 : Tok} (d4 : o4.data = .seq #[.str "value" u40, .str "value" u41] m4)
    {o5 : Obj} (l5 : K.lookup a5 = some o5) (c5 : o5.cls = .type "tuple") {m5 : Nat} {u50 u51 : Tok} (d5 : o5.data = .seq #[.str "value" u50, .str "value" u51] m5)
    {o6 : Obj} (l6 : K.lookup a6 = some o6) (c6 : o6.cls = .type "tuple") {m6 : Nat} {u60 u61 : Tok} (d6 : o6.data = .seq #[.str "value" u60, .str "value" u61] m6)
    {o7 : Obj} (l7 : K.lookup a7 = some o7) (c7 : o7.cls = .type "tuple") {m7 : Nat} {u70 u71 : Tok} (d7 : o7.data = .seq #[.str "value" u70, .str "value" u71] m7)
    {o8 : Obj} (l8 : K.lookup a8 = some o8) (c8 : o8.cls = .type "tuple") {m8 : Nat} {u80 u81 : Tok} (d8 : o8.data = .seq #[.str "value" u80, .str "value" u81] m8)
    {o9 : Obj} (l9 : K.lookup a9 = some o9) (c9 : o9.cls = .type "tuple") {m9 : Nat} {u90 : Tok} (d9 : o9.data = .seq #[.str "value" u90] m9)
    {o10 : Obj} (l10 : K.lookup a10 = some o10) (c10 : o10.cls = .type "tuple") {m10 : Nat} {u100 u101 : Tok} (d10 : o10.data = .seq #[.str "list" u100, .str "value" u101] m10)
    {o11 : Obj} (l11 : K.lookup a11 = some o11) (c11 : o11.cls = .type "tuple") {m11 : Nat} {u110 : Tok} (d11 : o11.data = .seq #[.str "list" u110] m11)
    : TabK w K a forms := by
  have nz : ∀ {x y : Str}, x ≠ y → (y == x) = false := fun h => by simpa using fun z => h z.symm
  refine ⟨⟨_, n, l, ⟨⟨_, _, rfl, e0⟩, ⟨_, _, rfl, e1⟩, ⟨_, _, rfl, e2⟩, ⟨_, _, rfl, e3⟩, ⟨_, _, rfl, e4⟩, ⟨_, _, rfl, e5⟩, ⟨_, _, rfl, e6⟩, ⟨_, _, rfl, e7⟩, ⟨_, _, rfl, e8⟩, ⟨_, _, rfl, e9⟩, ⟨_, _, rfl, e10⟩, ⟨_, _, rfl, e11⟩, trivial⟩, fun x => ?_⟩, lo⟩
  by_cases q0 : x = "number"
  · subst q0
    exact ⟨a0, by rfl, o0, _, m0, l0, c0, d0, (by show 1 ≤ sizeLine; decide), .cons ⟨_, rfl⟩ (.nil)⟩
  by_cases q1 : x = "box"
  · subst q1
    exact ⟨a1, by rfl, o1, _, m1, l1, c1, d1, (by show 1 ≤ sizeLine; decide), .cons ⟨_, rfl⟩ (.nil)⟩
  by_cases q2 : x = "plus"
  · subst q2
    exact ⟨a2, by rfl, o2, _, m2, l2, c2, d2, (by show 2 ≤ sizeLine; decide), .cons ⟨_, rfl⟩ (.cons ⟨_, rfl⟩ (.nil))⟩
  by_cases q3 : x = "minus"
  · subst q3
    exact ⟨a3, by rfl, o3, _, m3, l3, c3, d3, (by show 2 ≤ sizeLine; decide), .cons ⟨_, rfl⟩ (.cons ⟨_, rfl⟩ (.nil))⟩
  by_cases q4 : x = "times"
  · subst q4
    exact ⟨a4, by rfl, o4, _, m4, l4, c4, d4, (by show 2 ≤ sizeLine; decide), .cons ⟨_, rfl⟩ (.cons ⟨_, rfl⟩ (.nil))⟩
  by_cases q5 : x = "over"
  · subst q5
    exact ⟨a5, by rfl, o5, _, m5, l5, c5, d5, (by show 2 ≤ sizeLine; decide), .cons ⟨_, rfl⟩ (.cons ⟨_, rfl⟩ (.nil))⟩
  by_cases q6 : x = "rest"
  · subst q6
    exact ⟨a6, by rfl, o6, _, m6, l6, c6, d6, (by show 2 ≤ sizeLine; decide), .cons ⟨_, rfl⟩ (.cons ⟨_, rfl⟩ (.nil))⟩
  by_cases q7 : x = "less"
  · subst q7
    exact ⟨a7, by rfl, o7, _, m7, l7, c7, d7, (by show 2 ≤ sizeLine; decide), .cons ⟨_, rfl⟩ (.cons ⟨_, rfl⟩ (.nil))⟩
  by_cases q8 : x = "same"
  · subst q8
    exact ⟨a8, by rfl, o8, _, m8, l8, c8, d8, (by show 2 ≤ sizeLine; decide), .cons ⟨_, rfl⟩ (.cons ⟨_, rfl⟩ (.nil))⟩
  by_cases q9 : x = "not"
  · subst q9
    exact ⟨a9, by rfl, o9, _, m9, l9, c9, d9, (by show 1 ≤ sizeLine; decide), .cons ⟨_, rfl⟩ (.nil)⟩
  by_cases q10 : x = "item"
  · subst q10
    exact ⟨a10, by rfl, o10, _, m10, l10, c10, d10, (by show 2 ≤ sizeLine; decide), .cons ⟨_, rfl⟩ (.cons ⟨_, rfl⟩ (.nil))⟩
  by_cases q11 : x = "size"
  · subst q11
    exact ⟨a11, by rfl, o11, _, m11, l11, c11, d11, (by show 1 ≤ sizeLine; decide), .cons ⟨_, rfl⟩ (.nil)⟩
  have ef : forms x = none := by
    unfold forms
    rw [if_neg q0, if_neg q1, if_neg q2, if_neg q3, if_neg q4, if_neg q5, if_neg q6, if_neg q7, if_neg q8, if_neg q9, if_neg q10, if_neg q11]
  rw [ef]
  show Option.map _ (Array.find? _ _) = none
  rw [show (Array.find? (fun e : DictEntry => Value.isStrOf x e.key) #[⟨h0, .str "number" t0, .ref a0⟩, ⟨h1, .str "box" t1, .ref a1⟩, ⟨h2, .str "plus" t2, .ref a2⟩, ⟨h3, .str "minus" t3, .ref a3⟩, ⟨h4, .str "times" t4, .ref a4⟩, ⟨h5, .str "over" t5, .ref a5⟩, ⟨h6, .str "rest" t6, .ref a6⟩, ⟨h7, .str "less" t7, .ref a7⟩, ⟨h8, .str "same" t8, .ref a8⟩, ⟨h9, .str "not" t9, .ref a9⟩, ⟨h10, .str "item" t10, .ref a10⟩, ⟨h11, .str "size" t11, .ref a11⟩]) = none from by
    rw [Array.find?_eq_none]
    intro e he
    simp only [Array.mem_def, List.mem_cons, List.not_mem_nil, or_false] at he
    rcases he with rfl | rfl | rfl | rfl | rfl | rfl | rfl | rfl | rfl | rfl | rfl | rfl
    · show ¬ (("number" : Str) == x) = true; rw [nz q0]; decide
    · show ¬ (("box" : Str) == x) = true; rw [nz q1]; decide
    · show ¬ (("plus" : Str) == x) = true; rw [nz q2]; decide
    · show ¬ (("minus" : Str) == x) = true; rw [nz q3]; decide
    · show ¬ (("times" : Str) == x) = true; rw [nz q4]; decide
    · show ¬ (("over" : Str) == x) = true; rw [nz q5]; decide
    · show ¬ (("rest" : Str) == x) = true; rw [nz q6]; decide
    · show ¬ (("less" : Str) == x) = true; rw [nz q7]; decide
    · show ¬ (("same" : Str) == x) = true; rw [nz q8]; decide
    · show ¬ (("not" : Str) == x) = true; rw [nz q9]; decide
    · show ¬ (("item" : Str) == x) = true; rw [nz q10]; decide
    · show ¬ (("size" : Str) == x) = true; rw [nz q11]; decide]
  rfl
end
theorem all {P : Program} {w : World} {K : PySem.W.Frag} {mg : Str → Option Value} {base : Heap} (T : Txt w K mg)
    (S2 : Src K mg "has_word" (top 2) ["thing"])
    (S3 : Src K mg "value_kinds" (top 3) ["word"])
    (S8 : Src K mg "is_name" (top 8) ["thing"])
    (S9 : Src K mg "is_whole" (top 9) ["thing", "least", "most"])
    (S10 : Src K mg "is_number" (top 10) ["thing"])
    (S11 : Src K mg "is_value" (top 11) ["thing", "boxes", "lists"])
    (S12 : Src K mg "is_value_within" (top 12) ["thing", "boxes", "lists", "depth"])
    (S13 : Src K mg "is_part" (top 13) ["kind", "part", "boxes", "lists", "depth"])
    (S15 : Src K mg "_law_cell_at" (top 15) ["_law_script", "_law_k"])
    (S16 : Src K mg "_law_state" (top 16) ["_law_cell", "_law_k"])
    (S17 : Src K mg "_law_next" (top 17) ["_law_state_here", "_law_size"])
    (S18 : Src K mg "_law_names" (top 18) ["_law_state_here", "_law_amount"])
    (S19 : Src K mg "_law_value" (top 19) ["_law_state_here", "_law_deep", "_law_boxes", "_law_lists"])
    (S20 : Src K mg "_law_is_name" (top 20) ["_law_thing_here"])
    (S21 : Src K mg "_law_is_number" (top 21) ["_law_thing_here"])
    (S22 : Src K mg "_law_among" (top 22) ["_law_thing_here", "_law_names_here"])
    (S23 : Src K mg "_law_is_value" (top 23) ["_law_thing_here", "_law_boxes", "_law_lists", "_law_deep"])
    (S24 : Src K mg "_law_odd" (top 24) ["_law_thing_here", "_law_state_here"])
    (S25 : Src K mg "_law_spoilt" (top 25) ["_law_thing_here", "_law_state_here"])
    (S26 : Src K mg "_law_same" (top 26) ["_law_found", "_law_due"])
    (S27 : Src K mg "_law_thing" (top 27) ["_law_state_here", "_law_boxes", "_law_lists"])
    {f : Addr} {fd : FuncData} (F : Fun K "law" "law" (top 28) f fd) : FnOk P w K mg base CX0 12 f fd ["_law_script"] (spLaw K) :=
  have D_next := d_next S17
  have D_is_name := d_is_name T S8
  have D_is_number := d_is_number T (d_is_whole T S9) S10
  have D_lnumber := d_lnumber T S21
  have D_odd := d_odd T D_next S24
  d_law T D_next (d_cell_at T S15) (d_state S16) (d_names T D_next S18) (d_thing T D_next (d_value T D_next S19) (d_spoilt T D_next D_odd S25) S27)
    (d_value_all T S2 S3 D_is_name D_is_number S11 S12 S13) (d_lvalue T D_lnumber (d_among T S22) S23) (d_same T S26) D_is_name (d_lname T S20) D_is_number D_lnumber F
theorem law_mk {l : PySem.W.OpenLaw} {w : World} {K : PySem.W.Frag} {h : Heap} {mg : Str → Option Value} {fa f3 : Addr} (X : K.In h) (G : h.Ns mainGlobals mg) (hfa : mg "law" = some (.ref fa)) (T : Txt w K mg)
    (S2 : Src K mg "has_word" (top 2) ["thing"])
    (S3 : Src K mg "value_kinds" (top 3) ["word"])
    (S8 : Src K mg "is_name" (top 8) ["thing"])
    (S9 : Src K mg "is_whole" (top 9) ["thing", "least", "most"])
    (S10 : Src K mg "is_number" (top 10) ["thing"])
    (S11 : Src K mg "is_value" (top 11) ["thing", "boxes", "lists"])
    (S12 : Src K mg "is_value_within" (top 12) ["thing", "boxes", "lists", "depth"])
    (S13 : Src K mg "is_part" (top 13) ["kind", "part", "boxes", "lists", "depth"])
    (S15 : Src K mg "_law_cell_at" (top 15) ["_law_script", "_law_k"])
    (S16 : Src K mg "_law_state" (top 16) ["_law_cell", "_law_k"])
    (S17 : Src K mg "_law_next" (top 17) ["_law_state_here", "_law_size"])
    (S18 : Src K mg "_law_names" (top 18) ["_law_state_here", "_law_amount"])
    (S19 : Src K mg "_law_value" (top 19) ["_law_state_here", "_law_deep", "_law_boxes", "_law_lists"])
    (S20 : Src K mg "_law_is_name" (top 20) ["_law_thing_here"])
    (S21 : Src K mg "_law_is_number" (top 21) ["_law_thing_here"])
    (S22 : Src K mg "_law_among" (top 22) ["_law_thing_here", "_law_names_here"])
    (S23 : Src K mg "_law_is_value" (top 23) ["_law_thing_here", "_law_boxes", "_law_lists", "_law_deep"])
    (S24 : Src K mg "_law_odd" (top 24) ["_law_thing_here", "_law_state_here"])
    (S25 : Src K mg "_law_spoilt" (top 25) ["_law_thing_here", "_law_state_here"])
    (S26 : Src K mg "_law_same" (top 26) ["_law_found", "_law_due"])
    (S27 : Src K mg "_law_thing" (top 27) ["_law_state_here", "_law_boxes", "_law_lists"])
    {od3 an3 : Option Addr} {sl3 : Array (Option Value)} {oc3 kV3 dc3 pm3 cd3 ct3 : Value}
    (a3 : PySem.W.nsIn K mainGlobals "law" = some (some (.ref f3))) (l3 : K.lookup f3 = some ⟨oc3, od3, .func (PySem.W.fnOf "law" "law" (defArgs (top 28)) (defBody (top 28)) (defScope (top 28)) .none kV3 dc3 pm3 an3 cd3 ct3), sl3⟩) (c3 : PySem.W.codeIn K cd3 "law" = true) (k3 : PySem.W.keepIn K (.ref f3) = true) :
    ∃ fd : FuncData, (∀ (s : Shared) (v : Value), BindsTo s fd ⟨[v], []⟩ [("_law_script", v)]) ∧ ∀ base : Heap, K.In base → base.Ns mainGlobals mg → FnOk l.prog w K mg base CX0 12 fa fd ["_law_script"] (spLaw K) := by
  have e := hfa.symm.trans (PySem.W.mg_of X G a3)
  cases e
  have F3 := fun_mk (st := top 28) l3 c3 k3
  refine ⟨PySem.W.fnOf "law" "law" (defArgs (top 28)) (defBody (top 28)) (defScope (top 28)) .none kV3 dc3 pm3 an3 cd3 ct3, fun s v => .of_eq rfl, fun base _ _ => ?_⟩
  exact all T S2 S3 S8 S9 S10 S11 S12 S13 S15 S16 S17 S18 S19 S20 S21 S22 S23 S24 S25 S26 S27 F3
theorem txt_mk {w : World} {K : PySem.W.Frag} {h : Heap} {mg : Str → Option Value} (X : K.In h) (G : h.Ns mainGlobals mg) {t1 t2 t3 : Tok} {a : Addr}
    (z0 : PySem.W.nsIn K mainGlobals "len" = some none) (z1 : PySem.W.nsIn K mainGlobals "isinstance" = some none) (z2 : PySem.W.nsIn K mainGlobals "all" = some none) (z3 : PySem.W.nsIn K mainGlobals "zip" = some none) (z4 : PySem.W.nsIn K mainGlobals "range" = some none) (z5 : PySem.W.nsIn K mainGlobals "list" = some none) (z6 : PySem.W.nsIn K mainGlobals "tuple" = some none) (z7 : PySem.W.nsIn K mainGlobals "str" = some none) (z8 : PySem.W.nsIn K mainGlobals "int" = some none) (z9 : PySem.W.nsIn K mainGlobals "bool" = some none)
    (m1 : PySem.W.nsIn K mainGlobals "MOST_LETTERS" = some (some (.int 6 t1))) (m2 : PySem.W.nsIn K mainGlobals "GREATEST" = some (some (.int 999999 t2))) (m3 : PySem.W.nsIn K mainGlobals "DEEPEST" = some (some (.int 4 t3)))
    (m4 : PySem.W.nsIn K mainGlobals "VALUE_FORMS" = some (some (.ref a))) (tab : TabK w K a forms) : Txt w K mg :=
  ⟨PySem.W.mg_none_of X G z0, PySem.W.mg_none_of X G z1, PySem.W.mg_none_of X G z2, PySem.W.mg_none_of X G z3, PySem.W.mg_none_of X G z4, PySem.W.mg_none_of X G z5, PySem.W.mg_none_of X G z6, PySem.W.mg_none_of X G z7, PySem.W.mg_none_of X G z8, PySem.W.mg_none_of X G z9, ⟨_, PySem.W.mg_of X G m1⟩, ⟨_, PySem.W.mg_of X G m2⟩, ⟨_, PySem.W.mg_of X G m3⟩, ⟨_, PySem.W.mg_of X G m4, tab⟩⟩
theorem walk {l : PySem.W.OpenLaw} {q : Program} {loose : List Str} {XP : (Str → Option Value) → Heap → Prop} {YP : World → Heap → Prop} {d : DefRec} {K : Params → PySem.W.Frag} (hn : l.most = some 63) (hdf : d.params.defaults = [])
    (hY : ∀ (w : World) (h : Heap), YP w h → (K w.params).In h)
    (F : ∀ (w : World) (mg : Str → Option Value) (fa : Addr) (h : Heap), (K w.params).In h → h.Ns mainGlobals mg → mg d.name = some (.ref fa) →
      ∃ fd : FuncData, (∀ (s : Shared) (u : Value), BindsTo s fd ⟨[u], []⟩ [("_law_script", u)]) ∧ ∀ base : Heap, (K w.params).In base → base.Ns mainGlobals mg → FnOk l.prog w (K w.params) mg base CX0 12 fa fd ["_law_script"] (spLaw (K w.params))) :
    PySem.W.WalkO q loose XP YP l.row.toRowW d [] (fun f vs => PySem.call f vs) :=
  L2.walk_of (n := 63) (k := 12) (x := "_law_script") (CX := fun _ => CX0) (sp := fun w => spLaw (K w.params)) hn (by decide) hdf ⟨rfl, by decide, by decide⟩ hY F (fun _ _ a ns hl _ hS => ⟨a, ns, rfl, hS, fun _ => rfl⟩) fun _ _ _ _ _ z => z
end K01

set_option Elab.async false
set_option linter.all false
open PySem PySem.W PyProof.Rows
set_option maxRecDepth 100000 in
set_option maxHeartbeats 0 in
theorem PySem.Challenge.cw_retrace_k01_names_numbers_values_holds : PySem.Challenge.rw_retrace_k01_names_numbers_values.Holds := by
  w_on; o_law; k_head; (case hw => w_witness2)
  k_fill
  refine K01.walk (l := PySem.Challenge.rw_retrace_k01_names_numbers_values) rfl rfl (fun w h Y => PySem.W.kIn_of Y) ?F
  case F =>
    intro w mg fa h KX G hmg
    refine' K01.law_mk KX G hmg ?T ?S2 ?S3 ?S8 ?S9 ?S10 ?S11 ?S12 ?S13 ?S15 ?S16 ?S17 ?S18 ?S19 ?S20 ?S21 ?S22 ?S23 ?S24 ?S25 ?S26 ?S27 ?a3 ?l3 ?c3 ?k3
    (case a3 => k_is); (case l3 => k_is); (case c3 => k_is); (case k3 => k_is)
    (case S2 => refine' K01.src_mk KX G K01.bi2 ?a ?l ?c ?k; (case a => k_is); (case l => k_is); (case c => k_is); (case k => k_is))
    (case S3 => refine' K01.src_mk KX G K01.bi3 ?a ?l ?c ?k; (case a => k_is); (case l => k_is); (case c => k_is); (case k => k_is))
    (case S8 => refine' K01.src_mk KX G K01.bi8 ?a ?l ?c ?k; (case a => k_is); (case l => k_is); (case c => k_is); (case k => k_is))
    (case S9 => refine' K01.src_mk KX G K01.bi9 ?a ?l ?c ?k; (case a => k_is); (case l => k_is); (case c => k_is); (case k => k_is))
    (case S10 => refine' K01.src_mk KX G K01.bi10 ?a ?l ?c ?k; (case a => k_is); (case l => k_is); (case c => k_is); (case k => k_is))
    (case S11 => refine' K01.src_mk KX G K01.bi11 ?a ?l ?c ?k; (case a => k_is); (case l => k_is); (case c => k_is); (case k => k_is))
    (case S12 => refine' K01.src_mk KX G K01.bi12 ?a ?l ?c ?k; (case a => k_is); (case l => k_is); (case c => k_is); (case k => k_is))
    (case S13 => refine' K01.src_mk KX G K01.bi13 ?a ?l ?c ?k; (case a => k_is); (case l => k_is); (case c => k_is); (case k => k_is))
    (case S15 => refine' K01.src_mk KX G K01.bi15 ?a ?l ?c ?k; (case a => k_is); (case l => k_is); (case c => k_is); (case k => k_is))
    (case S16 => refine' K01.src_mk KX G K01.bi16 ?a ?l ?c ?k; (case a => k_is); (case l => k_is); (case c => k_is); (case k => k_is))
    (case S17 => refine' K01.src_mk KX G K01.bi17 ?a ?l ?c ?k; (case a => k_is); (case l => k_is); (case c => k_is); (case k => k_is))
    (case S18 => refine' K01.src_mk KX G K01.bi18 ?a ?l ?c ?k; (case a => k_is); (case l => k_is); (case c => k_is); (case k => k_is))
    (case S19 => refine' K01.src_mk KX G K01.bi19 ?a ?l ?c ?k; (case a => k_is); (case l => k_is); (case c => k_is); (case k => k_is))
    (case S20 => refine' K01.src_mk KX G K01.bi20 ?a ?l ?c ?k; (case a => k_is); (case l => k_is); (case c => k_is); (case k => k_is))
    (case S21 => refine' K01.src_mk KX G K01.bi21 ?a ?l ?c ?k; (case a => k_is); (case l => k_is); (case c => k_is); (case k => k_is))
    (case S22 => refine' K01.src_mk KX G K01.bi22 ?a ?l ?c ?k; (case a => k_is); (case l => k_is); (case c => k_is); (case k => k_is))
    (case S23 => refine' K01.src_mk KX G K01.bi23 ?a ?l ?c ?k; (case a => k_is); (case l => k_is); (case c => k_is); (case k => k_is))
    (case S24 => refine' K01.src_mk KX G K01.bi24 ?a ?l ?c ?k; (case a => k_is); (case l => k_is); (case c => k_is); (case k => k_is))
    (case S25 => refine' K01.src_mk KX G K01.bi25 ?a ?l ?c ?k; (case a => k_is); (case l => k_is); (case c => k_is); (case k => k_is))
    (case S26 => refine' K01.src_mk KX G K01.bi26 ?a ?l ?c ?k; (case a => k_is); (case l => k_is); (case c => k_is); (case k => k_is))
    (case S27 => refine' K01.src_mk KX G K01.bi27 ?a ?l ?c ?k; (case a => k_is); (case l => k_is); (case c => k_is); (case k => k_is))
    (case T =>
      refine' K01.txt_mk KX G ?z0 ?z1 ?z2 ?z3 ?z4 ?z5 ?z6 ?z7 ?z8 ?z9 ?m1 ?m2 ?m3 ?m4 ?tab
      (case z0 => k_is); (case z1 => k_is); (case z2 => k_is); (case z3 => k_is); (case z4 => k_is); (case z5 => k_is); (case z6 => k_is); (case z7 => k_is); (case z8 => k_is); (case z9 => k_is)
      (case m1 => k_is); (case m2 => k_is); (case m3 => k_is); (case m4 => k_is)
      (case tab =>
        refine' K01.tab_mk ?l ?lo ?e0 ?e1 ?e2 ?e3 ?e4 ?e5 ?e6 ?e7 ?e8 ?e9 ?e10 ?e11 ?l0 ?c0 ?d0 ?l1 ?c1 ?d1 ?l2 ?c2 ?d2 ?l3 ?c3 ?d3 ?l4 ?c4 ?d4 ?l5 ?c5 ?d5 ?l6 ?c6 ?d6 ?l7 ?c7 ?d7 ?l8 ?c8 ?d8 ?l9 ?c9 ?d9 ?l10 ?c10 ?d10 ?l11 ?c11 ?d11
        (case l => k_is); (case lo => decide)
        (case e0 => rfl); (case e1 => rfl); (case e2 => rfl); (case e3 => rfl); (case e4 => rfl); (case e5 => rfl); (case e6 => rfl); (case e7 => rfl); (case e8 => rfl); (case e9 => rfl); (case e10 => rfl); (case e11 => rfl)
        (case l0 => k_is); (case c0 => rfl); (case d0 => rfl)
        (case l1 => k_is); (case c1 => rfl); (case d1 => rfl)
        (case l2 => k_is); (case c2 => rfl); (case d2 => rfl)
        (case l3 => k_is); (case c3 => rfl); (case d3 => rfl)
        (case l4 => k_is); (case c4 => rfl); (case d4 => rfl)
        (case l5 => k_is); (case c5 => rfl); (case d5 => rfl)
        (case l6 => k_is); (case c6 => rfl); (case d6 => rfl)
        (case l7 => k_is); (case c7 => rfl); (case d7 => rfl)
        (case l8 => k_is); (case c8 => rfl); (case d8 => rfl)
        (case l9 => k_is); (case c9 => rfl); (case d9 => rfl)
        (case l10 => k_is); (case c10 => rfl); (case d10 => rfl)
        (case l11 => k_is); (case c11 => rfl); (case d11 => rfl)))

